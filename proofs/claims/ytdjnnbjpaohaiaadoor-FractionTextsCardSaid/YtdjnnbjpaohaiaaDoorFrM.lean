/- Layer 4 (fraction), plain maths: the digits of a long division; products and sums in lowest terms; terms in lowest terms. -/
import Derived.Lib.Hide
namespace Go.Proofs.YtdjnnbjpaohaiaaDoor
/-- The quotient that a digit of the division stands for. -/
def knQ (y1 y0 u v : Nat) : Nat := (u * 4294967296 + v) / (y1 * 4294967296 + y0)
theorem kn_lt {y1 y0 u v : Nat} (_ : 2147483648 ≤ y1) (hv : v < 4294967296) (hu : u < y1 * 4294967296 + y0) : knQ y1 y0 u v < 4294967296 := by
  unfold knQ
  rw [Nat.div_lt_iff_lt_mul (by omega)]
  omega
theorem kn_le {y1 y0 u v q : Nat} (h1 : 2147483648 ≤ y1) (h : q * (y1 * 4294967296 + y0) ≤ u * 4294967296 + v) : q ≤ knQ y1 y0 u v := by
  unfold knQ
  rw [Nat.le_div_iff_mul_le (by omega)]
  exact h
theorem kn_ge {y1 y0 u v q : Nat} (h1 : 2147483648 ≤ y1) (h : u * 4294967296 + v < q * (y1 * 4294967296 + y0)) : knQ y1 y0 u v < q := by
  unfold knQ
  rw [Nat.div_lt_iff_lt_mul (by omega)]
  exact h
theorem kn_start {y1 y0 u v : Nat} (h1 : 2147483648 ≤ y1) (h0 : y0 < 4294967296) (hv : v < 4294967296) (hu : u < y1 * 4294967296 + y0) : knQ y1 y0 u v ≤ u / y1 ∧ u / y1 ≤ 4294967297 := by
  constructor
  · rw [Nat.le_div_iff_mul_le (by omega)]
    have h : knQ y1 y0 u v * (y1 * 4294967296 + y0) ≤ u * 4294967296 + v := Nat.div_mul_le_self _ _
    generalize knQ y1 y0 u v = q at h
    rw [Nat.mul_add, ← Nat.mul_assoc] at h
    generalize q * y1 = a at h ⊢
    generalize q * y0 = b at h
    omega
  · have : u / y1 < 4294967298 := by
      rw [Nat.div_lt_iff_lt_mul (by omega)]
      omega
    omega
theorem kn_dec {y1 y0 u v q r : Nat} (h1 : 2147483648 ≤ y1) (hv : v < 4294967296) (hu : u < y1 * 4294967296 + y0) (hr : q * y1 + r = u) (h : 4294967296 ≤ q ∨ 4294967296 * r + v < q * y0) : knQ y1 y0 u v < q := by
  rcases h with h | h
  · exact Nat.lt_of_lt_of_le (kn_lt h1 hv hu) h
  · refine kn_ge h1 ?_
    rw [Nat.mul_add, ← Nat.mul_assoc]
    generalize q * y1 = a at hr ⊢
    generalize q * y0 = b at h ⊢
    omega
theorem kn_stop {y1 y0 u v q r : Nat} (h1 : 2147483648 ≤ y1) (hr : q * y1 + r = u) (hq : knQ y1 y0 u v ≤ q) (h : q * y0 ≤ 4294967296 * r + v) : q = knQ y1 y0 u v := by
  refine Nat.le_antisymm (kn_le h1 ?_) hq
  rw [Nat.mul_add, ← Nat.mul_assoc]
  generalize q * y1 = a at hr ⊢
  generalize q * y0 = b at h ⊢
  omega
theorem kn_break {y1 y0 u v q r : Nat} (h1 : 2147483648 ≤ y1) (h0 : y0 < 4294967296) (hr : q * y1 + r = u) (hq : knQ y1 y0 u v ≤ q) (h2 : q ≤ 4294967296) (h : 4294967296 ≤ r) : q = knQ y1 y0 u v := by
  refine kn_stop h1 hr hq ?_
  have : q * y0 ≤ 4294967296 * 4294967295 := Nat.mul_le_mul h2 (by omega)
  omega
theorem kn_y0 {q y0 : Nat} (h0 : y0 < 4294967296) (hq : q ≤ 4294967297) : q * y0 < 18446744073709551616 := by
  have : q * y0 ≤ 4294967297 * 4294967295 := Nat.mul_le_mul hq (by omega)
  omega
/-- Two digits of the division together. -/
theorem kn_two (Y u v w : Nat) (hY : 0 < Y) : (u * 18446744073709551616 + (v * 4294967296 + w)) / Y = (u * 4294967296 + v) / Y * 4294967296 + ((u * 4294967296 + v) % Y * 4294967296 + w) / Y ∧
    (u * 18446744073709551616 + (v * 4294967296 + w)) % Y = ((u * 4294967296 + v) % Y * 4294967296 + w) % Y := by
  have e : u * 18446744073709551616 + (v * 4294967296 + w) = Y * ((u * 4294967296 + v) / Y * 4294967296) + ((u * 4294967296 + v) % Y * 4294967296 + w) := by
    have := Nat.div_add_mod (u * 4294967296 + v) Y
    rw [← Nat.mul_assoc]
    generalize Y * ((u * 4294967296 + v) / Y) = a at this ⊢
    generalize (u * 4294967296 + v) % Y = b at this ⊢
    omega
  rw [e]
  exact ⟨by rw [Nat.mul_add_div hY], by rw [Nat.mul_add_mod]⟩
theorem mul_parts {an bn ad bd : Nat} (ha : Nat.gcd an ad = 1) (hb : Nat.gcd bn bd = 1) : Nat.gcd (an * bn) (ad * bd) = Nat.gcd an bd * Nat.gcd bn ad := by
  have ha : Nat.Coprime an ad := ha
  have hb : Nat.Coprime bn bd := hb
  obtain ⟨a', b2, c1, e1, e2⟩ := Nat.exists_coprime an bd
  obtain ⟨b', a2, c2, e3, e4⟩ := Nat.exists_coprime bn ad
  generalize Nat.gcd an bd = g at e1 e2 ⊢
  generalize Nat.gcd bn ad = h at e3 e4 ⊢
  subst e1 e2 e3 e4
  rw [show a' * g * (b' * h) = g * h * (a' * b') by grind, show a2 * h * (b2 * g) = g * h * (a2 * b2) by grind, Nat.gcd_mul_left]
  have h1 : Nat.Coprime a' a2 := (ha.coprime_mul_right).coprime_mul_right_right
  have h2 : Nat.Coprime b' b2 := (hb.coprime_mul_right).coprime_mul_right_right
  have := (h1.mul_right c1).mul_left (c2.mul_right h2)
  rw [this.gcd_eq_one, Nat.mul_one]
theorem mul_quot {an bn ad bd : Nat} (ha : Nat.gcd an ad = 1) (hb : Nat.gcd bn bd = 1) (pa : 0 < ad) (pb : 0 < bd) :
    an * bn / Nat.gcd (an * bn) (ad * bd) = an / Nat.gcd an bd * (bn / Nat.gcd bn ad) ∧ ad * bd / Nat.gcd (an * bn) (ad * bd) = ad / Nat.gcd bn ad * (bd / Nat.gcd an bd) := by
  rw [mul_parts ha hb]
  have p1 : 0 < Nat.gcd an bd := Nat.gcd_pos_of_pos_right _ pb
  have p2 : 0 < Nat.gcd bn ad := Nat.gcd_pos_of_pos_right _ pa
  have d1 := Nat.gcd_dvd_left an bd
  have d2 := Nat.gcd_dvd_right an bd
  have d3 := Nat.gcd_dvd_left bn ad
  have d4 := Nat.gcd_dvd_right bn ad
  constructor
  · exact (Nat.div_mul_div_comm d1 d3).symm
  · rw [Nat.mul_comm (Nat.gcd an bd)]
    exact (Nat.div_mul_div_comm d4 d2).symm
/-- The sum: what divides it and its denominator. (s: the size of the sum.) -/
theorem gcd_natAbs_left {g : Nat} {x y : Int} (h : (g : Int) ∣ x + y) (hx : (g : Int) ∣ x) : (g : Int) ∣ y := (Int.dvd_add_right hx).1 h
theorem sum_coprime {an bn : Int} {pA pB : Nat} (h1 : Nat.gcd an.natAbs pA = 1) (h2 : Nat.gcd pA pB = 1) : Nat.gcd (an * pB + bn * pA).natAbs pA = 1 := by
  have hd : Nat.gcd (an * pB + bn * pA).natAbs pA ∣ an.natAbs * pB := by
    have k1 : ((Nat.gcd (an * pB + bn * pA).natAbs pA : Nat) : Int) ∣ an * pB + bn * pA := Int.ofNat_dvd_left.2 (Nat.gcd_dvd_left _ _)
    have k2 : ((Nat.gcd (an * pB + bn * pA).natAbs pA : Nat) : Int) ∣ bn * pA := Int.dvd_trans (Int.ofNat_dvd.2 (Nat.gcd_dvd_right _ _)) (Int.dvd_mul_left _ _)
    have k3 := (Int.dvd_add_left k2).1 k1
    have := Int.ofNat_dvd_left.1 k3
    rwa [Int.natAbs_mul] at this
  have hp := Nat.gcd_dvd_right (an * pB + bn * pA).natAbs pA
  generalize Nat.gcd (an * pB + bn * pA).natAbs pA = g at hd hp
  have c2 : Nat.Coprime g pB := Nat.Coprime.coprime_dvd_left hp h2
  have := c2.dvd_of_dvd_mul_right hd
  have c1 : Nat.Coprime g an.natAbs := Nat.Coprime.coprime_dvd_left hp (Nat.Coprime.symm h1)
  exact c1.eq_one_of_dvd this
theorem add_parts {an bn : Int} {ad bd : Nat} (ha : Nat.gcd an.natAbs ad = 1) (hb : Nat.gcd bn.natAbs bd = 1) (pa : 0 < ad) (_ : 0 < bd) (g pA pB S h : Nat) (hg : g = Nat.gcd ad bd) (hA : pA = ad / g) (hB : pB = bd / g) (hS : S = (an * pB + bn * pA).natAbs) (hh : h = Nat.gcd g (S % g)) :
    (an * bd + bn * ad).natAbs = g * S ∧ ad * bd = g * (pA * bd) ∧ h ∣ S ∧ h ∣ bd ∧ 0 < h ∧ Nat.gcd (an * bd + bn * ad).natAbs (ad * bd) = g * h := by
  have pg : 0 < g := hg ▸ Nat.gcd_pos_of_pos_left _ pa
  have e1 : ad = g * pA := by rw [hA, Nat.mul_div_cancel' (hg ▸ Nat.gcd_dvd_left _ _)]
  have e2 : bd = g * pB := by rw [hB, Nat.mul_div_cancel' (hg ▸ Nat.gcd_dvd_right _ _)]
  have hAB : Nat.gcd pA pB = 1 := by rw [hA, hB, hg]; exact Nat.coprime_div_gcd_div_gcd (hg ▸ pg)
  have hh' : h = Nat.gcd S g := by rw [hh, Nat.gcd_comm g, ← Nat.gcd_rec, Nat.gcd_comm]
  have hN : (an * bd + bn * ad).natAbs = g * S := by
    rw [hS, show an * (bd : Int) + bn * ad = (g : Int) * (an * pB + bn * pA) by rw [e1, e2]; simp only [Int.natCast_mul]; grind, Int.natAbs_mul, Int.natAbs_natCast]
  have cA : Nat.Coprime S pA := by
    rw [hS]; exact sum_coprime (Nat.Coprime.coprime_dvd_right ⟨g, by rw [e1, Nat.mul_comm]⟩ ha) hAB
  have cB : Nat.Coprime S pB := by
    rw [hS, Int.add_comm]; exact sum_coprime (Nat.Coprime.coprime_dvd_right ⟨g, by rw [e2, Nat.mul_comm]⟩ hb) (by rw [Nat.gcd_comm]; exact hAB)
  refine ⟨hN, by rw [e1]; grind, hh' ▸ Nat.gcd_dvd_left _ _, hh' ▸ Nat.dvd_trans (Nat.gcd_dvd_right _ _) ⟨pB, e2⟩, hh' ▸ Nat.gcd_pos_of_pos_right _ pg, ?_⟩
  rw [hN, show ad * bd = g * (pA * bd) by rw [e1]; grind, Nat.gcd_mul_left, cA.symm.gcd_mul_left_cancel_right, e2, Nat.mul_comm g pB, cB.symm.gcd_mul_left_cancel_right, hh']
theorem add_quot {an bn : Int} {ad bd : Nat} (ha : Nat.gcd an.natAbs ad = 1) (hb : Nat.gcd bn.natAbs bd = 1) (pa : 0 < ad) (pb : 0 < bd) (g pA pB S h : Nat) (hg : g = Nat.gcd ad bd) (hA : pA = ad / g) (hB : pB = bd / g) (hS : S = (an * pB + bn * pA).natAbs) (hh : h = Nat.gcd g (S % g)) :
    (an * bd + bn * ad).natAbs / Nat.gcd (an * bd + bn * ad).natAbs (ad * bd) = S / h ∧ ad * bd / Nat.gcd (an * bd + bn * ad).natAbs (ad * bd) = pA * (bd / h) := by
  obtain ⟨k1, k2, k3, k4, k5, k6⟩ := add_parts ha hb pa pb g pA pB S h hg hA hB hS hh
  have pg : 0 < g := hg ▸ Nat.gcd_pos_of_pos_left _ pa
  rw [k6]
  constructor
  · rw [k1, Nat.mul_div_mul_left _ _ pg]
  · rw [k2, Nat.mul_div_mul_left _ _ pg, Nat.mul_div_assoc _ k4]
/-- The terms of n / d in lowest terms. -/
def numR (n : Int) (d : Nat) : Int := cond (decide (n < 0)) (-((n.natAbs / Nat.gcd n.natAbs d : Nat) : Int)) ((n.natAbs / Nat.gcd n.natAbs d : Nat) : Int)
def denR (n : Int) (d : Nat) : Nat := d / Nat.gcd n.natAbs d
theorem numR_natAbs (n : Int) (d : Nat) : (numR n d).natAbs = n.natAbs / Nat.gcd n.natAbs d := by
  unfold numR
  cases decide (n < 0) <;> simp only [cond_true, cond_false, Int.natAbs_neg, Int.natAbs_natCast]
theorem red_spec {n : Int} {d : Nat} (hd : 0 < d) : n * denR n d = numR n d * d ∧ Nat.gcd (numR n d).natAbs (denR n d) = 1 ∧ 0 < denR n d := by
  have pg : 0 < Nat.gcd n.natAbs d := Nat.gcd_pos_of_pos_right _ hd
  have k1 := Nat.div_mul_cancel (Nat.gcd_dvd_left n.natAbs d)
  have k2 := Nat.div_mul_cancel (Nat.gcd_dvd_right n.natAbs d)
  have k3 := Nat.coprime_div_gcd_div_gcd pg
  have hn := numR_natAbs n d
  have hs : numR n d = ((n.natAbs / Nat.gcd n.natAbs d : Nat) : Int) ∧ 0 ≤ n ∨ numR n d = -((n.natAbs / Nat.gcd n.natAbs d : Nat) : Int) ∧ n ≤ 0 := by
    unfold numR
    by_cases h : n < 0
    · rw [decide_eq_true h]; exact .inr ⟨rfl, by omega⟩
    · rw [decide_eq_false h]; exact .inl ⟨rfl, by omega⟩
  refine ⟨?_, by rw [hn]; exact k3, Nat.div_pos (Nat.le_of_dvd hd (Nat.gcd_dvd_right _ _)) pg⟩
  unfold denR
  generalize Nat.gcd n.natAbs d = g at *
  generalize n.natAbs / g = a at *
  generalize d / g = b at *
  rcases hs with ⟨h1, h2⟩ | ⟨h1, h2⟩
  · have e : n = ((a * g : Nat) : Int) := by omega
    rw [h1, e, ← k2]; simp only [Int.natCast_mul]; grind
  · have e : n = -((a * g : Nat) : Int) := by omega
    rw [h1, e, ← k2]; simp only [Int.natCast_mul]; grind
theorem frac_eq {p p' : Int} {q q' : Nat} (h : Nat.gcd p.natAbs q = 1) (h' : Nat.gcd p'.natAbs q' = 1) (_ : 0 < q) (e : p * q' = p' * q) : p = p' ∧ q = q' := by
  have k : p.natAbs * q' = p'.natAbs * q := by
    have := congrArg Int.natAbs e
    rwa [Int.natAbs_mul, Int.natAbs_mul, Int.natAbs_natCast, Int.natAbs_natCast] at this
  have d1 : q ∣ q' := Nat.Coprime.dvd_of_dvd_mul_left (Nat.Coprime.symm h) ⟨p'.natAbs, by rw [k, Nat.mul_comm]⟩
  have d2 : q' ∣ q := Nat.Coprime.dvd_of_dvd_mul_left (Nat.Coprime.symm h') ⟨p.natAbs, by rw [← k, Nat.mul_comm]⟩
  have hqq := Nat.dvd_antisymm d1 d2
  subst hqq
  exact ⟨Int.eq_of_mul_eq_mul_right (by omega) e, rfl⟩
theorem red_eq {n p : Int} {d q : Nat} (hd : 0 < d) (h : Nat.gcd p.natAbs q = 1) (_ : 0 < q) (e : n * q = p * d) : numR n d = p ∧ denR n d = q := by
  obtain ⟨h1, h2, h3⟩ := red_spec (n := n) hd
  refine frac_eq h2 h h3 ?_
  refine Int.eq_of_mul_eq_mul_right (a := (d : Int)) (by omega) ?_
  have : numR n d * q * d = n * denR n d * q := by rw [h1]; grind
  rw [this, show n * (denR n d : Int) * q = n * q * denR n d by grind, e]; grind
theorem red_cross {n n' : Int} {d d' : Nat} (hd : 0 < d) (hd' : 0 < d') (e : n * d' = n' * d) : numR n d = numR n' d' ∧ denR n d = denR n' d' := by
  obtain ⟨h1, h2, h3⟩ := red_spec (n := n') hd'
  refine red_eq hd h2 h3 ?_
  refine Int.eq_of_mul_eq_mul_right (a := (d' : Int)) (by omega) ?_
  rw [show n * (denR n' d' : Int) * d' = n * d' * denR n' d' by grind, e, show n' * (d : Int) * denR n' d' = n' * denR n' d' * d by grind, h1]; grind
end Go.Proofs.YtdjnnbjpaohaiaaDoor
