/- Layer 4 (fraction): the mathematics of sums and products in lowest terms. -/
import Derived.Test.YtdjnnbjpaohaiaaDoorFrS
namespace Go.Proofs.YtdjnnbjpaohaiaaDoor
open Go.RowKit Go.Ev
set_option maxRecDepth 100000

theorem redI_cond (n : Int) (d : Nat) : redI n d = cond (lowB (numR n d).natAbs (denR n d)) (numR n d, (denR n d : Int), 0) (0, 0, 6) := by
  rw [numR_natAbs]; rfl
theorem redI_cross {n n' : Int} {d d' : Nat} (hd : 0 < d) (hd' : 0 < d') (e : n * d' = n' * d) : redI n d = redI n' d' := by
  obtain ⟨h1, h2⟩ := red_cross hd hd' e
  rw [redI_cond, redI_cond, h1, h2]
theorem redI_valid {n p q : Int} {d : Nat} (hd : 0 < d) (hv : validF p q = true) (e : n * q = p * d) : redI n d = (p, q, 0) := by
  obtain ⟨a1, a2, a3, a4⟩ := validF_t hv
  obtain ⟨h1, h2⟩ := red_eq (q := q.natAbs) hd a4 (by omega) (by rw [natd a1]; exact e)
  rw [redI_cond, h1, h2, show lowB p.natAbs q.natAbs = true by unfold lowB; rw [decide_eq_true a3, decide_eq_true (by omega)]; rfl, natd a1]
  rfl
theorem redI_ok {n : Int} {d : Nat} (hd : 0 < d) (h : (redI n d).2.2 = 0) : validF (redI n d).1 (redI n d).2.1 = true ∧ (redI n d).1 * d = n * (redI n d).2.1 := by
  refine ⟨redX_ok hd h, ?_⟩
  rw [redI_cond] at h ⊢
  cases hb : lowB (numR n d).natAbs (denR n d) with
  | false => rw [hb] at h; cases h
  | true => exact (red_spec hd).1.symm
theorem den_cast {ad bd : Int} (h1 : 1 ≤ ad) (h2 : 1 ≤ bd) : ((ad.natAbs * bd.natAbs : Nat) : Int) = ad * bd := by rw [Int.natCast_mul, natd h1, natd h2]
theorem den_pos {ad bd : Int} (h1 : 1 ≤ ad) (h2 : 1 ≤ bd) : 0 < ad.natAbs * bd.natAbs := Nat.mul_pos (by omega) (by omega)
theorem addX_comm (an ad bn bd : Int) : addX an ad bn bd = addX bn bd an ad := by
  unfold addX
  rw [Bool.and_comm, Int.add_comm, Nat.mul_comm]
theorem mulX_comm (an ad bn bd : Int) : mulX an ad bn bd = mulX bn bd an ad := by
  unfold mulX
  rw [Bool.and_comm, Nat.mul_comm an.natAbs, Nat.mul_comm ad.natAbs, bne_comm]
theorem mulX_valid {an ad bn bd : Int} (hv1 : validF an ad = true) (hv2 : validF bn bd = true) : mulX an ad bn bd = redI (an * bn) (ad.natAbs * bd.natAbs) := by
  unfold mulX
  rw [hv1, hv2]
  exact redI_sign (by rw [Int.natCast_mul]; exact (sign_mul an bn _ rfl).symm)
/-- What a right result says. -/
theorem ok_valid {an ad bn bd : Int} {X : Int × Int × Int} {c : Int × Int × Int} (h : X = cond (validF an ad && validF bn bd) c (0, 0, 1)) (h0 : X.2.2 = 0) : validF an ad = true ∧ validF bn bd = true := by
  cases h1 : validF an ad with
  | false => rw [h1] at h; subst h; cases h0
  | true =>
    cases h2 : validF bn bd with
    | false => rw [h1, h2] at h; subst h; cases h0
    | true => exact ⟨rfl, rfl⟩
theorem add_ok {an ad bn bd : Int} (h : (addX an ad bn bd).2.2 = 0) : validF an ad = true ∧ validF bn bd = true ∧ validF (addX an ad bn bd).1 (addX an ad bn bd).2.1 = true ∧ (addX an ad bn bd).1 * (ad * bd) = (an * bd + bn * ad) * (addX an ad bn bd).2.1 := by
  obtain ⟨h1, h2⟩ := ok_valid rfl h
  have p1 := (validF_t h1).1
  have p2 := (validF_t h2).1
  rw [addX_valid h1 h2] at h ⊢
  obtain ⟨k1, k2⟩ := redI_ok (den_pos p1 p2) h
  rw [den_cast p1 p2] at k2
  exact ⟨h1, h2, k1, k2⟩
theorem mul_ok {an ad bn bd : Int} (h : (mulX an ad bn bd).2.2 = 0) : validF an ad = true ∧ validF bn bd = true ∧ validF (mulX an ad bn bd).1 (mulX an ad bn bd).2.1 = true ∧ (mulX an ad bn bd).1 * (ad * bd) = (an * bn) * (mulX an ad bn bd).2.1 := by
  obtain ⟨h1, h2⟩ := ok_valid rfl h
  have p1 := (validF_t h1).1
  have p2 := (validF_t h2).1
  rw [mulX_valid h1 h2] at h ⊢
  obtain ⟨k1, k2⟩ := redI_ok (den_pos p1 p2) h
  rw [den_cast p1 p2] at k2
  exact ⟨h1, h2, k1, k2⟩
theorem in64_zero : In64 0 := by unfold In64; decide
theorem redX_in64 {neg : Bool} {n d : Nat} : In64 (redX neg n d).1 ∧ In64 (redX neg n d).2.1 := by
  unfold redX lowX
  cases hb : lowB (n / Nat.gcd n d) (d / Nat.gcd n d) with
  | false => exact ⟨in64_zero, in64_zero⟩
  | true =>
    unfold lowB at hb
    simp only [Bool.and_eq_true, decide_eq_true_eq] at hb
    generalize n / Nat.gcd n d = p at *
    generalize d / Nat.gcd n d = q at *
    cases neg <;> simp only [cond_true, cond_false] <;> unfold In64 <;> omega
theorem add_in64 (an ad bn bd : Int) : In64 (addX an ad bn bd).1 ∧ In64 (addX an ad bn bd).2.1 := by
  unfold addX
  cases validF an ad && validF bn bd with
  | false => exact ⟨in64_zero, in64_zero⟩
  | true => exact redX_in64
theorem mul_in64 (an ad bn bd : Int) : In64 (mulX an ad bn bd).1 ∧ In64 (mulX an ad bn bd).2.1 := by
  unfold mulX
  cases validF an ad && validF bn bd with
  | false => exact ⟨in64_zero, in64_zero⟩
  | true => exact redX_in64

/-! ### The laws -/
theorem sub_back {an ad bn bd : Int} (h : (addX an ad bn bd).2.2 = 0) : subX (addX an ad bn bd).1 (addX an ad bn bd).2.1 bn bd = (an, ad, 0) := by
  obtain ⟨h1, h2, h3, h4⟩ := add_ok h
  generalize addX an ad bn bd = X at *
  obtain ⟨x, y, e⟩ := X
  simp only at h3 h4 ⊢
  have p2 := (validF_t h2).1
  have p3 := (validF_t h3).1
  unfold subX
  rw [addX_valid h3 (by rw [validF_neg]; exact h2)]
  refine redI_valid (den_pos p3 p2) h1 ?_
  rw [den_cast p3 p2]
  grind
theorem div_back {an ad bn bd : Int} (h : (mulX an ad bn bd).2.2 = 0) (hb : bn ≠ 0) : divX (mulX an ad bn bd).1 (mulX an ad bn bd).2.1 bn bd = (an, ad, 0) := by
  obtain ⟨h1, h2, h3, h4⟩ := mul_ok h
  generalize mulX an ad bn bd = X at *
  obtain ⟨x, y, e⟩ := X
  simp only at h3 h4 ⊢
  have p2 := (validF_t h2).1
  have p3 := (validF_t h3).1
  unfold divX
  rw [h3, h2, decide_eq_true hb]
  show redX _ _ _ = _
  have hs := sign_mul x bd (decide (x < 0)) (by rw [decide_eq_false (show ¬ bd < 0 by omega)]; simp)
  by_cases hn : bn < 0
  · rw [decide_eq_true hn]
    have e1 : redX (decide (x < 0) != true) (x.natAbs * bd.natAbs) (y.natAbs * bn.natAbs) = redI (-(x * bd)) (y.natAbs * bn.natAbs) := redI_sign (by rw [hs, Int.natCast_mul]; cases decide (x < 0) <;> simp)
    rw [e1]
    refine redI_valid (Nat.mul_pos (by omega) (by omega)) h1 ?_
    rw [Int.natCast_mul, natd p3, show ((bn.natAbs : Nat) : Int) = -bn by omega]
    grind
  · rw [decide_eq_false hn]
    have e1 : redX (decide (x < 0) != false) (x.natAbs * bd.natAbs) (y.natAbs * bn.natAbs) = redI (x * bd) (y.natAbs * bn.natAbs) := redI_sign (by rw [hs, Int.natCast_mul]; cases decide (x < 0) <;> simp)
    rw [e1]
    refine redI_valid (Nat.mul_pos (by omega) (by omega)) h1 ?_
    rw [Int.natCast_mul, natd p3, show ((bn.natAbs : Nat) : Int) = bn by omega]
    grind
theorem pos_ne {a b : Int} (h1 : 1 ≤ a) (h2 : 1 ≤ b) : a * b ≠ 0 := Int.mul_ne_zero (by omega) (by omega)
theorem assoc_law {an ad bn bd cn cd : Int} (h1 : (addX an ad bn bd).2.2 = 0) (h2 : (addX bn bd cn cd).2.2 = 0) :
    addX (addX an ad bn bd).1 (addX an ad bn bd).2.1 cn cd = addX an ad (addX bn bd cn cd).1 (addX bn bd cn cd).2.1 := by
  obtain ⟨a1, a2, a3, a4⟩ := add_ok h1
  obtain ⟨_, b2, b3, b4⟩ := add_ok h2
  generalize addX an ad bn bd = X at *
  generalize addX bn bd cn cd = S at *
  obtain ⟨x, y, e⟩ := X
  obtain ⟨s, t, f⟩ := S
  simp only at a3 a4 b3 b4 ⊢
  have p1 := (validF_t a1).1
  have p2 := (validF_t a2).1
  have p3 := (validF_t a3).1
  have p4 := (validF_t b2).1
  have p5 := (validF_t b3).1
  rw [addX_valid a3 b2, addX_valid a1 b3]
  refine redI_cross (den_pos p3 p4) (den_pos p1 p5) ?_
  rw [den_cast p1 p5, den_cast p3 p4]
  refine Int.eq_of_mul_eq_mul_right (a := bd) (by omega) ?_
  have e1 : (x * cd + cn * y) * (ad * t) * bd = x * (ad * bd) * (cd * t) + cn * y * ad * t * bd := by grind
  have e2 : (an * t + s * ad) * (y * cd) * bd = an * t * y * cd * bd + s * (bd * cd) * (ad * y) := by grind
  rw [e1, e2, a4, b4]; grind
theorem dist_law {an ad bn bd cn cd : Int} (h1 : (mulX an ad bn bd).2.2 = 0) (h2 : (addX bn bd cn cd).2.2 = 0) (h4 : (mulX an ad cn cd).2.2 = 0) :
    mulX an ad (addX bn bd cn cd).1 (addX bn bd cn cd).2.1 = addX (mulX an ad bn bd).1 (mulX an ad bn bd).2.1 (mulX an ad cn cd).1 (mulX an ad cn cd).2.1 := by
  obtain ⟨a1, a2, a3, a4⟩ := mul_ok h1
  obtain ⟨_, b2, b3, b4⟩ := add_ok h2
  obtain ⟨_, _, c3, c4⟩ := mul_ok h4
  generalize mulX an ad bn bd = P at *
  generalize addX bn bd cn cd = S at *
  generalize mulX an ad cn cd = R at *
  obtain ⟨p, q, e⟩ := P
  obtain ⟨s, t, f⟩ := S
  obtain ⟨r, v, g⟩ := R
  simp only at a3 a4 b3 b4 c3 c4 ⊢
  have p1 := (validF_t a1).1
  have p2 := (validF_t a2).1
  have p3 := (validF_t a3).1
  have p4 := (validF_t b2).1
  have p5 := (validF_t b3).1
  have p6 := (validF_t c3).1
  rw [mulX_valid a1 b3, addX_valid a3 c3]
  refine redI_cross (den_pos p1 p5) (den_pos p3 p6) ?_
  rw [den_cast p1 p5, den_cast p3 p6]
  refine Int.eq_of_mul_eq_mul_right (a := ad * (bd * cd)) (Int.mul_ne_zero (by omega) (pos_ne p2 p4)) ?_
  have e1 : an * s * (q * v) * (ad * (bd * cd)) = an * (q * v) * ad * (s * (bd * cd)) := by grind
  have e2 : (p * v + r * q) * (ad * t) * (ad * (bd * cd)) = p * (ad * bd) * (cd * v * ad * t) + r * (ad * cd) * (bd * q * ad * t) := by grind
  rw [e1, e2, a4, b4, c4]; grind
end Go.Proofs.YtdjnnbjpaohaiaaDoor
