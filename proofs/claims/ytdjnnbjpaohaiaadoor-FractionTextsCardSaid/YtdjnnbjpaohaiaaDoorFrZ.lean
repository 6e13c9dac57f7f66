/- Layer 4 (fraction): the simplest fraction of a range. -/
import Derived.Test.YtdjnnbjpaohaiaaDoorFrN
import Derived.Laws.EntriesVeiled
namespace Go.Proofs.YtdjnnbjpaohaiaaDoor
open Go.RowKit Go.Ev
set_option maxRecDepth 100000

/-- The simplest fraction from p / q to r / s: by continued fractions. -/
def simN (p q r s : Nat) : Nat × Nat :=
  if h : p % q = 0 ∨ s ≤ r - p / q * s ∨ q = 0 then (if p % q = 0 then (p / q, 1) else (p / q + 1, 1))
  else ((p / q) * (simN s (r - p / q * s) q (p % q)).1 + (simN s (r - p / q * s) q (p % q)).2, (simN s (r - p / q * s) q (p % q)).1)
termination_by q + s
decreasing_by
  all_goals
    have h1 : ¬ q = 0 := fun e => h (.inr (.inr e))
    have h2 := Nat.mod_lt p (Nat.pos_of_ne_zero h1)
    omega
/-- A range of fractions greater than 0. -/
structure Rg (p q r s : Nat) : Prop where
  p0 : 0 < p
  q0 : 0 < q
  s0 : 0 < s
  le : p * s ≤ r * q
  cp : Nat.gcd p q = 1
  cr : Nat.gcd r s = 1
theorem Rg.next {p q r s : Nat} (g : Rg p q r s) (h0 : ¬ p % q = 0) : Rg s (r - p / q * s) q (p % q) ∧ p / q * s < r ∧ p = p / q * q + p % q ∧ p % q < q := by
  have hq := g.q0
  have hm := Nat.mod_lt p hq
  have hd : p = p / q * q + p % q := (Nat.div_add_mod' p q).symm
  have hle := g.le
  have hs := g.s0
  have key : p / q * s * q + p % q * s ≤ r * q := by
    have e : p * s = p / q * s * q + p % q * s := by
      conv => lhs; rw [hd]
      grind
    omega
  have hlt : p / q * s < r := by
    refine Nat.lt_of_not_le fun hn => ?_
    have : r * q ≤ p / q * s * q := Nat.mul_le_mul_right _ hn
    have : 0 < p % q * s := Nat.mul_pos (by omega) hs
    omega
  refine ⟨⟨hs, by omega, by omega, ?_, ?_, ?_⟩, hlt, hd, hm⟩
  · obtain ⟨t, ht⟩ : ∃ t, r = p / q * s + t := ⟨r - p / q * s, by omega⟩
    rw [show r - p / q * s = t by omega]
    rw [ht, Nat.add_mul] at key
    have : s * (p % q) = p % q * s := Nat.mul_comm _ _
    have : q * t = t * q := Nat.mul_comm _ _
    omega
  · have := g.cr
    obtain ⟨t, ht⟩ : ∃ t, r = p / q * s + t := ⟨r - p / q * s, by omega⟩
    rw [show r - p / q * s = t by omega]
    rw [ht, Nat.gcd_comm, Nat.gcd_mul_right_add_right] at this
    exact this
  · have := g.cp
    rw [Nat.gcd_comm, ← Nat.gcd_rec, Nat.gcd_comm]; exact this

theorem sim_whole {p q r s : Nat} (h : p % q = 0) : simN p q r s = (p / q, 1) := by
  rw [simN, dif_pos (.inl h), if_pos h]
theorem sim_next {p q r s : Nat} (h : ¬ p % q = 0) (h1 : s ≤ r - p / q * s) : simN p q r s = (p / q + 1, 1) := by
  rw [simN, dif_pos (.inr (.inl h1)), if_neg h]
theorem sim_in {p q r s : Nat} (h : ¬ p % q = 0) (h1 : ¬ s ≤ r - p / q * s) (h2 : 0 < q) : simN p q r s = ((p / q) * (simN s (r - p / q * s) q (p % q)).1 + (simN s (r - p / q * s) q (p % q)).2, (simN s (r - p / q * s) q (p % q)).1) := by
  rw [simN, dif_neg (by omega)]
theorem mul_le_cancel {a b k : Nat} (hk : 0 < k) (h : a * k ≤ b * k) : a ≤ b := Nat.le_of_mul_le_mul_right h hk
theorem mul_lt_cancel {a b k : Nat} (h : a * k < b * k) : a < b := Nat.lt_of_mul_lt_mul_right h
theorem sim_spec : ∀ (n p q r s : Nat), q + s = n → Rg p q r s → 0 < (simN p q r s).1 ∧ 0 < (simN p q r s).2 ∧ Nat.gcd (simN p q r s).1 (simN p q r s).2 = 1 ∧ p * (simN p q r s).2 ≤ (simN p q r s).1 * q ∧ (simN p q r s).1 * s ≤ r * (simN p q r s).2 ∧
    ∀ m n, 0 < n → p * n ≤ m * q → m * s ≤ r * n → (simN p q r s).2 ≤ n ∧ (simN p q r s).1 ≤ m := by
  intro n
  induction n using Nat.strongRecOn with
  | _ n ih =>
    intro p q r s hn g
    have hq := g.q0
    have hs := g.s0
    have hm := Nat.mod_lt p hq
    have hd : p / q * q + p % q = p := Nat.div_add_mod' p q
    by_cases h0 : p % q = 0
    · rw [sim_whole h0]
      have hpw : p = p / q * q := by omega
      have hw : 0 < p / q := by
        refine Nat.pos_of_ne_zero fun h => ?_
        rw [h, Nat.zero_mul] at hpw
        have := g.p0; omega
      refine ⟨hw, Nat.one_pos, Nat.gcd_one_right _, by simp only [Nat.mul_one]; omega, ?_, fun m n hn h1 h2 => ⟨hn, ?_⟩⟩
      · simp only [Nat.mul_one]
        refine mul_le_cancel hq ?_
        have := g.le
        rw [show p / q * s * q = p / q * q * s by grind, ← hpw]; exact this
      · simp only
        refine mul_le_cancel hq ?_
        have : p * 1 ≤ p * n := Nat.mul_le_mul_left _ hn
        omega
    · by_cases h1 : s ≤ r - p / q * s
      · rw [sim_next h0 h1]
        refine ⟨Nat.succ_pos _, Nat.one_pos, Nat.gcd_one_right _, ?_, ?_, fun m n hn h2 h3 => ⟨hn, ?_⟩⟩
        · simp only [Nat.mul_one]
          rw [Nat.add_mul]; omega
        · simp only [Nat.mul_one]
          rw [Nat.add_mul]; omega
        · simp only
          refine mul_lt_cancel (k := q) ?_
          have : p * 1 ≤ p * n := Nat.mul_le_mul_left _ hn
          omega
      · obtain ⟨g', hlt, hpe, hm2⟩ := g.next h0
        rw [sim_in h0 h1 hq]
        obtain ⟨t, ht⟩ : ∃ t, r = p / q * s + t := ⟨r - p / q * s, by omega⟩
        have hrt : r - p / q * s = t := by omega
        rw [hrt] at g' h1 ⊢
        obtain ⟨k1, k2, k3, k4, k5, k6⟩ := ih (t + p % q) (by omega) s t q (p % q) rfl g'
        generalize simN s t q (p % q) = X at *
        obtain ⟨u, v⟩ := X
        simp only at k1 k2 k3 k4 k5 k6 ⊢
        generalize p / q = w at *
        generalize p % q = b at *
        refine ⟨by omega, k1, ?_, ?_, ?_, fun m n hn h2 h3 => ?_⟩
        · rw [Nat.gcd_comm, Nat.gcd_mul_right_add_right]; exact k3
        · rw [← hd, Nat.add_mul, Nat.add_mul]
          have : w * q * u = w * u * q := by grind
          have : b * u = u * b := Nat.mul_comm _ _
          have : v * q = q * v := Nat.mul_comm _ _
          omega
        · rw [ht, Nat.add_mul, Nat.add_mul]
          have : w * u * s = w * s * u := by grind
          have : v * s = s * v := Nat.mul_comm _ _
          have : u * t = t * u := Nat.mul_comm _ _
          omega
        · have hwm : w * n < m := by
            refine mul_lt_cancel (k := q) ?_
            have e : p * n = w * n * q + b * n := by rw [← hd]; grind
            have : 0 < b * n := Nat.mul_pos (by omega) hn
            omega
          obtain ⟨c, hc⟩ : ∃ c, m = w * n + c := ⟨m - w * n, by omega⟩
          have hc0 : 0 < c := by omega
          have i1 : s * c ≤ n * t := by
            rw [ht, hc, Nat.add_mul, Nat.add_mul] at h3
            have : w * n * s = w * s * n := by grind
            have : s * c = c * s := Nat.mul_comm _ _
            have : n * t = t * n := Nat.mul_comm _ _
            omega
          have i2 : n * b ≤ q * c := by
            rw [← hd, hc, Nat.add_mul, Nat.add_mul] at h2
            have : w * q * n = w * n * q := by grind
            have : n * b = b * n := Nat.mul_comm _ _
            have : q * c = c * q := Nat.mul_comm _ _
            omega
          obtain ⟨j1, j2⟩ := k6 n c hc0 i1 i2
          refine ⟨j2, ?_⟩
          rw [hc]
          have : w * u ≤ w * n := Nat.mul_le_mul_left _ j2
          omega

/-! ### The reference -/
theorem rg_valid {p q r s : Nat} (g : Rg p q r s) (hp : p < 1000000000000000000) (hq : q < 1000000000000000000) (hr : r < 1000000000000000000) (hs : s < 1000000000000000000) : validF (p : Int) (q : Int) = true ∧ validF (r : Int) (s : Int) = true := by
  have := g.q0
  have := g.s0
  unfold validF
  rw [decide_eq_true_eq, decide_eq_true_eq, Int.natAbs_natCast, Int.natAbs_natCast, Int.natAbs_natCast, Int.natAbs_natCast]
  exact ⟨⟨by omega, by omega, hp, g.cp⟩, ⟨by omega, by omega, hr, g.cr⟩⟩
theorem floorF_nat (p q : Nat) : floorF (p : Int) (q : Int) = ((p / q : Nat) : Int) := by
  unfold floorF
  rw [← Int.ofNat_tmod, decide_eq_false (by omega), cond_false, ← Int.ofNat_tdiv]
abbrev beSym (p q r s w v a b c d u t e f n1 : Int) : Tm → Sym
  | .v 0 => intSym .i64 p
  | .v 1 => intSym .i64 q
  | .v 2 => intSym .i64 r
  | .v 3 => intSym .i64 s
  | .v 4 => intSym .i64 w
  | .v 5 => intSym .i64 v
  | .v 6 => intSym .i64 a
  | .v 7 => intSym .i64 b
  | .v 8 => intSym .i64 c
  | .v 9 => intSym .i64 d
  | .v 10 => intSym .i64 u
  | .v 11 => intSym .i64 t
  | .v 12 => intSym .i64 e
  | .v 13 => intSym .i64 f
  | .v 14 => intSym .i64 n1
  | _ => intSym .i64 0
abbrev sfr (a b : Nat) : CV := .agg [.sy (.v a), .sy (.v b)]
abbrev beCalls : List KCall := [(31, [sfr 0 1], .sy 4), (31, [sfr 2 3], .sy 5)]
abbrev beIn : List KCall := [(60, [sfr 3 9, sfr 1 7], sfr 10 11)]
abbrev beOps (x y : Bool) : List KOp := [(.bin .eql 2, [.sy 1, .clo (iv 1)], .clo (.bool x)), (.bin .gtr 2, [.sy 5, .sy 4], .clo (.bool y))]
abbrev beOp2 : List KOp := [(.bin .add 2, [.sy 4, .clo (iv 1)], .sy 14)]
abbrev beOp3 : List KOp := [(.bin .mul 2, [.sy 4, .sy 1], .sy 6), (.bin .sub 2, [.sy 0, .sy 6], .sy 7), (.bin .mul 2, [.sy 4, .sy 3], .sy 8), (.bin .sub 2, [.sy 2, .sy 8], .sy 9), (.bin .mul 2, [.sy 4, .sy 10], .sy 12), (.bin .add 2, [.sy 12, .sy 11], .sy 13)]
theorem coprime_mod {p q : Nat} (h : Nat.gcd p q = 1) : p % q = 0 ↔ q = 1 := by
  constructor
  · intro h0
    have : q ∣ p := Nat.dvd_of_mod_eq_zero h0
    rw [Nat.gcd_comm, Nat.gcd_eq_left this] at h
    exact h
  · rintro rfl; exact Nat.mod_one p
theorem next_iff {w r s : Nat} (hs : 0 < s) (h : w * s ≤ r) : w < r / s ↔ s ≤ r - w * s := by
  rw [show w < r / s ↔ w + 1 ≤ r / s from Iff.rfl, Nat.le_div_iff_mul_le hs, Nat.add_mul]
  omega
theorem whole_le {p q r s : Nat} (g : Rg p q r s) : p / q * s ≤ r := by
  refine mul_le_cancel g.q0 ?_
  have := g.le
  have h := Nat.div_mul_le_self p q
  have h2 : p / q * q * s ≤ p * s := Nat.mul_le_mul_right _ h
  rw [show p / q * s * q = p / q * q * s by grind]
  omega
theorem sim_small {p q r s : Nat} (g : Rg p q r s) : (simN p q r s).1 ≤ p ∧ (simN p q r s).2 ≤ q ∧ (simN p q r s).1 ≤ r ∧ (simN p q r s).2 ≤ s := by
  obtain ⟨_, _, _, _, _, h⟩ := sim_spec _ p q r s rfl g
  obtain ⟨h1, h2⟩ := h p q g.q0 (Nat.le_refl _) g.le
  obtain ⟨h3, h4⟩ := h r s g.s0 g.le (Nat.le_refl _)
  exact ⟨h2, h1, h4, h3⟩
theorem rBetween_any : ∀ (n p q r s : Nat), q + s = n → Rg p q r s → p < 1000000000000000000 → q < 1000000000000000000 → r < 1000000000000000000 → s < 1000000000000000000 → ∀ w,
    Calls Tryd.prog 60 #[frV p q, frV r s] w fun e w' => e = .returned (frV (simN p q r s).1 (simN p q r s).2) ∧ Below w.heap.size w w' := by
  intro n
  induction n using Nat.strongRecOn with
  | _ n ih =>
    intro p q r s hn g hp hq hr hs w
    obtain ⟨v1, v2⟩ := rg_valid g hp hq hr hs
    have f1 := fun w => rFloor_any p q v1 w
    have f2 := fun w => rFloor_any r s v2 w
    rw [floorF_nat] at f1 f2
    have hq0 := g.q0
    have hs0 := g.s0
    have hd1 : p / q ≤ p := Nat.div_le_self _ _
    have hd2 : r / s ≤ r := Nat.div_le_self _ _
    have hcm := coprime_mod g.cp
    have hnx := next_iff hs0 (whole_le g)
    have hcalls : ∀ (a b c d u t e f n1 : Int), ∀ z ∈ beCalls, CallIs Tryd.prog (beSym p q r s (p / q : Nat) (r / s : Nat) a b c d u t e f n1) z := by
      intro a b c d u t e f n1 z hz
      simp only [beCalls, List.mem_cons, List.not_mem_nil, or_false] at hz
      rcases hz with rfl | rfl
      · exact ⟨[frV p q], _, rfl, rfl, f1⟩
      · exact ⟨[frV r s], _, rfl, rfl, f2⟩
    have hops : ∀ (a b c d u t e f n1 : Int) (x y : Bool), decide (q = 1) = x → decide (p / q < r / s) = y → ∀ z ∈ beOps x y, OpIs Tryd.prog (beSym p q r s (p / q : Nat) (r / s : Nat) a b c d u t e f n1) z := by
      intro a b c d u t e f n1 x y hx hy z hz
      simp only [beOps, List.mem_cons, List.not_mem_nil, or_false] at hz
      rcases hz with rfl | rfl
      · exact ⟨[iv q, iv 1], .bool x, rfl, rfl, tells_eql (by rw [← hx, Bool.eq_iff_iff, decide_eq_true_eq, decide_eq_true_eq]; omega)⟩
      · exact ⟨[iv (r / s : Nat), iv (p / q : Nat)], .bool y, rfl, rfl, tells_gtr (by rw [← hy, Bool.eq_iff_iff, decide_eq_true_eq, decide_eq_true_eq]; omega)⟩
    by_cases c1 : q = 1
    · have h0 := hcm.2 c1
      rw [sim_whole h0]
      have e1 : p / q = p := by rw [c1, Nat.div_one]
      refine calls_toldS (by kernel_rfl) (beSym p q r s (p / q : Nat) (r / s : Nat) 0 0 0 0 0 0 0 0 0) beCalls (beOps true (decide (p / q < r / s))) (hcalls _ _ _ _ _ _ _ _ _) (hops _ _ _ _ _ _ _ _ _ _ _ (decide_eq_true c1) rfl) (n := 300) (args := [sfr 0 1, sfr 2 3]) (xs := [frV p q, frV r s]) rfl (sfr 0 1) (by kernel_rfl) (by simp only [e1]; rw [show (((1 : Nat) : Int)) = (q : Int) by omega]; rfl) w
    · have h0 : ¬ p % q = 0 := fun h => c1 (hcm.1 h)
      by_cases c2 : p / q < r / s
      · rw [sim_next h0 (hnx.1 c2)]
        refine calls_toldS (by kernel_rfl) (beSym p q r s (p / q : Nat) (r / s : Nat) 0 0 0 0 0 0 0 0 (p / q + 1 : Nat)) beCalls (beOps false true ++ beOp2) (hcalls _ _ _ _ _ _ _ _ _) ?_ (n := 300) (args := [sfr 0 1, sfr 2 3]) (xs := [frV p q, frV r s]) rfl (.agg [.sy 14, .clo (iv 1)]) (by kernel_rfl) rfl w
        intro z hz
        rcases List.mem_append.1 hz with hz | hz
        · exact hops _ _ _ _ _ _ _ _ _ _ _ (decide_eq_false c1) (decide_eq_true c2) z hz
        · simp only [beOp2, List.mem_cons, List.not_mem_nil, or_false] at hz
          subst hz
          exact ⟨[iv (p / q : Nat), iv 1], iv (p / q + 1 : Nat), rfl, rfl, tells_add (by generalize p / q = k at *; rw [IntKind.wrap_i64]; omega)⟩
      · have h1 : ¬ s ≤ r - p / q * s := fun h => c2 (hnx.2 h)
        obtain ⟨g', hlt, hpe, hm⟩ := g.next h0
        obtain ⟨s1, s2, s3, s4⟩ := sim_small g
        obtain ⟨t1, t2, t3, t4⟩ := sim_small g'
        have hrec := fun w => ih (r - p / q * s + p % q) (by omega) s (r - p / q * s) q (p % q) rfl g' hs (by omega) hq (by omega) w
        rw [sim_in h0 h1 hq0] at s1 ⊢
        simp only at s1 ⊢
        generalize simN s (r - p / q * s) q (p % q) = X at *
        obtain ⟨u, v⟩ := X
        simp only at s1 t1 t2 t3 t4 hrec ⊢
        have m1 : p / q * q ≤ p := Nat.div_mul_le_self _ _
        have m2 := whole_le g
        have m3 : p / q * u ≤ p := by omega
        refine calls_toldS (by kernel_rfl) (beSym p q r s (p / q : Nat) (r / s : Nat) (p / q * q : Nat) (p % q : Nat) (p / q * s : Nat) (r - p / q * s : Nat) u v (p / q * u : Nat) (p / q * u + v : Nat) 0) (beCalls ++ beIn) (beOps false false ++ beOp3) ?_ ?_ (n := 300) (args := [sfr 0 1, sfr 2 3]) (xs := [frV p q, frV r s]) rfl (sfr 13 10) (by kernel_rfl) rfl w
        · intro z hz
          rcases List.mem_append.1 hz with hz | hz
          · exact hcalls _ _ _ _ _ _ _ _ _ z hz
          · simp only [beIn, List.mem_cons, List.not_mem_nil, or_false] at hz
            subst hz
            exact ⟨[frV s (r - p / q * s : Nat), frV q (p % q : Nat)], frV u v, rfl, rfl, hrec⟩
        · intro z hz
          rcases List.mem_append.1 hz with hz | hz
          · exact hops _ _ _ _ _ _ _ _ _ _ _ (decide_eq_false c1) (decide_eq_false c2) z hz
          · simp only [beOp3, List.mem_cons, List.not_mem_nil, or_false] at hz
            rcases hz with rfl | rfl | rfl | rfl | rfl | rfl
            · exact ⟨[iv (p / q : Nat), iv q], iv (p / q * q : Nat), rfl, rfl, tells_mul (by rw [← Int.natCast_mul, IntKind.wrap_i64]; omega)⟩
            · exact ⟨[iv p, iv (p / q * q : Nat)], iv (p % q : Nat), rfl, rfl, tells_sub (by rw [IntKind.wrap_i64]; omega)⟩
            · exact ⟨[iv (p / q : Nat), iv s], iv (p / q * s : Nat), rfl, rfl, tells_mul (by rw [← Int.natCast_mul, IntKind.wrap_i64]; omega)⟩
            · exact ⟨[iv r, iv (p / q * s : Nat)], iv (r - p / q * s : Nat), rfl, rfl, tells_sub (by rw [IntKind.wrap_i64]; omega)⟩
            · exact ⟨[iv (p / q : Nat), iv u], iv (p / q * u : Nat), rfl, rfl, tells_mul (by rw [← Int.natCast_mul, IntKind.wrap_i64]; omega)⟩
            · exact ⟨[iv (p / q * u : Nat), iv v], iv (p / q * u + v : Nat), rfl, rfl, tells_add (by rw [IntKind.wrap_i64]; omega)⟩

/-! ### The program -/
abbrev valQ (x y : Int) : TypeId × List Value := (23, [iv x, iv y])
abbrev clV (c : Nat) : Value := .func (.func 74) #[] #[.pointer (some ⟨c, 0, none⟩)]
set_option maxHeartbeats 1000000 in
theorem simp_whole (p q r s c w0 m1 m2 : Nat) (t : Int) (w : World)
   (h0 : (q : Int) ≠ 0) (f1 : IntKind.i64.wrap ((p : Int) / (q : Int)) = w0) (f2 : IntKind.i64.wrap ((w0 : Int) * (q : Int)) = m1) (f3 : IntKind.i64.wrap ((p : Int) - m1) = 0) (f4 : IntKind.i64.wrap ((w0 : Int) * (s : Int)) = m2) (f5 : IntKind.i64.wrap ((r : Int) - m2) = t) :
    Calls Tryd.prog 74 #[frV p q, frV r s, .pointer (some ⟨c, 0, none⟩)] w fun e w' => e = .returned (frV w0 1) ∧ Below w.heap.size w w' := by
  go_enter Tryd.func74, Tryd.ntmps74
  go_wp2_with fail
  go_region
  go_wp2_with fail
  simp [bodyPost, results, Tryd.results74, go_sem]
  exact (below_allocs [valQ p q, valQ r s, valQ w0 1] (Below.refl _ w)).drew
set_option maxHeartbeats 1000000 in
theorem simp_next (p q r s c w0 m1 m2 : Nat) (pr t : Int) (w : World)
   (h0 : (q : Int) ≠ 0) (f1 : IntKind.i64.wrap ((p : Int) / (q : Int)) = w0) (f2 : IntKind.i64.wrap ((w0 : Int) * (q : Int)) = m1) (f3 : IntKind.i64.wrap ((p : Int) - m1) = pr) (f4 : IntKind.i64.wrap ((w0 : Int) * (s : Int)) = m2) (f5 : IntKind.i64.wrap ((r : Int) - m2) = t)
   (h1 : (pr == 0) = false) (h2 : (s : Int) ≤ t) (f6 : IntKind.i64.wrap ((w0 : Int) + 1) = w0 + 1) :
    Calls Tryd.prog 74 #[frV p q, frV r s, .pointer (some ⟨c, 0, none⟩)] w fun e w' => e = .returned (frV (w0 + 1) 1) ∧ Below w.heap.size w w' := by
  go_enter Tryd.func74, Tryd.ntmps74
  go_wp2_with fail
  go_region
  go_wp2_with fail
  simp [bodyPost, results, Tryd.results74, go_sem]
  exact (below_allocs [valQ p q, valQ r s, valQ (w0 + 1) 1] (Below.refl _ w)).drew
set_option maxHeartbeats 1000000 in
theorem simp_in (p q r s c w0 m1 pr m2 t : Nat) (u v a b : Int) (ty : TypeId) (w : World) (hc : w.heap[c]? = some (.cells #[clV c] ty (0, 0)))
   (h0 : (q : Int) ≠ 0) (f1 : IntKind.i64.wrap ((p : Int) / (q : Int)) = w0) (f2 : IntKind.i64.wrap ((w0 : Int) * (q : Int)) = m1) (f3 : IntKind.i64.wrap ((p : Int) - m1) = pr) (f4 : IntKind.i64.wrap ((w0 : Int) * (s : Int)) = m2) (f5 : IntKind.i64.wrap ((r : Int) - m2) = t)
   (h1 : ((pr : Int) == 0) = false) (h2 : ((s : Int) ≤ (t : Int)) = False) (HR : Hid (∀ w, w.heap[c]? = some (.cells #[clV c] ty (0, 0)) → Calls Tryd.prog 74 #[frV s t, frV q pr, .pointer (some ⟨c, 0, none⟩)] w fun e w' => e = .returned (frV u v) ∧ Below w.heap.size w w'))
   (f6 : IntKind.i64.wrap ((w0 : Int) * u) = a) (f7 : IntKind.i64.wrap (a + v) = b) :
    Calls Tryd.prog 74 #[frV p q, frV r s, .pointer (some ⟨c, 0, none⟩)] w fun e w' => e = .returned (frV b u) ∧ Below w.heap.size w w' := by
  have hlt : c < w.heap.size := (Array.getElem?_eq_some_iff.1 hc).1
  have hc3 : (((w.alloc (.cells #[iv p, iv q] 23)).alloc (.cells #[iv r, iv s] 23)).alloc (.cells #[.int .i64 0, .int .i64 0] 23)).heap[c]? = some (.cells #[clV c] ty (0, 0)) :=
    (Below.heap_alloc _ _ _ (by simp; omega)).trans ((Below.heap_alloc _ _ _ (by simp; omega)).trans ((Below.heap_alloc _ _ _ hlt).trans hc))
  have hc4 := cell_at (i := 0) hc3 rfl
  go_enter Tryd.func74, Tryd.ntmps74
  go_wp2_with fail
  go_region
  go_wp2_with fail
  refine Calls.mono (HR.out _ (by exact hc3)) ?_
  rintro e w2 ⟨rfl, hb⟩
  have hsz : w.heap.size + 1 + 1 < w2.heap.size := by have := hb.size; simp at this; omega
  have hr : (w2.alloc (.cells #[.int .i64 u, .int .i64 v] 23)).heap[w.heap.size + 1 + 1]? = some (.cells #[iv 0, iv 0] 23 (0, 0)) :=
    (Below.heap_alloc _ _ _ hsz).trans ((hb.block _ (by simp)).trans (blks_allocs [valQ p q, valQ r s, valQ 0 0] w (w.heap.size + 1 + 1, valQ 0 0) (by simp [numbered])))
  have hr0 : w2.heap[w.heap.size + 1 + 1]? = some (.cells #[iv 0, iv 0] 23 (0, 0)) := by rw [Below.heap_alloc _ _ _ hsz] at hr; exact hr
  have hs1 : (w2.setCell { block := w.heap.size + 1 + 1, off := 0 } (iv b)).heap[w.heap.size + 1 + 1]? = some (.cells #[iv b, iv 0] 23 (0, 0)) := by simp [World.setCell, Array.getElem?_modify, hr0]
  have hs2 : ((w2.setCell { block := w.heap.size + 1 + 1, off := 0 } (iv b)).setCell { block := w.heap.size + 1 + 1, off := 1 } (iv u)).heap[w.heap.size + 1 + 1]? = some (.cells #[iv b, iv u] 23 (0, 0)) := by simp [World.setCell, Array.getElem?_modify, hr0]
  have hz1 : (w2.setCell { block := w.heap.size + 1 + 1, off := 0 } (iv b)).heap.size = w2.heap.size := by simp [World.setCell]
  have hz2 : ((w2.setCell { block := w.heap.size + 1 + 1, off := 0 } (iv b)).setCell { block := w.heap.size + 1 + 1, off := 1 } (iv u)).heap.size = w2.heap.size := by simp [World.setCell]
  have hr1 : ((w2.setCell { block := w.heap.size + 1 + 1, off := 0 } (iv b)).alloc (.cells #[.int .i64 u, .int .i64 v] 23)).heap[w.heap.size + 1 + 1]? = some (.cells #[iv b, iv 0] 23 (0, 0)) := (Below.heap_alloc _ _ _ (by rw [hz1]; exact hsz)).trans hs1
  have hr2 : (((w2.setCell { block := w.heap.size + 1 + 1, off := 0 } (iv b)).setCell { block := w.heap.size + 1 + 1, off := 1 } (iv u)).alloc (.cells #[.int .i64 u, .int .i64 v] 23)).heap[w.heap.size + 1 + 1]? = some (.cells #[iv b, iv u] 23 (0, 0)) := (Below.heap_alloc _ _ _ (by rw [hz2]; exact hsz)).trans hs2
  have hbb : Below w.heap.size w (((w2.setCell { block := w.heap.size + 1 + 1, off := 0 } (iv b)).setCell { block := w.heap.size + 1 + 1, off := 1 } (iv u)).alloc (.cells #[.int .i64 u, .int .i64 v] 23)) :=
    ((((below_allocs [valQ p q, valQ r s, valQ 0 0] (Below.refl _ w)).drew.trans (hb.mono (by simp; omega))).setCell (by simp; omega) _).setCell (by simp; omega) _).alloc (by rw [hz2]; omega) _
  have hd1 := cell_at (i := 0) hr rfl
  have hd3 := cell_at (i := 1) hr1 rfl
  have hd5 := cell_at (i := 0) hr2 rfl
  have hd6 := cell_at (i := 1) hr2 rfl
  have hd2 : (w2.alloc (.cells #[.int .i64 u, .int .i64 v] 23)).frozen? { block := w.heap.size + 1 + 1, off := 0 } = false := by simp [World.frozen?, hr]
  have hd4 : ((w2.setCell { block := w.heap.size + 1 + 1, off := 0 } (iv b)).alloc (.cells #[.int .i64 u, .int .i64 v] 23)).frozen? { block := w.heap.size + 1 + 1, off := 1 } = false := by simp [World.frozen?, hr1]
  clear hr hr0 hs1 hs2 hz1 hz2 hr1 hr2
  simp only [List.getElem_toArray, List.getElem_cons_zero, List.getElem_cons_succ] at hd1 hd3 hd5 hd6
  go_wp2_with fail
  simp [bodyPost, results, Tryd.results74, go_sem, hd5, hd6]
  exact hbb

theorem w64 {z : Int} (h : -9223372036854775808 ≤ z ∧ z ≤ 9223372036854775807) : IntKind.i64.wrap z = z := by rw [IntKind.wrap_i64]; omega
theorem simp_go : ∀ (n p q r s : Nat), q + s = n → Rg p q r s → p < 1000000000000000000 → q < 1000000000000000000 → r < 1000000000000000000 → s < 1000000000000000000 → ∀ (c : Nat) (ty : TypeId) (w : World), w.heap[c]? = some (.cells #[clV c] ty (0, 0)) →
    Calls Tryd.prog 74 #[frV p q, frV r s, .pointer (some ⟨c, 0, none⟩)] w fun e w' => e = .returned (frV (simN p q r s).1 (simN p q r s).2) ∧ Below w.heap.size w w' := by
  intro n
  induction n using Nat.strongRecOn with
  | _ n ih =>
    intro p q r s hn g hp hq hr hs c ty w hc
    have hq0 := g.q0
    have hs0 := g.s0
    have hd1 : p / q ≤ p := Nat.div_le_self _ _
    have m1 : p / q * q ≤ p := Nat.div_mul_le_self _ _
    have m2 := whole_le g
    have hdm := Nat.div_add_mod' p q
    have f1 : IntKind.i64.wrap ((p : Int) / (q : Int)) = (p / q : Nat) := by rw [← Int.natCast_ediv]; generalize p / q = k at *; exact w64 (by omega)
    have f2 : IntKind.i64.wrap (((p / q : Nat) : Int) * (q : Int)) = (p / q * q : Nat) := by rw [← Int.natCast_mul]; generalize p / q * q = k at *; exact w64 (by omega)
    have f3 : IntKind.i64.wrap ((p : Int) - (p / q * q : Nat)) = (p % q : Nat) := by generalize p / q * q = k at *; generalize p % q = k2 at *; rw [w64 (by omega)]; omega
    have f4 : IntKind.i64.wrap (((p / q : Nat) : Int) * (s : Int)) = (p / q * s : Nat) := by rw [← Int.natCast_mul]; generalize p / q * s = k at *; exact w64 (by omega)
    have f5 : IntKind.i64.wrap ((r : Int) - (p / q * s : Nat)) = (r - p / q * s : Nat) := by generalize p / q * s = k at *; rw [w64 (by omega)]; omega
    by_cases h0 : p % q = 0
    · rw [sim_whole h0]
      rw [h0] at f3
      exact simp_whole p q r s c (p / q) (p / q * q) (p / q * s) _ w (by omega) f1 f2 f3 f4 f5
    · have hb1 : (((p % q : Nat) : Int) == 0) = false := by simp; omega
      by_cases h1 : s ≤ r - p / q * s
      · rw [sim_next h0 h1]
        exact simp_next p q r s c (p / q) (p / q * q) (p / q * s) _ _ w (by omega) f1 f2 f3 f4 f5 hb1 (by omega) (by generalize p / q = k at *; exact w64 (by omega))
      · obtain ⟨g', hlt, hpe, hm⟩ := g.next h0
        obtain ⟨s1, s2, s3, s4⟩ := sim_small g
        obtain ⟨t1, t2, t3, t4⟩ := sim_small g'
        have hrec := fun w => ih (r - p / q * s + p % q) (by omega) s (r - p / q * s) q (p % q) rfl g' hs (by omega) hq (by omega) c ty w
        rw [sim_in h0 h1 hq0] at s1 ⊢
        simp only at s1 ⊢
        generalize simN s (r - p / q * s) q (p % q) = X at *
        obtain ⟨u, v⟩ := X
        simp only at s1 t1 t2 t3 t4 hrec ⊢
        have m3 : p / q * u ≤ p := by omega
        refine simp_in p q r s c (p / q) (p / q * q) (p % q) (p / q * s) (r - p / q * s) u v (p / q * u : Nat) (p / q * u + v : Nat) ty w hc (by omega) f1 f2 f3 f4 f5 hb1 (by simp; omega) (Lib.hid hrec) (by rw [← Int.natCast_mul]; generalize p / q * u = k at *; exact w64 (by omega)) (by generalize p / q * u = k at *; rw [w64 (by omega)]; omega)
theorem two_cells {w2 : World} {k : Nat} {t : TypeId} (x y : Value) (h : w2.heap[k]? = some (.cells #[iv 0, iv 0] t (0, 0))) :
    w2.cell? { block := k, off := 0 } = some (iv 0) ∧ w2.frozen? { block := k, off := 0 } = false ∧ (w2.setCell { block := k, off := 0 } x).cell? { block := k, off := 1 } = some (iv 0) ∧ (w2.setCell { block := k, off := 0 } x).frozen? { block := k, off := 1 } = false ∧
    ((w2.setCell { block := k, off := 0 } x).setCell { block := k, off := 1 } y).cell? { block := k, off := 0 } = some x ∧ ((w2.setCell { block := k, off := 0 } x).setCell { block := k, off := 1 } y).cell? { block := k, off := 1 } = some y := by
  refine ⟨cell_at h rfl, by simp [World.frozen?, h], ?_, ?_, ?_, ?_⟩
  · simp [World.cell?, World.setCell, Array.getElem?_modify, h]
  · simp [World.frozen?, World.setCell, Array.getElem?_modify, h]
  · simp [World.cell?, World.setCell, Array.getElem?_modify, h]
  · simp [World.cell?, World.setCell, Array.getElem?_modify, h]
set_option maxHeartbeats 1000000 in
theorem simplest_any (p q r s : Nat) (g : Rg p q r s) (hp : p < 1000000000000000000) (hq : q < 1000000000000000000) (hr : r < 1000000000000000000) (hs : s < 1000000000000000000) (w : World) :
    Calls Tryd.prog 59 #[frV p q, frV r s] w fun e w' => e = .returned (frV (simN p q r s).1 (simN p q r s).2) ∧ Below w.heap.size w w' := by
  have HS := Lib.hid (fun c ty w => simp_go _ p q r s rfl g hp hq hr hs c ty w)
  generalize simN p q r s = X at *
  obtain ⟨u, v⟩ := X
  clear g hp hq hr hs
  go_enter Tryd.func59, Tryd.ntmps59
  go_wp2_with fail
  have hal := blks_allocs [valQ p q, valQ r s, valQ 0 0, (36, [clV (w.heap.size + 1 + 1 + 1)])] w
  have hbl := below_allocs [valQ p q, valQ r s, valQ 0 0, (36, [clV (w.heap.size + 1 + 1 + 1)])] (Below.refl _ w)
  refine Calls.mono (HS.out _ _ _ (by exact hal (w.heap.size + 1 + 1 + 1, _, _) (List.mem_of_getElem? (i := 3) rfl))) ?_
  rintro e w2 ⟨rfl, hb⟩
  have hr0 : w2.heap[w.heap.size + 1 + 1]? = some (.cells #[iv 0, iv 0] 23 (0, 0)) := (hb.block _ (by simp)).trans (hal (w.heap.size + 1 + 1, valQ 0 0) (List.mem_of_getElem? (i := 2) rfl))
  have hbb := ((hbl.trans (hb.mono (by simp; omega))).setCell (p := { block := w.heap.size + 1 + 1, off := 0 }) (by simp; omega) (iv u)).setCell (p := { block := w.heap.size + 1 + 1, off := 1 }) (by simp; omega) (iv v)
  obtain ⟨hd1, hd2, hd3, hd4, hd5, hd6⟩ := two_cells (iv u) (iv v) hr0
  clear hr0 hal hbl hb
  go_wp2_with fail
  simp [bodyPost, results, Tryd.results59, go_sem, hd5, hd6]
  exact hbb
end Go.Proofs.YtdjnnbjpaohaiaaDoor
