/- Layer 4 (fraction): Simplest of both, the law FractionSimplest. -/
import Derived.Test.YtdjnnbjpaohaiaaDoorFrZ
namespace Go.Proofs.YtdjnnbjpaohaiaaDoor
open Go.RowKit Go.Ev
set_option maxRecDepth 100000

/-- The simplest fraction from a to b. -/
def simV (an ad bn bd : Int) : Int × Int :=
  if 0 < an then (((simN an.natAbs ad.natAbs bn.natAbs bd.natAbs).1 : Int), ((simN an.natAbs ad.natAbs bn.natAbs bd.natAbs).2 : Int))
  else if bn < 0 then (-((simN bn.natAbs bd.natAbs an.natAbs ad.natAbs).1 : Int), ((simN bn.natAbs bd.natAbs an.natAbs ad.natAbs).2 : Int))
  else (0, 1)
theorem natd' {d : Int} (h : 1 ≤ d) : ((d.natAbs : Nat) : Int) = d := Int.natAbs_of_nonneg (by omega)
theorem rg_pos {an ad bn bd : Int} (h1 : validF an ad = true) (h2 : validF bn bd = true) (ha : 0 < an) (hle : an * bd ≤ bn * ad) : Rg an.natAbs ad.natAbs bn.natAbs bd.natAbs ∧ 0 < bn := by
  obtain ⟨a1, a2, a3, a4⟩ := validF_t h1
  obtain ⟨b1, b2, b3, b4⟩ := validF_t h2
  have hb : 0 < bn := by
    refine Classical.byContradiction fun hn => ?_
    have k1 : 0 < an * bd := Int.mul_pos ha (by omega)
    have k2 : bn * ad ≤ 0 := Int.mul_nonpos_of_nonpos_of_nonneg (by omega) (by omega)
    omega
  refine ⟨⟨by omega, by omega, by omega, ?_, a4, b4⟩, hb⟩
  have : ((an.natAbs * bd.natAbs : Nat) : Int) ≤ ((bn.natAbs * ad.natAbs : Nat) : Int) := by
    rw [Int.natCast_mul, Int.natCast_mul, natd' (d := an) (by omega), natd' (d := bn) (by omega), natd' a1, natd' b1]; exact hle
  exact Int.ofNat_le.1 this
theorem rg_neg {an ad bn bd : Int} (h1 : validF an ad = true) (h2 : validF bn bd = true) (hb : bn < 0) (hle : an * bd ≤ bn * ad) : Rg bn.natAbs bd.natAbs an.natAbs ad.natAbs ∧ an < 0 := by
  obtain ⟨a1, a2, a3, a4⟩ := validF_t h1
  obtain ⟨b1, b2, b3, b4⟩ := validF_t h2
  have ha : an < 0 := by
    refine Classical.byContradiction fun hn => ?_
    have k1 : bn * ad < 0 := Int.mul_neg_of_neg_of_pos hb (by omega)
    have k2 : 0 ≤ an * bd := Int.mul_nonneg (by omega) (by omega)
    omega
  refine ⟨⟨by omega, by omega, by omega, ?_, b4, a4⟩, ha⟩
  have : ((bn.natAbs * ad.natAbs : Nat) : Int) ≤ ((an.natAbs * bd.natAbs : Nat) : Int) := by
    rw [Int.natCast_mul, Int.natCast_mul, show ((bn.natAbs : Nat) : Int) = -bn by omega, show ((an.natAbs : Nat) : Int) = -an by omega, natd' a1, natd' b1, Int.neg_mul, Int.neg_mul]; omega
  exact Int.ofNat_le.1 this
/-- It is a fraction, it lies in the range, and no other of the range has a smaller denominator. -/
theorem simV_spec {an ad bn bd : Int} (h1 : validF an ad = true) (h2 : validF bn bd = true) (hle : an * bd ≤ bn * ad) :
    validF (simV an ad bn bd).1 (simV an ad bn bd).2 = true ∧ an * (simV an ad bn bd).2 ≤ (simV an ad bn bd).1 * ad ∧ (simV an ad bn bd).1 * bd ≤ bn * (simV an ad bn bd).2 ∧
    ∀ m n : Int, 1 ≤ n → an * n ≤ m * ad → m * bd ≤ bn * n → (simV an ad bn bd).2 ≤ n := by
  obtain ⟨a1, a2, a3, a4⟩ := validF_t h1
  obtain ⟨b1, b2, b3, b4⟩ := validF_t h2
  unfold simV
  by_cases ha : 0 < an
  · rw [if_pos ha]
    obtain ⟨g, hb⟩ := rg_pos h1 h2 ha hle
    obtain ⟨k1, k2, k3, k4, k5, k6⟩ := sim_spec _ _ _ _ _ rfl g
    obtain ⟨s1, s2, s3, s4⟩ := sim_small g
    generalize simN an.natAbs ad.natAbs bn.natAbs bd.natAbs = X at *
    obtain ⟨u, v⟩ := X
    simp only at k1 k2 k3 k4 k5 k6 s1 s2 s3 s4 ⊢
    have ea : ((an.natAbs : Nat) : Int) = an := natd' (by omega)
    have eb : ((bn.natAbs : Nat) : Int) = bn := natd' (by omega)
    refine ⟨?_, ?_, ?_, fun m n hn i1 i2 => ?_⟩
    · unfold validF; rw [decide_eq_true_eq, Int.natAbs_natCast, Int.natAbs_natCast]; exact ⟨by omega, by omega, by omega, k3⟩
    · have := Int.ofNat_le.2 k4
      rwa [Int.natCast_mul, Int.natCast_mul, ea, natd' a1] at this
    · have := Int.ofNat_le.2 k5
      rwa [Int.natCast_mul, Int.natCast_mul, eb, natd' b1] at this
    · have hm : 0 < m := by
        refine Classical.byContradiction fun hm => ?_
        have e1 : 0 < an * n := Int.mul_pos ha (by omega)
        have e2 : m * ad ≤ 0 := Int.mul_nonpos_of_nonpos_of_nonneg (by omega) (by omega)
        omega
      obtain ⟨j1, _⟩ := k6 m.natAbs n.natAbs (by omega) (Int.ofNat_le.1 (by rw [Int.natCast_mul, Int.natCast_mul, ea, natd' a1, natd' hn, natd' (d := m) (by omega)]; exact i1)) (Int.ofNat_le.1 (by rw [Int.natCast_mul, Int.natCast_mul, eb, natd' b1, natd' hn, natd' (d := m) (by omega)]; exact i2))
      omega
  · rw [if_neg ha]
    by_cases hb : bn < 0
    · rw [if_pos hb]
      obtain ⟨g, ha'⟩ := rg_neg h1 h2 hb hle
      obtain ⟨k1, k2, k3, k4, k5, k6⟩ := sim_spec _ _ _ _ _ rfl g
      obtain ⟨s1, s2, s3, s4⟩ := sim_small g
      generalize simN bn.natAbs bd.natAbs an.natAbs ad.natAbs = X at *
      obtain ⟨u, v⟩ := X
      simp only at k1 k2 k3 k4 k5 k6 s1 s2 s3 s4 ⊢
      have ea : ((an.natAbs : Nat) : Int) = -an := by omega
      have eb : ((bn.natAbs : Nat) : Int) = -bn := by omega
      refine ⟨?_, ?_, ?_, fun m n hn i1 i2 => ?_⟩
      · unfold validF; rw [decide_eq_true_eq, Int.natAbs_neg, Int.natAbs_natCast, Int.natAbs_natCast]; exact ⟨by omega, by omega, by omega, k3⟩
      · have := Int.ofNat_le.2 k5
        rw [Int.natCast_mul, Int.natCast_mul, ea, natd' a1, Int.neg_mul] at this
        rw [Int.neg_mul]; omega
      · have := Int.ofNat_le.2 k4
        rw [Int.natCast_mul, Int.natCast_mul, eb, natd' b1, Int.neg_mul] at this
        rw [Int.neg_mul]; omega
      · have hm : m < 0 := by
          refine Classical.byContradiction fun hm => ?_
          have e1 : bn * n < 0 := Int.mul_neg_of_neg_of_pos hb (by omega)
          have e2 : 0 ≤ m * bd := Int.mul_nonneg (by omega) (by omega)
          omega
        have em : ((m.natAbs : Nat) : Int) = -m := by omega
        obtain ⟨j1, _⟩ := k6 m.natAbs n.natAbs (by omega) (Int.ofNat_le.1 (by rw [Int.natCast_mul, Int.natCast_mul, eb, natd' b1, natd' hn, em, Int.neg_mul, Int.neg_mul]; omega)) (Int.ofNat_le.1 (by rw [Int.natCast_mul, Int.natCast_mul, ea, natd' a1, natd' hn, em, Int.neg_mul, Int.neg_mul]; omega))
        omega
    · rw [if_neg hb]
      refine ⟨by decide, ?_, ?_, fun m n hn _ _ => hn⟩
      · simp only [Int.mul_one, Int.zero_mul]; omega
      · simp only [Int.mul_one, Int.zero_mul]; omega

/-! ### Simplest of both -/
abbrev ssSym (an ad bn bd c x y u v m : Int) : Tm → Sym
  | .v 0 => intSym .i64 an
  | .v 1 => intSym .i64 ad
  | .v 2 => intSym .i64 bn
  | .v 3 => intSym .i64 bd
  | .v 6 => intSym .i64 c
  | .v 7 => intSym .i64 x
  | .v 8 => intSym .i64 y
  | .v 10 => intSym .i64 u
  | .v 11 => intSym .i64 v
  | .v 12 => intSym .i64 m
  | _ => intSym .i64 0
abbrev ssVa (p q : Bool) : List KCall := [(14, [sfr 0 1], .clo (.bool p)), (14, [sfr 2 3], .clo (.bool q)), (27, [sfr 0 1, sfr 2 3], .sy 6)]
abbrev ssGt (g : Bool) : List KOp := [(.bin .gtr 3, [.sy 6, .clo (iv 0)], .clo (.bool g))]
theorem evSs0 (an ad bn bd c x y u v m : Int) (p q g : Bool) (h : (p && q && !g) = false) : resIs (errC 1) (evalFn0 Tryd.prog (@evalC (toldV (ssSym an ad bn bd c x y u v m) (ssVa p q) [] (ssGt g)) Tryd.prog 300 true) 0 33 [sfr 0 1, sfr 2 3] ⟨0, []⟩) = true := by
  cases p <;> cases q <;> cases g <;> first | (cases h; done) | kernel_rfl
abbrev ssPos : List KCall := [(59, [sfr 0 1, sfr 2 3], sfr 10 11)]
abbrev ssNeg : List KCall := [(54, [sfr 2 3], sfr 7 3), (54, [sfr 0 1], sfr 8 1), (59, [sfr 7 3, sfr 8 1], sfr 10 11), (54, [sfr 10 11], sfr 12 11)]
abbrev ssOps (a b : Bool) : List KOp := [(.bin .gtr 2, [.sy 0, .clo (iv 0)], .clo (.bool a)), (.bin .lss 2, [.sy 2, .clo (iv 0)], .clo (.bool b))]
theorem evSs1 (an ad bn bd c x y u v m : Int) (b : Bool) : resIs (.tup [sfr 10 11, .clo (iv 0)]) (evalFn0 Tryd.prog (@evalC (toldV (ssSym an ad bn bd c x y u v m) (ssVa true true ++ ssPos) [] (ssGt false ++ ssOps true b)) Tryd.prog 300 true) 0 33 [sfr 0 1, sfr 2 3] ⟨0, []⟩) = true := by
  cases b <;> kernel_rfl
theorem evSs2 (an ad bn bd c x y u v m : Int) : resIs (.tup [sfr 12 11, .clo (iv 0)]) (evalFn0 Tryd.prog (@evalC (toldV (ssSym an ad bn bd c x y u v m) (ssVa true true ++ ssNeg) [] (ssGt false ++ ssOps false true)) Tryd.prog 300 true) 0 33 [sfr 0 1, sfr 2 3] ⟨0, []⟩) = true := by
  kernel_rfl
theorem evSs3 (an ad bn bd c x y u v m : Int) : resIs (.clo (.tuple #[frV 0 1, iv 0])) (evalFn0 Tryd.prog (@evalC (toldV (ssSym an ad bn bd c x y u v m) (ssVa true true) [] (ssGt false ++ ssOps false false)) Tryd.prog 300 true) 0 33 [sfr 0 1, sfr 2 3] ⟨0, []⟩) = true := by
  kernel_rfl
theorem sgn_gt0 {z : Int} : (0 < sgn z) ↔ 0 < z := by unfold sgn; split <;> (try split) <;> omega
def tripS (t : Int × Int × Int) : Value := .tuple #[frV t.1 t.2.1, iv t.2.2]
def simX (an ad bn bd : Int) : Int × Int × Int := cond (validF an ad && validF bn bd && !decide (0 < an * bd - bn * ad)) ((simV an ad bn bd).1, (simV an ad bn bd).2, 0) (0, 0, 1)
theorem ssva_is {an ad bn bd : Int} (h1 : In64 an) (h2 : In64 ad) (h3 : In64 bn) (h4 : In64 bd) (x y u v m : Int) : ∀ z ∈ ssVa (validF an ad) (validF bn bd), CallIs Tryd.prog (ssSym an ad bn bd (if validF an ad = true ∧ validF bn bd = true then sgn (an * bd - bn * ad) else 0) x y u v m) z := by
  intro z hz
  simp only [ssVa, List.mem_cons, List.not_mem_nil, or_false] at hz
  rcases hz with rfl | rfl | rfl
  · exact ⟨[frV an ad], _, rfl, rfl, fun w => valid_any an ad h1.1 h1.2 h2.1 h2.2 w⟩
  · exact ⟨[frV bn bd], _, rfl, rfl, fun w => valid_any bn bd h3.1 h3.2 h4.1 h4.2 w⟩
  · exact ⟨[frV an ad, frV bn bd], _, rfl, rfl, fun w => cmp_any an ad bn bd h1 h2 h3 h4 w⟩
theorem ssgt_is {an ad bn bd z x y u v m : Int} {g : Bool} (h : decide (0 < z) = g) : ∀ k ∈ ssGt g, OpIs Tryd.prog (ssSym an ad bn bd (sgn z) x y u v m) k := by
  intro k hk
  simp only [ssGt, List.mem_cons, List.not_mem_nil, or_false] at hk
  subst hk
  exact ⟨[iv (sgn z), iv 0], .bool g, rfl, rfl, tells_gtr (by rw [← h, Bool.eq_iff_iff, decide_eq_true_eq, decide_eq_true_eq]; exact sgn_gt0)⟩
theorem ssops_is {an ad bn bd c x y u v m : Int} {a b : Bool} (h : decide (0 < an) = a) (h' : decide (bn < 0) = b) : ∀ k ∈ ssOps a b, OpIs Tryd.prog (ssSym an ad bn bd c x y u v m) k := by
  intro k hk
  simp only [ssOps, List.mem_cons, List.not_mem_nil, or_false] at hk
  rcases hk with rfl | rfl
  · exact ⟨[iv an, iv 0], .bool a, rfl, rfl, tells_gtr h⟩
  · exact ⟨[iv bn, iv 0], .bool b, rfl, rfl, tells_lss h'⟩
theorem app2 {α : Type} {p : α → Prop} {l m : List α} (h1 : ∀ r ∈ l, p r) (h2 : ∀ r ∈ m, p r) : ∀ r ∈ l ++ m, p r := fun r hr => (List.mem_append.1 hr).elim (h1 r) (h2 r)
theorem pSimplest_any (an ad bn bd : Int) (h1 : In64 an) (h2 : In64 ad) (h3 : In64 bn) (h4 : In64 bd) (w : World) : Calls Tryd.prog 33 #[frV an ad, frV bn bd] w fun e w' => e = .returned (tripS (simX an ad bn bd)) ∧ Below w.heap.size w w' := by
  have hva := ssva_is h1 h2 h3 h4
  unfold simX
  cases hb : (validF an ad && validF bn bd && !decide (0 < an * bd - bn * ad)) with
  | false =>
    by_cases hv : validF an ad = true ∧ validF bn bd = true
    · rw [if_pos hv] at hva
      exact calls_toldS (by kernel_rfl) (ssSym an ad bn bd (sgn (an * bd - bn * ad)) 0 0 0 0 0) (ssVa (validF an ad) (validF bn bd)) (ssGt (decide (0 < an * bd - bn * ad))) (hva _ _ _ _ _) (ssgt_is rfl) (n := 300) (args := [sfr 0 1, sfr 2 3]) (xs := [frV an ad, frV bn bd]) rfl (errC 1) (evSs0 _ _ _ _ _ _ _ _ _ _ _ _ _ hb) rfl w
    · rw [if_neg hv] at hva
      have hv' : (validF an ad && validF bn bd && !false) = false := by
        rw [Bool.eq_false_iff]; simpa using hv
      exact calls_toldS (by kernel_rfl) (ssSym an ad bn bd 0 0 0 0 0 0) (ssVa (validF an ad) (validF bn bd)) (ssGt false) (hva _ _ _ _ _) (ssgt_is (z := 0) rfl) (n := 300) (args := [sfr 0 1, sfr 2 3]) (xs := [frV an ad, frV bn bd]) rfl (errC 1) (evSs0 _ _ _ _ _ _ _ _ _ _ _ _ _ hv') rfl w
  | true =>
    simp only [Bool.and_eq_true, Bool.not_eq_true', decide_eq_false_iff_not] at hb
    obtain ⟨⟨hv1, hv2⟩, hle⟩ := hb
    rw [if_pos ⟨hv1, hv2⟩, hv1, hv2] at hva
    obtain ⟨a1, a2, a3, _⟩ := validF_t hv1
    obtain ⟨b1, b2, b3, _⟩ := validF_t hv2
    rw [cond_true]
    unfold simV
    by_cases ha : 0 < an
    · rw [if_pos ha]
      obtain ⟨g, hb⟩ := rg_pos hv1 hv2 ha (by omega)
      have hs := fun w => simplest_any _ _ _ _ g (by omega) (by omega) (by omega) (by omega) w
      rw [natd' (d := an) (by omega), natd' a1, natd' (d := bn) (by omega), natd' b1] at hs
      refine calls_toldS (by kernel_rfl) (ssSym an ad bn bd (sgn (an * bd - bn * ad)) 0 0 (simN an.natAbs ad.natAbs bn.natAbs bd.natAbs).1 (simN an.natAbs ad.natAbs bn.natAbs bd.natAbs).2 0) (ssVa true true ++ ssPos) (ssGt false ++ ssOps true (decide (bn < 0))) (app2 (hva _ _ _ _ _) fun z hz => ?_) (app2 (ssgt_is (decide_eq_false hle)) (ssops_is (decide_eq_true ha) rfl)) (n := 300) (args := [sfr 0 1, sfr 2 3]) (xs := [frV an ad, frV bn bd]) rfl _ (evSs1 _ _ _ _ _ _ _ _ _ _ _) rfl w
      simp only [ssPos, List.mem_cons, List.not_mem_nil, or_false] at hz
      subst hz
      exact ⟨[frV an ad, frV bn bd], _, rfl, rfl, hs⟩
    · rw [if_neg ha]
      by_cases hb : bn < 0
      · rw [if_pos hb]
        obtain ⟨g, ha'⟩ := rg_neg hv1 hv2 hb (by omega)
        have hs := fun w => simplest_any _ _ _ _ g (by omega) (by omega) (by omega) (by omega) w
        obtain ⟨s1, _, _, _⟩ := sim_small g
        rw [show ((an.natAbs : Nat) : Int) = -an by omega, natd' a1, show ((bn.natAbs : Nat) : Int) = -bn by omega, natd' b1] at hs
        refine calls_toldS (by kernel_rfl) (ssSym an ad bn bd (sgn (an * bd - bn * ad)) (-bn) (-an) (simN bn.natAbs bd.natAbs an.natAbs ad.natAbs).1 (simN bn.natAbs bd.natAbs an.natAbs ad.natAbs).2 (-((simN bn.natAbs bd.natAbs an.natAbs ad.natAbs).1 : Int))) (ssVa true true ++ ssNeg) (ssGt false ++ ssOps false true) (app2 (hva _ _ _ _ _) fun z hz => ?_) (app2 (ssgt_is (decide_eq_false hle)) (ssops_is (decide_eq_false ha) (decide_eq_true hb))) (n := 300) (args := [sfr 0 1, sfr 2 3]) (xs := [frV an ad, frV bn bd]) rfl _ (evSs2 _ _ _ _ _ _ _ _ _ _) rfl w
        simp only [ssNeg, List.mem_cons, List.not_mem_nil, or_false] at hz
        rcases hz with rfl | rfl | rfl | rfl
        · exact ⟨[frV bn bd], _, rfl, rfl, fun w => pNegated_any bn bd (by omega) (by omega) w⟩
        · exact ⟨[frV an ad], _, rfl, rfl, fun w => pNegated_any an ad (by omega) (by omega) w⟩
        · exact ⟨[frV (-bn) bd, frV (-an) ad], _, rfl, rfl, hs⟩
        · exact ⟨[frV _ _], _, rfl, rfl, fun w => pNegated_any _ _ (by omega) (by omega) w⟩
      · rw [if_neg hb]
        exact calls_toldS (by kernel_rfl) (ssSym an ad bn bd (sgn (an * bd - bn * ad)) 0 0 0 0 0) (ssVa true true) (ssGt false ++ ssOps false false) (hva _ _ _ _ _) (app2 (ssgt_is (decide_eq_false hle)) (ssops_is (decide_eq_false ha) (decide_eq_false hb))) (n := 300) (args := [sfr 0 1, sfr 2 3]) (xs := [frV an ad, frV bn bd]) rfl _ (evSs3 _ _ _ _ _ _ _ _ _ _) rfl w
abbrev rsNeg : List KCall := [(60, [sfr 7 3, sfr 8 1], sfr 10 11)]
abbrev rsSub : List KOp := [(.bin .sub 2, [.clo (iv 0), .sy 2], .sy 7), (.bin .sub 2, [.clo (iv 0), .sy 0], .sy 8), (.bin .sub 2, [.clo (iv 0), .sy 10], .sy 12)]
theorem evRs1 (an ad bn bd c x y u v m : Int) (b : Bool) : resIs (sfr 10 11) (evalFn0 Tryd.prog (@evalC (toldV (ssSym an ad bn bd c x y u v m) [(60, [sfr 0 1, sfr 2 3], sfr 10 11)] [] (ssOps true b)) Tryd.prog 300 true) 0 34 [sfr 0 1, sfr 2 3] ⟨0, []⟩) = true := by
  cases b <;> kernel_rfl
theorem evRs2 (an ad bn bd c x y u v m : Int) : resIs (sfr 12 11) (evalFn0 Tryd.prog (@evalC (toldV (ssSym an ad bn bd c x y u v m) rsNeg [] (ssOps false true ++ rsSub)) Tryd.prog 300 true) 0 34 [sfr 0 1, sfr 2 3] ⟨0, []⟩) = true := by
  kernel_rfl
theorem evRs3 (an ad bn bd c x y u v m : Int) : resIs (.clo (frV 0 1)) (evalFn0 Tryd.prog (@evalC (toldV (ssSym an ad bn bd c x y u v m) [] [] (ssOps false false)) Tryd.prog 300 true) 0 34 [sfr 0 1, sfr 2 3] ⟨0, []⟩) = true := by
  kernel_rfl
theorem rSimplest_any (an ad bn bd : Int) (hv1 : validF an ad = true) (hv2 : validF bn bd = true) (hle : an * bd ≤ bn * ad) (w : World) : Calls Tryd.prog 34 #[frV an ad, frV bn bd] w fun e w' => e = .returned (frV (simV an ad bn bd).1 (simV an ad bn bd).2) ∧ Below w.heap.size w w' := by
  obtain ⟨a1, a2, a3, _⟩ := validF_t hv1
  obtain ⟨b1, b2, b3, _⟩ := validF_t hv2
  unfold simV
  by_cases ha : 0 < an
  · rw [if_pos ha]
    obtain ⟨g, hb⟩ := rg_pos hv1 hv2 ha hle
    have hs := fun w => rBetween_any _ _ _ _ _ rfl g (by omega) (by omega) (by omega) (by omega) w
    rw [natd' (d := an) (by omega), natd' a1, natd' (d := bn) (by omega), natd' b1] at hs
    refine calls_toldS (by kernel_rfl) (ssSym an ad bn bd 0 0 0 (simN an.natAbs ad.natAbs bn.natAbs bd.natAbs).1 (simN an.natAbs ad.natAbs bn.natAbs bd.natAbs).2 0) _ (ssOps true (decide (bn < 0))) (fun z hz => ?_) (ssops_is (decide_eq_true ha) rfl) (n := 300) (args := [sfr 0 1, sfr 2 3]) (xs := [frV an ad, frV bn bd]) rfl _ (evRs1 _ _ _ _ _ _ _ _ _ _ _) rfl w
    simp only [List.mem_cons, List.not_mem_nil, or_false] at hz
    subst hz
    exact ⟨[frV an ad, frV bn bd], _, rfl, rfl, hs⟩
  · rw [if_neg ha]
    by_cases hb : bn < 0
    · rw [if_pos hb]
      obtain ⟨g, ha'⟩ := rg_neg hv1 hv2 hb hle
      have hs := fun w => rBetween_any _ _ _ _ _ rfl g (by omega) (by omega) (by omega) (by omega) w
      obtain ⟨s1, _, _, _⟩ := sim_small g
      rw [show ((an.natAbs : Nat) : Int) = -an by omega, natd' a1, show ((bn.natAbs : Nat) : Int) = -bn by omega, natd' b1] at hs
      refine calls_toldS (by kernel_rfl) (ssSym an ad bn bd 0 (-bn) (-an) (simN bn.natAbs bd.natAbs an.natAbs ad.natAbs).1 (simN bn.natAbs bd.natAbs an.natAbs ad.natAbs).2 (-((simN bn.natAbs bd.natAbs an.natAbs ad.natAbs).1 : Int))) rsNeg (ssOps false true ++ rsSub) (fun z hz => ?_) (app2 (ssops_is (decide_eq_false ha) (decide_eq_true hb)) fun z hz => ?_) (n := 300) (args := [sfr 0 1, sfr 2 3]) (xs := [frV an ad, frV bn bd]) rfl _ (evRs2 _ _ _ _ _ _ _ _ _ _) rfl w
      · simp only [List.mem_cons, List.not_mem_nil, or_false] at hz
        subst hz
        exact ⟨[frV (-bn) bd, frV (-an) ad], _, rfl, rfl, hs⟩
      · simp only [rsSub, List.mem_cons, List.not_mem_nil, or_false] at hz
        rcases hz with rfl | rfl | rfl
        · exact ⟨[iv 0, iv bn], iv (-bn), rfl, rfl, tells_sub (by rw [IntKind.wrap_i64]; omega)⟩
        · exact ⟨[iv 0, iv an], iv (-an), rfl, rfl, tells_sub (by rw [IntKind.wrap_i64]; omega)⟩
        · exact ⟨[iv 0, iv _], _, rfl, rfl, tells_sub (by rw [IntKind.wrap_i64]; omega)⟩
    · rw [if_neg hb]
      exact calls_toldS (by kernel_rfl) (ssSym an ad bn bd 0 0 0 0 0 0) [] (ssOps false false) (fun _ h => by cases h) (ssops_is (decide_eq_false ha) (decide_eq_false hb)) (n := 300) (args := [sfr 0 1, sfr 2 3]) (xs := [frV an ad, frV bn bd]) rfl _ (evRs3 _ _ _ _ _ _ _ _ _ _) rfl w

/-! ### The law -/
abbrev fsSym (an ad bn bd cn cd : Int) (z x y c1 c2 c3 u v : Int) : Tm → Sym
  | .v 0 => intSym .i64 an
  | .v 1 => intSym .i64 ad
  | .v 2 => intSym .i64 bn
  | .v 3 => intSym .i64 bd
  | .v 4 => intSym .i64 cn
  | .v 5 => intSym .i64 cd
  | .v 6 => intSym .i64 z
  | .v 14 => intSym .i64 c1
  | .v 15 => intSym .i64 c2
  | .v 16 => intSym .i64 c3
  | .v 20 => intSym .i64 x
  | .v 21 => intSym .i64 y
  | .v 30 => intSym .i64 u
  | .v 31 => intSym .i64 v
  | _ => intSym .i64 0
abbrev fsBase (p q : Bool) : List KCall := [(13, [], .clo (.bool true)), (15, [sfr 0 1], .clo (.bool p)), (15, [sfr 2 3], .clo (.bool q))]
abbrev fsBad : List KCall := [(33, [sfr 0 1, sfr 2 3], errC 1)]
abbrev fsCmp : List KCall := [(28, [sfr 0 1, sfr 2 3], .sy 6)]
abbrev fsGt (g : Bool) : List KOp := [(.bin .gtr 3, [.sy 6, .clo (iv 0)], .clo (.bool g))]
abbrev fsGood (r : Bool) : List KCall :=
  [(33, [sfr 0 1, sfr 2 3], .tup [sfr 20 21, .clo (iv 0)]), (34, [sfr 0 1, sfr 2 3], sfr 20 21), (27, [sfr 0 1, sfr 20 21], .sy 14), (27, [sfr 20 21, sfr 2 3], .sy 15), (15, [sfr 4 5], .clo (.bool r))]
abbrev fsCc : Bool → List KCall
  | true => [(28, [sfr 2 3, sfr 4 5], .sy 16)]
  | false => []
abbrev fsWide : Bool → List KCall
  | true => [(33, [sfr 0 1, sfr 4 5], .tup [sfr 30 31, .clo (iv 0)])]
  | false => []
abbrev fsOps (g : Bool) : List KOp := [(.bin .gtr 3, [.sy 14, .clo (iv 0)], .clo (.bool false)), (.bin .gtr 3, [.sy 15, .clo (iv 0)], .clo (.bool false)), (.bin .gtr 3, [.sy 16, .clo (iv 0)], .clo (.bool g))]
abbrev fsLe : Bool → List KOp
  | true => [(.bin .leq 2, [.sy 31, .sy 21], .clo (.bool true))]
  | false => []
theorem evFs0 (an ad bn bd cn cd z x y c1 c2 c3 u v : Int) (p q : Bool) (h : (p && q) = false) : @evalBeside (toldK 0 (fsSym an ad bn bd cn cd z x y c1 c2 c3 u v) (fsBase p q ++ fsBad) [] [] HasPow (gPow + 1) pow_kst) Tryd.prog 300 7 [sfr 0 1, sfr 2 3, sfr 4 5] [] = some (.bool true) := by
  cases p <;> cases q <;> first | (cases h; done) | kernel_rfl
theorem evFs1 (an ad bn bd cn cd z x y c1 c2 c3 u v : Int) : @evalBeside (toldK 0 (fsSym an ad bn bd cn cd z x y c1 c2 c3 u v) (fsBase true true ++ (fsCmp ++ fsBad)) [] (fsGt true) HasPow (gPow + 1) pow_kst) Tryd.prog 300 7 [sfr 0 1, sfr 2 3, sfr 4 5] [] = some (.bool true) := by
  kernel_rfl
theorem evFs2 (an ad bn bd cn cd z x y c1 c2 c3 u v : Int) (r g : Bool) : @evalBeside (toldK 0 (fsSym an ad bn bd cn cd z x y c1 c2 c3 u v) (fsBase true true ++ (fsCmp ++ (fsGood r ++ (fsCc r ++ fsWide (r && !g))))) fnEqs (fsGt false ++ (fsOps g ++ fsLe (r && !g))) HasPow (gPow + 1) pow_kst) Tryd.prog 300 7 [sfr 0 1, sfr 2 3, sfr 4 5] [] = some (.bool true) := by
  cases r <;> cases g <;> kernel_rfl
theorem cmp_ok {an ad bn bd : Int} (hv1 : validF an ad = true) (hv2 : validF bn bd = true) (w : World) : Calls Tryd.prog 27 #[frV an ad, frV bn bd] w fun e w' => e = .returned (iv (sgn (an * bd - bn * ad))) ∧ Below w.heap.size w w' := by
  obtain ⟨h1, h2⟩ := in64_valid hv1
  obtain ⟨h3, h4⟩ := in64_valid hv2
  have := cmp_any an ad bn bd h1 h2 h3 h4 w
  rw [if_pos ⟨hv1, hv2⟩] at this
  exact this
theorem range_wide {bn bd cn cd m n : Int} (hb : 1 ≤ bd) (hc : 1 ≤ cd) (hn : 1 ≤ n) (h1 : m * bd ≤ bn * n) (h2 : bn * cd ≤ cn * bd) : m * cd ≤ cn * n := by
  have e1 : m * bd * cd ≤ bn * n * cd := Int.mul_le_mul_of_nonneg_right h1 (by omega)
  have e2 : bn * cd * n ≤ cn * bd * n := Int.mul_le_mul_of_nonneg_right h2 (by omega)
  refine Int.le_of_mul_le_mul_right (a := bd) ?_ (by omega)
  rw [show m * cd * bd = m * bd * cd by grind, show cn * n * bd = cn * bd * n by grind]
  rw [show bn * n * cd = bn * cd * n by grind] at e1
  omega
theorem law_simplest (an ad bn bd cn cd : Int) (h1 : In64 an) (h2 : In64 ad) (h3 : In64 bn) (h4 : In64 bd) (h5 : In64 cn) (h6 : In64 cd) (w : World) (hT : HasPow w) :
    Calls Tryd.prog 7 #[frV an ad, frV bn bd, frV cn cd] w fun e w' => e = .returned (.bool true) ∧ Below w.heap.size w w' := by
  have hbase : ∀ (sym : Tm → Sym), @denL (told sym [] []) (fun _ => none) [sfr 0 1] = some [frV an ad] → @denL (told sym [] []) (fun _ => none) [sfr 2 3] = some [frV bn bd] → ∀ z ∈ fsBase (validF an ad) (validF bn bd), CallAt Tryd.prog sym HasPow z := by
    intro sym e0 e1 z hz
    simp only [fsBase, List.mem_cons, List.not_mem_nil, or_false] at hz
    rcases hz with rfl | rfl | rfl
    · exact ⟨[], .bool true, rfl, rfl, fun w hw => awake_any w hw⟩
    · exact ⟨[frV an ad], _, e0, rfl, fun w _ => rValid_any an ad h1.1 h1.2 h2.1 h2.2 w⟩
    · exact ⟨[frV bn bd], _, e1, rfl, fun w _ => rValid_any bn bd h3.1 h3.2 h4.1 h4.2 w⟩
  have ps := fun w => pSimplest_any an ad bn bd h1 h2 h3 h4 w
  have pc := fun w => pSimplest_any an ad cn cd h1 h2 h5 h6 w
  unfold simX at ps pc
  cases hv : (validF an ad && validF bn bd) with
  | false =>
    rw [hv, Bool.false_and, cond_false] at ps
    refine calls_toldK (by kernel_rfl) 0 (fsSym an ad bn bd cn cd 0 0 0 0 0 0 0 0) (fsBase (validF an ad) (validF bn bd) ++ fsBad) [] [] HasPow (gPow + 1) pow_kst (app2 (hbase _ rfl rfl) fun z hz => ?_) (fun _ h => by cases h) (fun _ h => by cases h)
      (args := [sfr 0 1, sfr 2 3, sfr 4 5]) (xs := [frV an ad, frV bn bd, frV cn cd]) rfl [] (evFs0 _ _ _ _ _ _ _ _ _ _ _ _ _ _ _ _ hv) w hT hT.lt' (fun i b h => by simp [look_nil] at h)
    simp only [fsBad, List.mem_cons, List.not_mem_nil, or_false] at hz
    subst hz
    exact ⟨[frV an ad, frV bn bd], tripS (0, 0, 1), rfl, rfl, fun w _ => ps w⟩
  | true =>
    simp only [Bool.and_eq_true] at hv
    obtain ⟨hv1, hv2⟩ := hv
    rw [hv1, hv2, Bool.and_self, Bool.true_and] at ps
    rw [hv1, Bool.true_and] at pc
    rw [hv1, hv2] at hbase
    have rc := fun w => rCmp_any an ad bn bd h1 h2 h3 h4 hv1 hv2 w
    have a1 := (validF_t hv1).1
    have b1 := (validF_t hv2).1
    have hgt : ∀ (x y c1 c2 c3 u v : Int) (g : Bool), decide (0 < an * bd - bn * ad) = g → ∀ k ∈ fsGt g, OpIs Tryd.prog (fsSym an ad bn bd cn cd (sgn (an * bd - bn * ad)) x y c1 c2 c3 u v) k := by
      intro x y c1 c2 c3 u v g hg k hk
      simp only [fsGt, List.mem_cons, List.not_mem_nil, or_false] at hk
      subst hk
      exact ⟨[iv (sgn (an * bd - bn * ad)), iv 0], .bool g, rfl, rfl, tells_gtr (by rw [← hg, Bool.eq_iff_iff, decide_eq_true_eq, decide_eq_true_eq]; exact sgn_gt0)⟩
    have hcm : ∀ (x y c1 c2 c3 u v : Int), ∀ k ∈ fsCmp, CallAt Tryd.prog (fsSym an ad bn bd cn cd (sgn (an * bd - bn * ad)) x y c1 c2 c3 u v) HasPow k := by
      intro x y c1 c2 c3 u v k hk
      simp only [fsCmp, List.mem_cons, List.not_mem_nil, or_false] at hk
      subst hk
      exact ⟨[frV an ad, frV bn bd], _, rfl, rfl, fun w _ => rc w⟩
    by_cases hle : an * bd - bn * ad ≤ 0
    · rw [decide_eq_false (show ¬ 0 < an * bd - bn * ad by omega)] at ps
      obtain ⟨k1, k2, k3, k4⟩ := simV_spec hv1 hv2 (by omega)
      have hwide := fun (hv3 : validF cn cd = true) (hbc : bn * cd ≤ cn * bd) => simV_spec hv1 hv3 (bn := cn) (bd := cd) (range_wide (m := an) (n := ad) b1 (validF_t hv3).1 a1 (by omega) hbc)
      have rs := fun w => rSimplest_any an ad bn bd hv1 hv2 (by omega) w
      have hrv := fun w => rValid_any cn cd h5.1 h5.2 h6.1 h6.2 w
      have rcc := fun (hv3 : validF cn cd = true) w => rCmp_any bn bd cn cd h3 h4 h5 h6 hv2 hv3 w
      have x1 := (validF_t k1).1
      have cx := fun w => cmp_ok hv1 k1 w
      have cy := fun w => cmp_ok k1 hv2 w
      have hpc : validF cn cd = true → bn * cd ≤ cn * bd → ∀ w, Calls Tryd.prog 33 #[frV an ad, frV cn cd] w fun e w' => e = .returned (tripS ((simV an ad cn cd).1, (simV an ad cn cd).2, 0)) ∧ Below w.heap.size w w' := fun hv3 hbc w => by
        have := pc w
        rw [hv3, decide_eq_false (show ¬ 0 < an * cd - cn * ad by have := range_wide (m := an) (n := ad) (cn := cn) (cd := cd) b1 (validF_t hv3).1 a1 (by omega) hbc; omega)] at this
        exact this
      have hden : validF cn cd = true → bn * cd ≤ cn * bd → (simV an ad cn cd).2 ≤ (simV an ad bn bd).2 := fun hv3 hbc =>
        (hwide hv3 hbc).2.2.2 _ _ x1 k2 (range_wide b1 (validF_t hv3).1 x1 k3 hbc)
      generalize simV an ad bn bd = X at *
      generalize simV an ad cn cd = Y at *
      refine calls_toldK (by kernel_rfl) 0 (fsSym an ad bn bd cn cd (sgn (an * bd - bn * ad)) X.1 X.2 (sgn (an * X.2 - X.1 * ad)) (sgn (X.1 * bd - bn * X.2)) (sgn (bn * cd - cn * bd)) Y.1 Y.2) (fsBase true true ++ (fsCmp ++ (fsGood (validF cn cd) ++ (fsCc (validF cn cd) ++ fsWide (validF cn cd && !decide (0 < bn * cd - cn * bd)))))) fnEqs (fsGt false ++ (fsOps (decide (0 < bn * cd - cn * bd)) ++ fsLe (validF cn cd && !decide (0 < bn * cd - cn * bd)))) HasPow (gPow + 1) pow_kst
        (app2 (hbase _ rfl rfl) (app2 (hcm _ _ _ _ _ _ _) (app2 (fun z hz => ?_) (app2 (fun z hz => ?_) (fun z hz => ?_))))) ?_ (app2 (hgt _ _ _ _ _ _ _ _ (decide_eq_false (by omega))) (app2 (fun z hz => ?_) (fun z hz => ?_)))
        (args := [sfr 0 1, sfr 2 3, sfr 4 5]) (xs := [frV an ad, frV bn bd, frV cn cd]) rfl [] (evFs2 _ _ _ _ _ _ _ _ _ _ _ _ _ _ _ _) w hT hT.lt' (fun i b h => by simp [look_nil] at h)
      · simp only [fsGood, List.mem_cons, List.not_mem_nil, or_false] at hz
        rcases hz with rfl | rfl | rfl | rfl | rfl
        · exact ⟨[frV an ad, frV bn bd], tripS (X.1, X.2, 0), rfl, rfl, fun w _ => ps w⟩
        · exact ⟨[frV an ad, frV bn bd], frV X.1 X.2, rfl, rfl, fun w _ => rs w⟩
        · exact ⟨[frV an ad, frV X.1 X.2], _, rfl, rfl, fun w _ => cx w⟩
        · exact ⟨[frV X.1 X.2, frV bn bd], _, rfl, rfl, fun w _ => cy w⟩
        · exact ⟨[frV cn cd], _, rfl, rfl, fun w _ => hrv w⟩
      · cases hv3 : validF cn cd with
        | false => rw [hv3] at hz; cases hz
        | true =>
          rw [hv3] at hz
          simp only [fsCc, List.mem_cons, List.not_mem_nil, or_false] at hz
          subst hz
          exact ⟨[frV bn bd, frV cn cd], _, rfl, rfl, fun w _ => rcc hv3 w⟩
      · cases hv3 : (validF cn cd && !decide (0 < bn * cd - cn * bd)) with
        | false => rw [hv3] at hz; cases hz
        | true =>
          rw [hv3] at hz
          simp only [Bool.and_eq_true, Bool.not_eq_true', decide_eq_false_iff_not] at hv3
          simp only [fsWide, List.mem_cons, List.not_mem_nil, or_false] at hz
          subst hz
          exact ⟨[frV an ad, frV cn cd], tripS (Y.1, Y.2, 0), rfl, rfl, fun w _ => hpc hv3.1 (by omega) w⟩
      · intro z hz
        simp only [fnEqs, List.mem_cons, List.not_mem_nil, or_false] at hz
        subst hz
        exact fr_eq (a := X.1) (b := X.2) (c := X.1) (d := X.2) rfl rfl (by simp)
      · simp only [fsOps, List.mem_cons, List.not_mem_nil, or_false] at hz
        rcases hz with rfl | rfl | rfl
        · exact ⟨[iv (sgn (an * X.2 - X.1 * ad)), iv 0], .bool false, rfl, rfl, tells_gtr (decide_eq_false (fun h => by have := sgn_gt0.1 h; omega))⟩
        · exact ⟨[iv (sgn (X.1 * bd - bn * X.2)), iv 0], .bool false, rfl, rfl, tells_gtr (decide_eq_false (fun h => by have := sgn_gt0.1 h; omega))⟩
        · exact ⟨[iv (sgn (bn * cd - cn * bd)), iv 0], .bool (decide (0 < bn * cd - cn * bd)), rfl, rfl, tells_gtr (by rw [Bool.eq_iff_iff, decide_eq_true_eq, decide_eq_true_eq]; exact sgn_gt0)⟩
      · cases hv3 : (validF cn cd && !decide (0 < bn * cd - cn * bd)) with
        | false => rw [hv3] at hz; cases hz
        | true =>
          rw [hv3] at hz
          simp only [Bool.and_eq_true, Bool.not_eq_true', decide_eq_false_iff_not] at hv3
          simp only [fsLe, List.mem_cons, List.not_mem_nil, or_false] at hz
          subst hz
          exact ⟨[iv Y.2, iv X.2], .bool true, rfl, rfl, tells_leq (decide_eq_true (hden hv3.1 (by omega)))⟩
    · rw [decide_eq_true (show 0 < an * bd - bn * ad by omega)] at ps
      refine calls_toldK (by kernel_rfl) 0 (fsSym an ad bn bd cn cd (sgn (an * bd - bn * ad)) 0 0 0 0 0 0 0) (fsBase true true ++ (fsCmp ++ fsBad)) [] (fsGt true) HasPow (gPow + 1) pow_kst (app2 (hbase _ rfl rfl) (app2 (hcm _ _ _ _ _ _ _) fun z hz => ?_)) (fun _ h => by cases h) (hgt _ _ _ _ _ _ _ _ (decide_eq_true (by omega)))
        (args := [sfr 0 1, sfr 2 3, sfr 4 5]) (xs := [frV an ad, frV bn bd, frV cn cd]) rfl [] (evFs1 _ _ _ _ _ _ _ _ _ _ _ _ _ _) w hT hT.lt' (fun i b h => by simp [look_nil] at h)
      simp only [fsBad, List.mem_cons, List.not_mem_nil, or_false] at hz
      subst hz
      exact ⟨[frV an ad, frV bn bd], tripS (0, 0, 1), rfl, rfl, fun w _ => ps w⟩
end Go.Proofs.YtdjnnbjpaohaiaaDoor
