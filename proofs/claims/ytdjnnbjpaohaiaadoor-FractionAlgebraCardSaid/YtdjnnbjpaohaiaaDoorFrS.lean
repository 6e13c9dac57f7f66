/- Layer 4 (fraction): Add, Sub and Div of both. -/
import Derived.Test.YtdjnnbjpaohaiaaDoorFrR
namespace Go.Proofs.YtdjnnbjpaohaiaaDoor
open Go.RowKit Go.Ev
set_option maxRecDepth 100000

/-! ### Quotients and remainders of sums -/
theorem words_of {S : Nat} (h : S < 340282366920938463463374607431768211456) : hiW S = (S / 18446744073709551616 : Nat) ∧ loW S = (S % 18446744073709551616 : Nat) := by unfold hiW loW; omega
abbrev reSym (S : Int) (d r q : Int) : Tm → Sym
  | .v 0 => intSym .u64 (hiW S)
  | .v 1 => intSym .u64 (loW S)
  | .v 2 => intSym .u64 d
  | .v 3 => intSym .u64 r
  | .v 4 => intSym .u64 q
  | _ => intSym .i64 0
theorem pRem_any (S d : Nat) (hS : S < 340282366920938463463374607431768211456) (h0 : 0 < d) (hd : d < 18446744073709551616) (w : World) :
    Calls Tryd.prog 51 #[wideV S, uv d] w fun e w' => e = .returned (uv (S % d : Nat)) ∧ Below w.heap.size w w' := by
  have hr := fun w => rem64_any (S / 18446744073709551616) (S % 18446744073709551616) d (by omega) h0 hd w
  rw [Nat.div_add_mod'] at hr
  obtain ⟨e1, e2⟩ := words_of hS
  rw [← e1, ← e2] at hr
  refine calls_toldS (by kernel_rfl) (reSym S d (S % d : Nat) 0) [(71, [.sy 0, .sy 1, .sy 2], .sy 3)] [] ?_ (fun _ h => by cases h) (n := 300) (args := [.agg [.sy 0, .sy 1], .sy 2]) (xs := [wideV S, uv d]) rfl (.sy 3) (by kernel_rfl) rfl w
  intro z hz
  simp only [List.mem_cons, List.not_mem_nil, or_false] at hz
  subst hz
  exact ⟨[uv (hiW S), uv (loW S), uv d], _, rfl, rfl, hr⟩
def quoN (S d : Nat) : Nat := if d ≤ S / 18446744073709551616 then 1000000000000000000 else S / d
abbrev quCalls : Bool → List KCall
  | true => []
  | false => [(72, [.sy 0, .sy 1, .sy 2], .tup [.sy 4, .sy 3])]
theorem pQuo_any (S d : Nat) (hS : S < 340282366920938463463374607431768211456) (hd : d < 18446744073709551616) (w : World) :
    Calls Tryd.prog 52 #[wideV S, uv d] w fun e w' => e = .returned (uv (quoN S d : Nat)) ∧ Below w.heap.size w w' := by
  obtain ⟨e1, e2⟩ := words_of hS
  refine calls_toldS (by kernel_rfl) (reSym S d (S % d : Nat) (S / d : Nat)) (quCalls (decide (d ≤ S / 18446744073709551616))) [(.bin .geq 45, [.sy 0, .sy 2], .clo (.bool (decide (d ≤ S / 18446744073709551616))))] ?_ ?_ (n := 300) (args := [.agg [.sy 0, .sy 1], .sy 2]) (xs := [wideV S, uv d]) rfl (cond (decide (d ≤ S / 18446744073709551616)) (.clo (uv 1000000000000000000)) (.sy 4)) ?_ ?_ w
  · intro z hz
    by_cases h : d ≤ S / 18446744073709551616
    · rw [decide_eq_true h] at hz; cases hz
    · rw [decide_eq_false h] at hz
      simp only [quCalls, List.mem_cons, List.not_mem_nil, or_false] at hz
      subst hz
      have hr := fun w => div64_any (S / 18446744073709551616) (S % 18446744073709551616) d (by omega) (by omega) hd w
      rw [Nat.div_add_mod', ← e1, ← e2] at hr
      exact ⟨[uv (hiW S), uv (loW S), uv d], _, rfl, rfl, hr⟩
  · intro z hz
    simp only [List.mem_cons, List.not_mem_nil, or_false] at hz
    subst hz
    exact ⟨[uv (hiW S), uv d], _, rfl, rfl, tells_geq (by rw [e1, Bool.eq_iff_iff, decide_eq_true_eq, decide_eq_true_eq]; omega)⟩
  · generalize decide (d ≤ S / 18446744073709551616) = t
    cases t <;> kernel_rfl
  · unfold quoN
    by_cases h : d ≤ S / 18446744073709551616
    · rw [decide_eq_true h, if_pos h]; rfl
    · rw [decide_eq_false h, if_neg h]; rfl
theorem quoN_spec (S d : Nat) (h0 : 0 < d) : decide (quoN S d < 1000000000000000000) = decide (S / d < 1000000000000000000) ∧ (S / d < 1000000000000000000 → quoN S d = S / d) := by
  unfold quoN
  by_cases h : d ≤ S / 18446744073709551616
  · rw [if_pos h]
    have : 18446744073709551616 ≤ S / d := by
      rw [Nat.le_div_iff_mul_le h0]
      have := Nat.div_mul_le_self S 18446744073709551616
      have h2 : d * 18446744073709551616 ≤ S / 18446744073709551616 * 18446744073709551616 := Nat.mul_le_mul_right _ h
      omega
    exact ⟨by rw [decide_eq_false (by omega), decide_eq_false (by omega)], fun h => by omega⟩
  · rw [if_neg h]; exact ⟨rfl, fun _ => rfl⟩
theorem timesN_spec (a b : Nat) : decide (timesN a b < 1000000000000000000) = decide (a * b < 1000000000000000000) ∧ (a * b < 1000000000000000000 → timesN a b = a * b) := by
  unfold timesN
  split
  · exact ⟨rfl, fun _ => rfl⟩
  · exact ⟨by rw [decide_eq_false (by omega), decide_eq_false (by omega)], fun h => by omega⟩
theorem lowX_quo (neg : Bool) (S h a b : Nat) (h0 : 0 < h) : lowX neg (quoN S h) (timesN a b) = lowX neg (S / h) (a * b) := by
  obtain ⟨q1, q2⟩ := quoN_spec S h h0
  obtain ⟨t1, t2⟩ := timesN_spec a b
  have hb : lowB (quoN S h) (timesN a b) = lowB (S / h) (a * b) := by unfold lowB; rw [q1, t1]
  unfold lowX
  rw [hb]
  cases hl : lowB (S / h) (a * b) with
  | false => rfl
  | true =>
    unfold lowB at hl
    simp only [Bool.and_eq_true, decide_eq_true_eq] at hl
    rw [q2 hl.1, t2 hl.2]

/-! ### Add -/
/-- n / d for an integer n. -/
def redI (n : Int) (d : Nat) : Int × Int × Int := redX (decide (n < 0)) n.natAbs d
theorem redI_sign {t : Bool} {m d : Nat} {n : Int} (h : cond t (-(m : Int)) (m : Int) = n) : redX t m d = redI n d := by
  unfold redI
  have hm : n.natAbs = m := by subst h; cases t <;> simp
  rw [hm]
  by_cases h0 : m = 0
  · subst h0
    unfold redX lowX
    rw [Nat.zero_div]
    cases t <;> cases decide (n < 0) <;> rfl
  · congr 1
    subst h
    cases t
    · exact (decide_eq_false (by simp)).symm
    · exact (decide_eq_true (by simp; omega)).symm
def addX (an ad bn bd : Int) : Int × Int × Int := cond (validF an ad && validF bn bd) (redI (an * bd + bn * ad) (ad.natAbs * bd.natAbs)) (0, 0, 1)
abbrev adSym (an ad bn bd : Int) (ua ub g gi pA pB : Int) (z1 z2 z s : Int) (S r h n u c d : Int) (x y e : Int) : Tm → Sym
  | .v 0 => intSym .i64 an
  | .v 1 => intSym .i64 ad
  | .v 2 => intSym .i64 bn
  | .v 3 => intSym .i64 bd
  | .v 4 => intSym .u64 ua
  | .v 5 => intSym .u64 ub
  | .v 6 => intSym .u64 g
  | .v 7 => intSym .i64 gi
  | .v 8 => intSym .i64 pA
  | .v 9 => intSym .i64 pB
  | .v 10 => intSym .u64 (hiW z1)
  | .v 11 => intSym .u64 (loW z1)
  | .v 12 => intSym .u64 (hiW z2)
  | .v 13 => intSym .u64 (loW z2)
  | .v 14 => intSym .u64 (hiW z)
  | .v 15 => intSym .u64 (loW z)
  | .v 16 => intSym .i64 s
  | .v 17 => intSym .u64 (hiW S)
  | .v 18 => intSym .u64 (loW S)
  | .v 19 => intSym .u64 r
  | .v 20 => intSym .i64 x
  | .v 21 => intSym .i64 y
  | .v 22 => intSym .i64 e
  | .v 23 => intSym .u64 h
  | .v 24 => intSym .u64 n
  | .v 25 => intSym .u64 u
  | .v 26 => intSym .u64 c
  | .v 27 => intSym .u64 d
  | _ => intSym .i64 0
abbrev adAbs (neg : Bool) : CV := cond neg (.agg [.sy 17, .sy 18]) (.agg [.sy 14, .sy 15])
abbrev adCalls (neg : Bool) : List KCall :=
  [(39, [.sy 4, .sy 5], .sy 6), (47, [.sy 0, .sy 9], .agg [.sy 10, .sy 11]), (47, [.sy 2, .sy 8], .agg [.sy 12, .sy 13]),
   (48, [.agg [.sy 10, .sy 11], .agg [.sy 12, .sy 13]], .agg [.sy 14, .sy 15]), (49, [.agg [.sy 14, .sy 15]], .sy 16),
   (50, [.agg [.sy 14, .sy 15]], .agg [.sy 17, .sy 18]), (51, [adAbs neg, .sy 6], .sy 19), (39, [.sy 6, .sy 19], .sy 23),
   (52, [adAbs neg, .sy 23], .sy 24), (53, [.sy 25, .sy 26], .sy 27), (41, [.clo (.bool neg), .sy 24, .sy 27], neRes)]
abbrev adOps (neg : Bool) : List KOp :=
  [(.conv 2 45, [.sy 1], .sy 4), (.conv 2 45, [.sy 3], .sy 5), (.conv 45 2, [.sy 6], .sy 7), (.bin .quo 2, [.sy 1, .sy 7], .sy 8), (.bin .quo 2, [.sy 3, .sy 7], .sy 9),
   (.bin .lss 3, [.sy 16, .clo (iv 0)], .clo (.bool neg)), (.conv 2 45, [.sy 8], .sy 25), (.bin .quo 45, [.sy 5, .sy 23], .sy 26)]
theorem evAd (an ad bn bd : Int) (ua ub g gi pA pB : Int) (z1 z2 z s : Int) (S r h n u c d : Int) (x y e : Int) (neg : Bool) :
    resIs neRes (evalFn0 Tryd.prog (@evalC (toldV (adSym an ad bn bd ua ub g gi pA pB z1 z2 z s S r h n u c d x y e) (vaC true true ++ adCalls neg) [] (adOps neg)) Tryd.prog 300 true) 0 16 [.agg [.sy 0, .sy 1], .agg [.sy 2, .sy 3]] ⟨0, []⟩) = true := by
  cases neg <;> kernel_rfl

theorem natd {d : Int} (h : 1 ≤ d) : ((d.natAbs : Nat) : Int) = d := Int.natAbs_of_nonneg (by omega)
theorem pAdd_any (an ad bn bd : Int) (h1 : In64 an) (h2 : In64 ad) (h3 : In64 bn) (h4 : In64 bd) (w : World) : Calls Tryd.prog 16 #[frV an ad, frV bn bd] w fun e w' => e = .returned (tripV (addX an ad bn bd)) ∧ Below w.heap.size w w' := by
  unfold addX
  have hva := fun (sym : Tm → Sym) => @va_is an ad bn bd h1 h2 h3 h4 sym
  cases hv1 : validF an ad with
  | false =>
    rw [hv1] at hva
    refine calls_toldS (by kernel_rfl) (adSym an ad bn bd 0 0 0 0 0 0 0 0 0 0 0 0 0 0 0 0 0 0 0 0) (vaC false (validF bn bd)) [] (hva _ rfl rfl) (fun _ h => by cases h) (n := 300) (args := [.agg [.sy 0, .sy 1], .agg [.sy 2, .sy 3]]) (xs := [frV an ad, frV bn bd]) rfl (errC 1) ?_ rfl w
    generalize validF bn bd = q
    kernel_rfl
  | true =>
    cases hv2 : validF bn bd with
    | false =>
      rw [hv1, hv2] at hva
      exact calls_toldS (by kernel_rfl) (adSym an ad bn bd 0 0 0 0 0 0 0 0 0 0 0 0 0 0 0 0 0 0 0 0) (vaC true false) [] (hva _ rfl rfl) (fun _ h => by cases h) (n := 300) (args := [.agg [.sy 0, .sy 1], .agg [.sy 2, .sy 3]]) (xs := [frV an ad, frV bn bd]) rfl (errC 1) (by kernel_rfl) rfl w
    | true =>
      rw [hv1, hv2] at hva
      obtain ⟨a1, a2, a3, a4⟩ := validF_t hv1
      obtain ⟨b1, b2, b3, b4⟩ := validF_t hv2
      obtain ⟨A, hA⟩ : ∃ A : Nat, ad.natAbs = A := ⟨_, rfl⟩
      obtain ⟨B, hB⟩ : ∃ B : Nat, bd.natAbs = B := ⟨_, rfl⟩
      have eA : ad = (A : Int) := by omega
      have eB : bd = (B : Int) := by omega
      rw [hA] at a4; rw [hB] at b4
      have pA0 : 0 < A := by omega
      have pB0 : 0 < B := by omega
      obtain ⟨g, hg⟩ : ∃ g, Nat.gcd A B = g := ⟨_, rfl⟩
      obtain ⟨pA, hpA⟩ : ∃ pA, A / g = pA := ⟨_, rfl⟩
      obtain ⟨pB, hpB⟩ : ∃ pB, B / g = pB := ⟨_, rfl⟩
      obtain ⟨z, hz⟩ : ∃ z, an * (pB : Int) + bn * (pA : Int) = z := ⟨_, rfl⟩
      obtain ⟨S, hS⟩ : ∃ S, z.natAbs = S := ⟨_, rfl⟩
      obtain ⟨h, hh⟩ : ∃ h, Nat.gcd g (S % g) = h := ⟨_, rfl⟩
      have pg : 0 < g := hg ▸ Nat.gcd_pos_of_pos_left _ pA0
      have gA : g ≤ A := hg ▸ Nat.le_of_dvd pA0 (Nat.gcd_dvd_left _ _)
      have lA : pA ≤ A := hpA ▸ Nat.div_le_self _ _
      have lB : pB ≤ B := hpB ▸ Nat.div_le_self _ _
      have hSS : S = (an * (pB : Int) + bn * (pA : Int)).natAbs := by rw [hz, hS]
      obtain ⟨k1, k2, k3, k4, k5, _⟩ := add_parts a4 b4 pA0 pB0 g pA pB S h hg.symm hpA.symm hpB.symm hSS hh.symm
      obtain ⟨m1, m2⟩ := add_quot a4 b4 pA0 pB0 g pA pB S h hg.symm hpA.symm hpB.symm hSS hh.symm
      have hN : an * bd + bn * ad = (g : Int) * z := by
        have e1 : (A : Int) = (g : Int) * pA := by rw [← Int.natCast_mul, ← hpA, Nat.mul_div_cancel' (hg ▸ Nat.gcd_dvd_left _ _)]
        have e2 : (B : Int) = (g : Int) * pB := by rw [← Int.natCast_mul, ← hpB, Nat.mul_div_cancel' (hg ▸ Nat.gcd_dvd_right _ _)]
        rw [eA, eB, e1, e2, ← hz]; grind
      have hneg : decide (an * bd + bn * ad < 0) = decide (z < 0) := by
        rw [hN, Bool.eq_iff_iff, decide_eq_true_eq, decide_eq_true_eq]
        constructor
        · intro hlt
          refine Classical.byContradiction fun hn => ?_
          have := Int.mul_nonneg (show (0 : Int) ≤ g by omega) (show 0 ≤ z by omega)
          omega
        · intro hlt
          exact Int.mul_neg_of_pos_of_neg (by omega) hlt
      show Calls _ _ _ _ fun e w' => e = .returned (tripV (redI (an * bd + bn * ad) (ad.natAbs * bd.natAbs))) ∧ _
      have hres : redI (an * bd + bn * ad) (ad.natAbs * bd.natAbs) = lowX (decide (z < 0)) (quoN S h) (timesN pA (B / h)) := by
        rw [lowX_quo _ _ _ _ _ k5]
        unfold redI redX
        rw [hneg, hA, hB, eA, eB, m1, m2]
      rw [hres]
      have bz1 := mul_small (a := an) (b := (pB : Int)) a3 (by omega)
      have bz2 := mul_small (a := bn) (b := (pA : Int)) b3 (by omega)
      have hSb : S < 4000000000000000000000000000000000000 := by omega
      have hzb : -4000000000000000000000000000000000000 < z ∧ z < 4000000000000000000000000000000000000 := by omega
      generalize hneg' : decide (z < 0) = neg at *
      have hlw := fun w => pLowest_any neg (quoN S h) (timesN pA (B / h)) w
      simp only [lowV_eq] at hlw
      generalize lowX neg (quoN S h) (timesN pA (B / h)) = X at *
      obtain ⟨x, y, e⟩ := X
      have hdB : B / h ≤ B := Nat.div_le_self _ _
      have hh1 : h ≤ B := Nat.le_of_dvd pB0 k4
      have hzS : cond neg (-z) z = (S : Int) := by
        cases neg
        · have := of_decide_eq_false hneg'; simp only [cond_false]; omega
        · have := of_decide_eq_true hneg'; simp only [cond_true]; omega
      have hab : @den (told (adSym an ad bn bd A B g g pA pB (an * pB) (bn * pA) z (sgn z) (-z) (S % g : Nat) h (quoN S h : Nat) pA (B / h : Nat) (timesN pA (B / h) : Nat) x y e) [] []) (fun _ => none) (adAbs neg) = some (wideV S) := by
        rw [← hzS]; cases neg <;> rfl
      refine calls_toldS (by kernel_rfl) (adSym an ad bn bd A B g g pA pB (an * pB) (bn * pA) z (sgn z) (-z) (S % g : Nat) h (quoN S h : Nat) pA (B / h : Nat) (timesN pA (B / h) : Nat) x y e) (vaC true true ++ adCalls neg) (adOps neg) ?_ ?_ (n := 300) (args := [.agg [.sy 0, .sy 1], .agg [.sy 2, .sy 3]]) (xs := [frV an ad, frV bn bd]) rfl neRes (evAd _ _ _ _ _ _ _ _ _ _ _ _ _ _ _ _ _ _ _ _ _ _ _ _ _) rfl w
      · intro q hq
        rcases List.mem_append.1 hq with hq | hq
        · exact hva _ rfl rfl q hq
        · simp only [adCalls, List.mem_cons, List.not_mem_nil, or_false] at hq
          rcases hq with rfl | rfl | rfl | rfl | rfl | rfl | rfl | rfl | rfl | rfl | rfl
          · exact ⟨[uv A, uv B], uv g, rfl, rfl, fun w => by rw [← hg]; exact divisor_any A B (by omega) (by omega) w⟩
          · exact ⟨[iv an, iv pB], wideV (an * pB), rfl, rfl, fun w => product_any an pB h1.1 h1.2 (by omega) (by omega) w⟩
          · exact ⟨[iv bn, iv pA], wideV (bn * pA), rfl, rfl, fun w => product_any bn pA h3.1 h3.2 (by omega) (by omega) w⟩
          · exact ⟨[wideV (an * pB), wideV (bn * pA)], wideV z, rfl, rfl, fun w => by rw [← hz]; exact plus_any _ _ w⟩
          · exact ⟨[wideV z], iv (sgn z), rfl, rfl, fun w => sign_any z (by omega) (by omega) w⟩
          · exact ⟨[wideV z], wideV (-z), rfl, rfl, fun w => (negated_any z w).mono fun _ _ ⟨e1, c1, c2, e2⟩ => ⟨e1, by rw [e2]; exact ((Below.refl _ _).alloc (Nat.le_refl _) _).alloc (by simp) _⟩⟩
          · exact ⟨[wideV S, uv g], uv (S % g : Nat), by simp only [denL, hab]; rfl, rfl, fun w => pRem_any S g (by omega) pg (by omega) w⟩
          · exact ⟨[uv g, uv (S % g : Nat)], uv h, rfl, rfl, fun w => by
              have hm := Nat.mod_lt S pg
              rw [← hh]; exact divisor_any g (S % g) (by omega) (by omega) w⟩
          · exact ⟨[wideV S, uv h], uv (quoN S h : Nat), by simp only [denL, hab]; rfl, rfl, fun w => pQuo_any S h (by omega) (by omega) w⟩
          · exact ⟨[uv pA, uv (B / h : Nat)], uv (timesN pA (B / h) : Nat), rfl, rfl, fun w => pTimes_any pA (B / h) (by omega) (by omega) w⟩
          · exact ⟨[.bool neg, uv (quoN S h : Nat), uv (timesN pA (B / h) : Nat)], .tuple #[frV x y, iv e], rfl, rfl, hlw⟩
      · intro q hq
        simp only [adOps, List.mem_cons, List.not_mem_nil, or_false] at hq
        rcases hq with rfl | rfl | rfl | rfl | rfl | rfl | rfl | rfl
        · exact ⟨[iv ad], uv A, rfl, rfl, tells_int (u := .int .i64) (by kernel_rfl) (by kernel_rfl) (by rw [IntKind.wrap_u64]; omega)⟩
        · exact ⟨[iv bd], uv B, rfl, rfl, tells_int (u := .int .i64) (by kernel_rfl) (by kernel_rfl) (by rw [IntKind.wrap_u64]; omega)⟩
        · exact ⟨[uv g], iv g, rfl, rfl, tells_int (u := .int .u64) (by kernel_rfl) (by kernel_rfl) (by rw [IntKind.wrap_i64]; omega)⟩
        · exact ⟨[iv ad, iv g], iv pA, rfl, rfl, tells_quo (by omega) (by rw [eA, ← Int.ofNat_tdiv, hpA, IntKind.wrap_i64]; omega)⟩
        · exact ⟨[iv bd, iv g], iv pB, rfl, rfl, tells_quo (by omega) (by rw [eB, ← Int.ofNat_tdiv, hpB, IntKind.wrap_i64]; omega)⟩
        · exact ⟨[iv (sgn z), iv 0], .bool neg, rfl, rfl, tells_lss (by
            rw [← hneg', Bool.eq_iff_iff, decide_eq_true_eq, decide_eq_true_eq]
            unfold sgn
            by_cases hz0 : z < 0
            · rw [if_pos hz0]; exact ⟨fun _ => hz0, fun _ => by decide⟩
            · rw [if_neg hz0]
              exact ⟨fun h => by split at h <;> omega, fun h => absurd h hz0⟩)⟩
        · exact ⟨[iv pA], uv pA, rfl, rfl, tells_int (u := .int .i64) (by kernel_rfl) (by kernel_rfl) (by rw [IntKind.wrap_u64]; omega)⟩
        · exact ⟨[uv B, uv h], uv (B / h : Nat), rfl, rfl, tells_quoN k5 (by omega)⟩

/-! ### Sub and Div -/
theorem pNegatedW (n d : Int) (w : World) : Calls Tryd.prog 54 #[frV n d] w fun e w' => e = .returned (frV (IntKind.i64.wrap (-n)) d) ∧ Below w.heap.size w w' := by
  refine calls_toldS (by kernel_rfl) (plSym 0 d |> fun _ => neSym n d 0 0 0 0 0 (IntKind.i64.wrap (-n)) 0 0) [] [(.un .neg, [.sy 0], .sy 20)] (fun _ h => by cases h) ?_ (n := 300) (args := [.agg [.sy 0, .sy 1]]) (xs := [frV n d]) rfl (.agg [.sy 20, .sy 1]) (by kernel_rfl) rfl w
  intro z hz
  simp only [List.mem_cons, List.not_mem_nil, or_false] at hz
  subst hz
  exact ⟨[iv n], iv (IntKind.i64.wrap (-n)), rfl, rfl, tells_neg rfl⟩
theorem validF_big {n d : Int} (h : 1000000000000000000 ≤ n.natAbs) : validF n d = false := validF_f fun ⟨_, _, h3, _⟩ => by omega
theorem addX_wrap {an ad bn bd : Int} (h : In64 bn) : addX an ad (IntKind.i64.wrap (-bn)) bd = addX an ad (-bn) bd := by
  obtain ⟨h1, h2⟩ := h
  by_cases hm : bn = -9223372036854775808
  · subst hm
    unfold addX
    rw [validF_big (n := IntKind.i64.wrap (- -9223372036854775808)) (by decide), validF_big (n := - -9223372036854775808) (by decide), Bool.and_false]
    rfl
  · rw [show IntKind.i64.wrap (-bn) = -bn by rw [IntKind.wrap_i64]; omega]
def subX (an ad bn bd : Int) : Int × Int × Int := addX an ad (-bn) bd
abbrev suSym (an ad bn bd m b x y e : Int) : Tm → Sym
  | .v 0 => intSym .i64 an
  | .v 1 => intSym .i64 ad
  | .v 2 => intSym .i64 bn
  | .v 3 => intSym .i64 bd
  | .v 4 => intSym .i64 m
  | .v 5 => intSym .i64 b
  | .v 20 => intSym .i64 x
  | .v 21 => intSym .i64 y
  | .v 22 => intSym .i64 e
  | _ => intSym .i64 0
theorem pSub_any (an ad bn bd : Int) (h1 : In64 an) (h2 : In64 ad) (h3 : In64 bn) (h4 : In64 bd) (w : World) : Calls Tryd.prog 17 #[frV an ad, frV bn bd] w fun e w' => e = .returned (tripV (subX an ad bn bd)) ∧ Below w.heap.size w w' := by
  have ha := fun w => pAdd_any an ad (IntKind.i64.wrap (-bn)) bd h1 h2 (by unfold In64; rw [IntKind.wrap_i64]; omega) h4 w
  rw [addX_wrap h3] at ha
  unfold subX
  generalize addX an ad (-bn) bd = X at *
  obtain ⟨x, y, e⟩ := X
  refine calls_toldS (by kernel_rfl) (suSym an ad bn bd (IntKind.i64.wrap (-bn)) 0 x y e) [(54, [.agg [.sy 2, .sy 3]], .agg [.sy 4, .sy 3]), (16, [.agg [.sy 0, .sy 1], .agg [.sy 4, .sy 3]], neRes)] [] ?_ (fun _ h => by cases h) (n := 300) (args := [.agg [.sy 0, .sy 1], .agg [.sy 2, .sy 3]]) (xs := [frV an ad, frV bn bd]) rfl neRes (by kernel_rfl) rfl w
  intro z hz
  simp only [List.mem_cons, List.not_mem_nil, or_false] at hz
  rcases hz with rfl | rfl
  · exact ⟨[frV bn bd], _, rfl, rfl, fun w => pNegatedW bn bd w⟩
  · exact ⟨[frV an ad, frV (IntKind.i64.wrap (-bn)) bd], .tuple #[frV x y, iv e], rfl, rfl, ha⟩
def divX (an ad bn bd : Int) : Int × Int × Int := cond (validF an ad && validF bn bd && decide (bn ≠ 0)) (redX (decide (an < 0) != decide (bn < 0)) (an.natAbs * bd.natAbs) (ad.natAbs * bn.natAbs)) (0, 0, 1)
abbrev diBad (z : Bool) : List KOp := [(.bin .eql 2, [.sy 2, .clo (iv 0)], .clo (.bool z))]
theorem evDi0 (an ad bn bd m b x y e : Int) (p q z : Bool) (h : (p && q && !z) = false) : resIs (errC 1) (evalFn0 Tryd.prog (@evalC (toldV (suSym an ad bn bd m b x y e) (vaC p q) [] (diBad z)) Tryd.prog 300 true) 0 19 [.agg [.sy 0, .sy 1], .agg [.sy 2, .sy 3]] ⟨0, []⟩) = true := by
  cases p <;> cases q <;> cases z <;> first | (cases h; done) | kernel_rfl
abbrev diCalls (s : Bool) : List KCall := vaC true true ++ [(18, [.agg [.sy 0, .sy 1], cond s (.agg [.sy 5, .sy 4]) (.agg [.sy 3, .sy 2])], neRes)]
abbrev diOps (s : Bool) : List KOp := [(.bin .eql 2, [.sy 2, .clo (iv 0)], .clo (.bool false)), (.bin .lss 2, [.sy 2, .clo (iv 0)], .clo (.bool s)), (.un .neg, [.sy 2], .sy 4), (.un .neg, [.sy 3], .sy 5)]
theorem evDi1 (an ad bn bd m b x y e : Int) (s : Bool) : resIs neRes (evalFn0 Tryd.prog (@evalC (toldV (suSym an ad bn bd m b x y e) (diCalls s) [] (diOps s)) Tryd.prog 300 true) 0 19 [.agg [.sy 0, .sy 1], .agg [.sy 2, .sy 3]] ⟨0, []⟩) = true := by
  cases s <;> kernel_rfl
theorem pDiv_any (an ad bn bd : Int) (h1 : In64 an) (h2 : In64 ad) (h3 : In64 bn) (h4 : In64 bd) (w : World) : Calls Tryd.prog 19 #[frV an ad, frV bn bd] w fun e w' => e = .returned (tripV (divX an ad bn bd)) ∧ Below w.heap.size w w' := by
  have hva := fun (sym : Tm → Sym) => @va_is an ad bn bd h1 h2 h3 h4 sym
  unfold divX
  cases hb : (validF an ad && validF bn bd && decide (bn ≠ 0)) with
  | false =>
    have hz : (validF an ad && validF bn bd && !decide (bn = 0)) = false := by rw [← hb]; simp
    refine calls_toldS (by kernel_rfl) (suSym an ad bn bd 0 0 0 0 0) (vaC (validF an ad) (validF bn bd)) (diBad (decide (bn = 0))) (hva _ rfl rfl) ?_ (n := 300) (args := [.agg [.sy 0, .sy 1], .agg [.sy 2, .sy 3]]) (xs := [frV an ad, frV bn bd]) rfl (errC 1) (evDi0 _ _ _ _ _ _ _ _ _ _ _ _ hz) rfl w
    intro q hq
    simp only [diBad, List.mem_cons, List.not_mem_nil, or_false] at hq
    subst hq
    exact ⟨[iv bn, iv 0], .bool (decide (bn = 0)), rfl, rfl, tells_eql rfl⟩
  | true =>
    simp only [Bool.and_eq_true, decide_eq_true_eq] at hb
    obtain ⟨⟨hv1, hv2⟩, hn⟩ := hb
    rw [hv1, hv2] at hva
    obtain ⟨b1, b2, b3, b4⟩ := validF_t hv2
    have hval : validF (cond (decide (bn < 0)) (-bd) bd) (bn.natAbs : Nat) = true := by
      unfold validF
      rw [decide_eq_true_eq]
      have e1 : (cond (decide (bn < 0)) (-bd) bd).natAbs = bd.natAbs := by cases decide (bn < 0) <;> simp
      rw [e1, Int.natAbs_natCast, Nat.gcd_comm]
      exact ⟨by omega, by omega, by omega, b4⟩
    obtain ⟨i1, i2⟩ := in64_valid hval
    have hm := fun w => pMul_any an ad (cond (decide (bn < 0)) (-bd) bd) (bn.natAbs : Nat) h1 h2 i1 i2 w
    have he : mulX an ad (cond (decide (bn < 0)) (-bd) bd) (bn.natAbs : Nat) = redX (decide (an < 0) != decide (bn < 0)) (an.natAbs * bd.natAbs) (ad.natAbs * bn.natAbs) := by
      unfold mulX
      rw [hv1, hval, Int.natAbs_natCast]
      by_cases hs : bn < 0
      · rw [decide_eq_true hs, cond_true, decide_eq_true (show -bd < 0 by omega), Int.natAbs_neg]; rfl
      · rw [decide_eq_false hs, cond_false, decide_eq_false (show ¬ bd < 0 by omega)]; rfl
    rw [he] at hm
    rw [cond_true]
    generalize redX (decide (an < 0) != decide (bn < 0)) (an.natAbs * bd.natAbs) (ad.natAbs * bn.natAbs) = X at *
    obtain ⟨x, y, e⟩ := X
    refine calls_toldS (by kernel_rfl) (suSym an ad bn bd (-bn) (-bd) x y e) (diCalls (decide (bn < 0))) (diOps (decide (bn < 0))) ?_ ?_ (n := 300) (args := [.agg [.sy 0, .sy 1], .agg [.sy 2, .sy 3]]) (xs := [frV an ad, frV bn bd]) rfl neRes (evDi1 _ _ _ _ _ _ _ _ _ _) rfl w
    · intro q hq
      rcases List.mem_append.1 hq with hq | hq
      · exact hva _ rfl rfl q hq
      · simp only [List.mem_cons, List.not_mem_nil, or_false] at hq
        subst hq
        by_cases hs : bn < 0
        · rw [decide_eq_true hs, cond_true, show ((bn.natAbs : Nat) : Int) = -bn by omega] at hm
          rw [decide_eq_true hs]
          exact ⟨[frV an ad, frV (-bd) (-bn)], .tuple #[frV x y, iv e], rfl, rfl, hm⟩
        · rw [decide_eq_false hs, cond_false, show ((bn.natAbs : Nat) : Int) = bn by omega] at hm
          rw [decide_eq_false hs]
          exact ⟨[frV an ad, frV bd bn], .tuple #[frV x y, iv e], rfl, rfl, hm⟩
    · obtain ⟨h31, h32⟩ := h3
      intro q hq
      simp only [diOps, List.mem_cons, List.not_mem_nil, or_false] at hq
      rcases hq with rfl | rfl | rfl | rfl
      · exact ⟨[iv bn, iv 0], .bool false, rfl, rfl, tells_eql (decide_eq_false hn)⟩
      · exact ⟨[iv bn, iv 0], .bool (decide (bn < 0)), rfl, rfl, tells_lss rfl⟩
      · exact ⟨[iv bn], iv (-bn), rfl, rfl, tells_neg (by rw [IntKind.wrap_i64]; omega)⟩
      · exact ⟨[iv bd], iv (-bd), rfl, rfl, tells_neg (by rw [IntKind.wrap_i64]; omega)⟩

/-! ### The reference -/
theorem rPlus_any (x y : Nat) (p q : Bool) (hx : x < 85070591730234615865843651857942052864) (hy : y < 85070591730234615865843651857942052864) : ∃ (m : Nat) (t : Bool), m < 170141183460469231731687303715884105728 ∧ cond t (-(m : Int)) (m : Int) = cond p (-(x : Int)) (x : Int) + cond q (-(y : Int)) (y : Int) ∧
    ∀ w, Calls Tryd.prog 55 #[wide3 x p, wide3 y q] w fun e w' => e = .returned (wide3 m t) ∧ Below w.heap.size w w' := by
  by_cases hpq : p = q
  · subst hpq
    exact ⟨x + y, p, by omega, by cases p <;> simp <;> omega, fun w => rPlus_same x y p w⟩
  · have hpq' : p = !q := by cases p <;> cases q <;> simp_all
    by_cases hxy : x < y
    · refine ⟨y - x, q, by omega, by subst hpq'; cases q <;> simp <;> omega, fun w => ?_⟩
      rw [show ((y - x : Nat) : Int) = (y : Int) - x by omega]
      exact rPlus_more x y p q hpq' (by omega) (by omega) (by omega) (by omega) (by omega) w
    · refine ⟨x - y, p, by omega, by subst hpq'; cases q <;> simp <;> omega, fun w => ?_⟩
      rw [show ((x - y : Nat) : Int) = (x : Int) - y by omega]
      exact rPlus_less x y p q hpq' (by omega) (by omega) (by omega) (by omega) (by omega) w
abbrev raSym (an ad bn bd : Int) (a b m d : Int) (x y e : Int) : Tm → Sym
  | .v 0 => intSym .i64 an
  | .v 1 => intSym .i64 ad
  | .v 2 => intSym .i64 bn
  | .v 3 => intSym .i64 bd
  | .v 4 => intSym .u64 (hiW a)
  | .v 5 => intSym .u64 (loW a)
  | .v 6 => intSym .u64 (hiW b)
  | .v 7 => intSym .u64 (loW b)
  | .v 8 => intSym .u64 (hiW m)
  | .v 9 => intSym .u64 (loW m)
  | .v 10 => intSym .u64 (hiW d)
  | .v 11 => intSym .u64 (loW d)
  | .v 20 => intSym .i64 x
  | .v 21 => intSym .i64 y
  | .v 22 => intSym .i64 e
  | _ => intSym .i64 0
abbrev w3 (a b : Nat) (p : Bool) : CV := .agg [.sy (.v a), .sy (.v b), .clo (.bool p)]
abbrev raCalls (p q t n : Bool) : List KCall :=
  [(56, [.sy 0, .sy 3], w3 4 5 p), (56, [.sy 2, .sy 1], w3 6 7 q), (57, [w3 6 7 q], w3 6 7 (!q)), (55, [w3 4 5 p, w3 6 7 (n != q)], w3 8 9 t),
   (56, [.sy 1, .sy 3], w3 10 11 false), (43, [w3 8 9 t, w3 10 11 false], neRes)]
theorem evRa (an ad bn bd a b m d x y e : Int) (p q t : Bool) : resIs neRes (evalFn0 Tryd.prog (@evalC (toldV (raSym an ad bn bd a b m d x y e) (raCalls p q t false) [] []) Tryd.prog 300 true) 0 21 [.agg [.sy 0, .sy 1], .agg [.sy 2, .sy 3]] ⟨0, []⟩) = true := by
  cases p <;> cases q <;> cases t <;> kernel_rfl
theorem evRs (an ad bn bd a b m d x y e : Int) (p q t : Bool) : resIs neRes (evalFn0 Tryd.prog (@evalC (toldV (raSym an ad bn bd a b m d x y e) (raCalls p q t true) [] []) Tryd.prog 300 true) 0 22 [.agg [.sy 0, .sy 1], .agg [.sy 2, .sy 3]] ⟨0, []⟩) = true := by
  cases p <;> cases q <;> cases t <;> kernel_rfl
theorem rSum_go (f : FuncId) (n : Bool) (hev : ∀ (an ad bn bd a b m d x y e : Int) (p q t : Bool), resIs neRes (evalFn0 Tryd.prog (@evalC (toldV (raSym an ad bn bd a b m d x y e) (raCalls p q t n) [] []) Tryd.prog 300 true) 0 f [.agg [.sy 0, .sy 1], .agg [.sy 2, .sy 3]] ⟨0, []⟩) = true)
    (an ad bn bd : Int) (hv1 : validF an ad = true) (hv2 : validF bn bd = true) (w : World) : Calls Tryd.prog f #[frV an ad, frV bn bd] w fun e w' => e = .returned (tripV (redI (an * bd + cond n (-bn) bn * ad) (ad.natAbs * bd.natAbs))) ∧ Below w.heap.size w w' := by
  obtain ⟨h1, h2⟩ := in64_valid hv1
  obtain ⟨h3, h4⟩ := in64_valid hv2
  obtain ⟨a1, a2, a3, a4⟩ := validF_t hv1
  obtain ⟨b1, b2, b3, b4⟩ := validF_t hv2
  have ht1 := fun w => rTimes_any an bd h1 h4 _ rfl w
  have ht2 := fun w => rTimes_any bn ad h3 h2 _ rfl w
  have ht3 := fun w => rTimes_any ad bd h2 h4 false (by rw [decide_eq_false (by omega), decide_eq_false (by omega)]; rfl) w
  have s1 := sign_mul an bd _ rfl
  have s2 := sign_mul bn ad _ rfl
  have m1 := mul_small' (a := an.natAbs) (b := bd.natAbs) a3 (by omega)
  have m2 := mul_small' (a := bn.natAbs) (b := ad.natAbs) b3 (by omega)
  have m3 := mul_small' (a := ad.natAbs) (b := bd.natAbs) (by omega) (by omega)
  have m4 : 0 < ad.natAbs * bd.natAbs := Nat.mul_pos (by omega) (by omega)
  simp only [← Int.natCast_mul] at ht1 ht2 ht3 s1 s2
  generalize (decide (an < 0) != decide (bd < 0)) = p at *
  generalize (decide (bn < 0) != decide (ad < 0)) = q at *
  generalize an.natAbs * bd.natAbs = x1 at *
  generalize bn.natAbs * ad.natAbs = x2 at *
  generalize ad.natAbs * bd.natAbs = x3 at *
  obtain ⟨m, t, hm, hmt, hp⟩ := rPlus_any x1 x2 p (n != q) (by omega) (by omega)
  have hN : cond t (-(m : Int)) (m : Int) = an * bd + cond n (-bn) bn * ad := by
    rw [hmt, s1]
    congr 1
    cases n
    · rw [cond_false, s2]; cases q <;> rfl
    · rw [cond_true, Int.neg_mul, s2]; cases q <;> simp
  have hl := fun w => rLowest_any m x3 t hm (by omega) m4 w
  rw [redV_eq, redI_sign hN] at hl
  generalize redI (an * bd + cond n (-bn) bn * ad) x3 = X at *
  obtain ⟨x, y, e⟩ := X
  refine calls_toldS (by kernel_rfl) (raSym an ad bn bd x1 x2 m x3 x y e) (raCalls p q t n) [] ?_ (fun _ h => by cases h) (n := 300) (args := [.agg [.sy 0, .sy 1], .agg [.sy 2, .sy 3]]) (xs := [frV an ad, frV bn bd]) rfl neRes (hev _ _ _ _ _ _ _ _ _ _ _ _ _ _) rfl w
  intro z hz
  simp only [raCalls, List.mem_cons, List.not_mem_nil, or_false] at hz
  rcases hz with rfl | rfl | rfl | rfl | rfl | rfl
  · exact ⟨[iv an, iv bd], wide3 x1 p, rfl, rfl, ht1⟩
  · exact ⟨[iv bn, iv ad], wide3 x2 q, rfl, rfl, ht2⟩
  · exact ⟨[wide3 x2 q], wide3 x2 (!q), rfl, rfl, fun w => rMinus_any x2 q w⟩
  · exact ⟨[wide3 x1 p, wide3 x2 (n != q)], wide3 m t, rfl, rfl, hp⟩
  · exact ⟨[iv ad, iv bd], wide3 x3 false, rfl, rfl, ht3⟩
  · exact ⟨[wide3 m t, wide3 x3 false], .tuple #[frV x y, iv e], rfl, rfl, hl⟩
theorem addX_valid {an ad bn bd : Int} (hv1 : validF an ad = true) (hv2 : validF bn bd = true) : addX an ad bn bd = redI (an * bd + bn * ad) (ad.natAbs * bd.natAbs) := by unfold addX; rw [hv1, hv2]; rfl
theorem validF_neg (n d : Int) : validF (-n) d = validF n d := by unfold validF; rw [Int.natAbs_neg]
theorem rAdd_any (an ad bn bd : Int) (hv1 : validF an ad = true) (hv2 : validF bn bd = true) (w : World) : Calls Tryd.prog 21 #[frV an ad, frV bn bd] w fun e w' => e = .returned (tripV (addX an ad bn bd)) ∧ Below w.heap.size w w' := by
  rw [addX_valid hv1 hv2]
  exact rSum_go _ false evRa an ad bn bd hv1 hv2 w
theorem rSub_any (an ad bn bd : Int) (hv1 : validF an ad = true) (hv2 : validF bn bd = true) (w : World) : Calls Tryd.prog 22 #[frV an ad, frV bn bd] w fun e w' => e = .returned (tripV (subX an ad bn bd)) ∧ Below w.heap.size w w' := by
  unfold subX
  rw [addX_valid hv1 (by rw [validF_neg]; exact hv2)]
  exact rSum_go _ true evRs an ad bn bd hv1 hv2 w
abbrev rdCalls (p q : Bool) : List KCall :=
  [(56, [.sy 0, .sy 3], w3 4 5 p), (56, [.sy 1, .sy 2], w3 10 11 q), (43, [w3 4 5 (p != q), w3 10 11 false], neRes)]
theorem evRd (an ad bn bd a b m d x y e : Int) (p q : Bool) : resIs neRes (evalFn0 Tryd.prog (@evalC (toldV (raSym an ad bn bd a b m d x y e) (rdCalls p q) [] []) Tryd.prog 300 true) 0 24 [.agg [.sy 0, .sy 1], .agg [.sy 2, .sy 3]] ⟨0, []⟩) = true := by
  cases p <;> cases q <;> kernel_rfl
theorem rDiv_any (an ad bn bd : Int) (hv1 : validF an ad = true) (hv2 : validF bn bd = true) (hn : bn ≠ 0) (w : World) : Calls Tryd.prog 24 #[frV an ad, frV bn bd] w fun e w' => e = .returned (tripV (divX an ad bn bd)) ∧ Below w.heap.size w w' := by
  unfold divX
  rw [hv1, hv2, decide_eq_true hn]
  simp only [Bool.and_self, cond_true]
  obtain ⟨h1, h2⟩ := in64_valid hv1
  obtain ⟨h3, h4⟩ := in64_valid hv2
  obtain ⟨a1, a2, a3, a4⟩ := validF_t hv1
  obtain ⟨b1, b2, b3, b4⟩ := validF_t hv2
  have ht1 := fun w => rTimes_any an bd h1 h4 (decide (an < 0)) (by rw [decide_eq_false (show ¬ bd < 0 by omega)]; simp) w
  have ht2 := fun w => rTimes_any ad bn h2 h3 (decide (bn < 0)) (by rw [decide_eq_false (show ¬ ad < 0 by omega)]; simp) w
  have m1 := mul_small' (a := an.natAbs) (b := bd.natAbs) a3 (by omega)
  have m2 := mul_small' (a := ad.natAbs) (b := bn.natAbs) (by omega) b3
  have m4 : 0 < ad.natAbs * bn.natAbs := Nat.mul_pos (by omega) (by omega)
  simp only [← Int.natCast_mul] at ht1 ht2
  generalize decide (an < 0) = p at *
  generalize decide (bn < 0) = q at *
  have hl := fun w => rLowest_any (an.natAbs * bd.natAbs) (ad.natAbs * bn.natAbs) (p != q) (by omega) (by omega) m4 w
  rw [redV_eq] at hl
  generalize redX (p != q) (an.natAbs * bd.natAbs) (ad.natAbs * bn.natAbs) = X at *
  obtain ⟨x, y, e⟩ := X
  refine calls_toldS (by kernel_rfl) (raSym an ad bn bd (an.natAbs * bd.natAbs : Nat) 0 0 (ad.natAbs * bn.natAbs : Nat) x y e) (rdCalls p q) [] ?_ (fun _ h => by cases h) (n := 300) (args := [.agg [.sy 0, .sy 1], .agg [.sy 2, .sy 3]]) (xs := [frV an ad, frV bn bd]) rfl neRes (evRd _ _ _ _ _ _ _ _ _ _ _ _ _) rfl w
  intro z hz
  simp only [rdCalls, List.mem_cons, List.not_mem_nil, or_false] at hz
  rcases hz with rfl | rfl | rfl
  · exact ⟨[iv an, iv bd], _, rfl, rfl, ht1⟩
  · exact ⟨[iv ad, iv bn], _, rfl, rfl, ht2⟩
  · exact ⟨[wide3 (an.natAbs * bd.natAbs : Nat) (p != q), wide3 (ad.natAbs * bn.natAbs : Nat) false], .tuple #[frV x y, iv e], rfl, rfl, hl⟩
end Go.Proofs.YtdjnnbjpaohaiaaDoor
