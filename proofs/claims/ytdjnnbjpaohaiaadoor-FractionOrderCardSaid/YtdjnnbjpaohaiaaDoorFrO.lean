/- Layer 4 (fraction): Mul and Power of both. -/
import Derived.Test.YtdjnnbjpaohaiaaDoorFrN
namespace Go.Proofs.YtdjnnbjpaohaiaaDoor
open Go.RowKit Go.Ev
set_option maxRecDepth 100000

/-! ### A result as three numbers -/
def lowX (neg : Bool) (n d : Nat) : Int × Int × Int := cond (lowB n d) (cond neg (-(n : Int)) n, (d : Int), 0) (0, 0, 6)
def redX (neg : Bool) (n d : Nat) : Int × Int × Int := lowX neg (n / Nat.gcd n d) (d / Nat.gcd n d)
def tripV (t : Int × Int × Int) : Value := .tuple #[frV t.1 t.2.1, iv t.2.2]
theorem lowV_eq (neg : Bool) (n d : Nat) : lowV neg n d = tripV (lowX neg n d) := by
  unfold lowV tripV lowX lowF lowE
  cases lowB n d <;> rfl
theorem redV_eq (neg : Bool) (n d : Nat) : redV neg n d = tripV (redX neg n d) := lowV_eq _ _ _
theorem redX_ok {neg : Bool} {n d : Nat} (hd : 0 < d) (h : (redX neg n d).2.2 = 0) : validF (redX neg n d).1 (redX neg n d).2.1 = true := by
  unfold redX lowX at h ⊢
  cases hb : lowB (n / Nat.gcd n d) (d / Nat.gcd n d) with
  | false => rw [hb] at h; cases h
  | true => exact red_valid hd hb
theorem redX_err {neg : Bool} {n d : Nat} (h : (redX neg n d).2.2 ≠ 0) : redX neg n d = (0, 0, (redX neg n d).2.2) := by
  unfold redX lowX at h ⊢
  cases hb : lowB (n / Nat.gcd n d) (d / Nat.gcd n d) with
  | false => rfl
  | true => rw [hb] at h; exact absurd rfl h

/-! ### Products of words -/
def timesN (a b : Nat) : Nat := if a * b < 18446744073709551616 then a * b else 1000000000000000000
abbrev tmSym (a b m : Int) : Tm → Sym
  | .v 0 => intSym .u64 a
  | .v 1 => intSym .u64 b
  | .v 2 => intSym .u64 (hiW m)
  | .v 3 => intSym .u64 (loW m)
  | _ => intSym .i64 0
theorem pTimes_any (a b : Nat) (ha : a < 18446744073709551616) (hb : b < 18446744073709551616) (w : World) : Calls Tryd.prog 53 #[uv a, uv b] w fun e w' => e = .returned (uv (timesN a b : Nat)) ∧ Below w.heap.size w w' := by
  have hm := fun w => mul64_any a b (by omega) (by omega) (by omega) (by omega) w
  have h0 : (0 : Int) ≤ (a : Int) * b := Int.mul_nonneg (by omega) (by omega)
  have h1 : a * b < 18446744073709551616 * 18446744073709551616 := Nat.mul_lt_mul'' ha hb
  have h2 : decide (hiW ((a : Int) * b) ≠ 0) = !decide (a * b < 18446744073709551616) := by
    rw [← Int.natCast_mul]
    generalize a * b = m at *
    by_cases h : m < 18446744073709551616
    · rw [decide_eq_true h, decide_eq_false]; · rfl
      · unfold hiW; omega
    · rw [decide_eq_false h, decide_eq_true]; · rfl
      · unfold hiW; omega
  refine calls_toldS (by kernel_rfl) (tmSym a b ((a : Int) * b)) [(66, [.sy 0, .sy 1], .tup [.sy 2, .sy 3])] [(.bin .neq 45, [.sy 2, .clo (.int .u64 0)], .clo (.bool (!decide (a * b < 18446744073709551616))))] ?_ ?_
    (n := 300) (args := [.sy 0, .sy 1]) (xs := [uv a, uv b]) rfl (cond (decide (a * b < 18446744073709551616)) (.sy 3) (.clo (uv 1000000000000000000))) ?_ ?_ w
  · intro z hz
    simp only [List.mem_cons, List.not_mem_nil, or_false] at hz
    subst hz
    exact ⟨[uv a, uv b], _, rfl, rfl, fun w => (hm w).mono fun _ _ ⟨h1, h2⟩ => ⟨h1, by rw [h2]; exact Below.refl _ _⟩⟩
  · intro z hz
    simp only [List.mem_cons, List.not_mem_nil, or_false] at hz
    subst hz
    exact ⟨[uv _, uv 0], _, rfl, rfl, tells_neq h2⟩
  · generalize decide (a * b < 18446744073709551616) = t
    cases t <;> kernel_rfl
  · unfold timesN
    by_cases h : a * b < 18446744073709551616
    · rw [decide_eq_true h, if_pos h]
      show some (uv (loW ((a : Int) * b))) = _
      rw [← Int.natCast_mul]
      congr 2
      generalize a * b = m at *
      unfold loW; omega
    · rw [decide_eq_false h, if_neg h]; rfl
theorem lowV_times (neg : Bool) (a b c d : Nat) : lowV neg (timesN a b) (timesN c d) = lowV neg (a * b) (c * d) := by
  have e : ∀ a b : Nat, decide (timesN a b < 1000000000000000000) = decide (a * b < 1000000000000000000) ∧ (a * b < 1000000000000000000 → timesN a b = a * b) := fun a b => by
    unfold timesN
    split
    · exact ⟨rfl, fun _ => rfl⟩
    · exact ⟨by rw [decide_eq_false (by omega), decide_eq_false (by omega)], fun h => by omega⟩
  have hb : lowB (timesN a b) (timesN c d) = lowB (a * b) (c * d) := by unfold lowB; rw [(e a b).1, (e c d).1]
  unfold lowV lowF lowE
  rw [hb]
  cases hl : lowB (a * b) (c * d) with
  | false => rfl
  | true =>
    unfold lowB at hl
    simp only [Bool.and_eq_true, decide_eq_true_eq] at hl
    rw [(e a b).2 hl.1, (e c d).2 hl.2]

/-! ### Mul -/
def mulX (an ad bn bd : Int) : Int × Int × Int := cond (validF an ad && validF bn bd) (redX (decide (an < 0) != decide (bn < 0)) (an.natAbs * bn.natAbs) (ad.natAbs * bd.natAbs)) (0, 0, 1)
abbrev muSym (an ad bn bd : Int) (x y e : Int) (a b c d g h a' b' c' d' n m : Nat) : Tm → Sym
  | .v 0 => intSym .i64 an
  | .v 1 => intSym .i64 ad
  | .v 2 => intSym .i64 bn
  | .v 3 => intSym .i64 bd
  | .v 4 => intSym .u64 a
  | .v 5 => intSym .u64 b
  | .v 6 => intSym .u64 c
  | .v 7 => intSym .u64 d
  | .v 8 => intSym .u64 g
  | .v 9 => intSym .u64 h
  | .v 10 => intSym .u64 a'
  | .v 11 => intSym .u64 b'
  | .v 12 => intSym .u64 c'
  | .v 13 => intSym .u64 d'
  | .v 14 => intSym .u64 n
  | .v 15 => intSym .u64 m
  | .v 20 => intSym .i64 x
  | .v 21 => intSym .i64 y
  | .v 22 => intSym .i64 e
  | _ => intSym .i64 0
abbrev vaC (p q : Bool) : List KCall := [(14, [.agg [.sy 0, .sy 1]], .clo (.bool p)), (14, [.agg [.sy 2, .sy 3]], .clo (.bool q))]
abbrev muCalls (s : Bool) : List KCall :=
  [(40, [.sy 0], .sy 4), (40, [.sy 2], .sy 5), (39, [.sy 4, .sy 7], .sy 8), (39, [.sy 5, .sy 6], .sy 9),
   (53, [.sy 10, .sy 11], .sy 14), (53, [.sy 12, .sy 13], .sy 15), (41, [.clo (.bool s), .sy 14, .sy 15], neRes)]
abbrev muOps (p q : Bool) : List KOp :=
  [(.conv 2 45, [.sy 1], .sy 6), (.conv 2 45, [.sy 3], .sy 7), (.bin .quo 45, [.sy 4, .sy 8], .sy 10), (.bin .quo 45, [.sy 5, .sy 9], .sy 11),
   (.bin .quo 45, [.sy 6, .sy 9], .sy 12), (.bin .quo 45, [.sy 7, .sy 8], .sy 13), (.bin .lss 2, [.sy 0, .clo (.int .i64 0)], .clo (.bool p)), (.bin .lss 2, [.sy 2, .clo (.int .i64 0)], .clo (.bool q))]
theorem evMu (an ad bn bd : Int) (x y e : Int) (a b c d g h a' b' c' d' n m : Nat) (p q : Bool) : resIs neRes (evalFn0 Tryd.prog (@evalC (toldV (muSym an ad bn bd x y e a b c d g h a' b' c' d' n m) (vaC true true ++ muCalls (p != q)) [] (muOps p q)) Tryd.prog 300 true) 0 18 [.agg [.sy 0, .sy 1], .agg [.sy 2, .sy 3]] ⟨0, []⟩) = true := by
  cases p <;> cases q <;> kernel_rfl
theorem va_is {an ad bn bd : Int} (h1 : In64 an) (h2 : In64 ad) (h3 : In64 bn) (h4 : In64 bd) {sym : Tm → Sym} (e0 : @denL (told sym [] []) (fun _ => none) [.agg [.sy 0, .sy 1]] = some [frV an ad]) (e1 : @denL (told sym [] []) (fun _ => none) [.agg [.sy 2, .sy 3]] = some [frV bn bd]) : ∀ z ∈ vaC (validF an ad) (validF bn bd), CallIs Tryd.prog sym z := by
  intro z hz
  simp only [vaC, List.mem_cons, List.not_mem_nil, or_false] at hz
  rcases hz with rfl | rfl
  · exact ⟨[frV an ad], _, e0, rfl, fun w => valid_any an ad h1.1 h1.2 h2.1 h2.2 w⟩
  · exact ⟨[frV bn bd], _, e1, rfl, fun w => valid_any bn bd h3.1 h3.2 h4.1 h4.2 w⟩
theorem pMul_any (an ad bn bd : Int) (h1 : In64 an) (h2 : In64 ad) (h3 : In64 bn) (h4 : In64 bd) (w : World) : Calls Tryd.prog 18 #[frV an ad, frV bn bd] w fun e w' => e = .returned (tripV (mulX an ad bn bd)) ∧ Below w.heap.size w w' := by
  unfold mulX
  have hva := fun (sym : Tm → Sym) => @va_is an ad bn bd h1 h2 h3 h4 sym
  cases hv1 : validF an ad with
  | false =>
    rw [hv1] at hva
    refine calls_toldS (by kernel_rfl) (muSym an ad bn bd 0 0 0 0 0 0 0 0 0 0 0 0 0 0 0) (vaC false (validF bn bd)) [] (hva _ rfl rfl) (fun _ h => by cases h) (n := 300) (args := [.agg [.sy 0, .sy 1], .agg [.sy 2, .sy 3]]) (xs := [frV an ad, frV bn bd]) rfl (errC 1) ?_ rfl w
    generalize validF bn bd = q
    kernel_rfl
  | true =>
    cases hv2 : validF bn bd with
    | false =>
      rw [hv1, hv2] at hva
      exact calls_toldS (by kernel_rfl) (muSym an ad bn bd 0 0 0 0 0 0 0 0 0 0 0 0 0 0 0) (vaC true false) [] (hva _ rfl rfl) (fun _ h => by cases h) (n := 300) (args := [.agg [.sy 0, .sy 1], .agg [.sy 2, .sy 3]]) (xs := [frV an ad, frV bn bd]) rfl (errC 1) (by kernel_rfl) rfl w
    | true =>
      rw [hv1, hv2] at hva
      obtain ⟨a1, a2, a3, a4⟩ := validF_t hv1
      obtain ⟨b1, b2, b3, b4⟩ := validF_t hv2
      generalize hp : decide (an < 0) = p
      generalize hq : decide (bn < 0) = q
      show Calls _ _ _ _ fun e w' => e = .returned (tripV (redX (p != q) (an.natAbs * bn.natAbs) (ad.natAbs * bd.natAbs))) ∧ _
      obtain ⟨m1, m2⟩ := mul_quot a4 b4 (show 0 < ad.natAbs by omega) (show 0 < bd.natAbs by omega)
      have g0 : 0 < Nat.gcd an.natAbs bd.natAbs := Nat.gcd_pos_of_pos_right _ (by omega)
      have g1 : 0 < Nat.gcd bn.natAbs ad.natAbs := Nat.gcd_pos_of_pos_right _ (by omega)
      have q1 : an.natAbs / Nat.gcd an.natAbs bd.natAbs ≤ an.natAbs := Nat.div_le_self _ _
      have q2 : bn.natAbs / Nat.gcd bn.natAbs ad.natAbs ≤ bn.natAbs := Nat.div_le_self _ _
      have q3 : ad.natAbs / Nat.gcd bn.natAbs ad.natAbs ≤ ad.natAbs := Nat.div_le_self _ _
      have q4 : bd.natAbs / Nat.gcd an.natAbs bd.natAbs ≤ bd.natAbs := Nat.div_le_self _ _
      have hlw := fun w => pLowest_any (p != q) (timesN (an.natAbs / Nat.gcd an.natAbs bd.natAbs) (bn.natAbs / Nat.gcd bn.natAbs ad.natAbs)) (timesN (ad.natAbs / Nat.gcd bn.natAbs ad.natAbs) (bd.natAbs / Nat.gcd an.natAbs bd.natAbs)) w
      rw [lowV_times, ← m1, ← m2, lowV_eq, show lowX (p != q) (an.natAbs * bn.natAbs / Nat.gcd (an.natAbs * bn.natAbs) (ad.natAbs * bd.natAbs)) (ad.natAbs * bd.natAbs / Nat.gcd (an.natAbs * bn.natAbs) (ad.natAbs * bd.natAbs)) = redX (p != q) (an.natAbs * bn.natAbs) (ad.natAbs * bd.natAbs) from rfl] at hlw
      generalize redX (p != q) (an.natAbs * bn.natAbs) (ad.natAbs * bd.natAbs) = X at *
      obtain ⟨x, y, e⟩ := X
      have ht1 := fun w => pTimes_any (an.natAbs / Nat.gcd an.natAbs bd.natAbs) (bn.natAbs / Nat.gcd bn.natAbs ad.natAbs) (by omega) (by omega) w
      have ht2 := fun w => pTimes_any (ad.natAbs / Nat.gcd bn.natAbs ad.natAbs) (bd.natAbs / Nat.gcd an.natAbs bd.natAbs) (by omega) (by omega) w
      have hd1 := fun w => divisor_any an.natAbs bd.natAbs (by omega) (by omega) w
      have hd2 := fun w => divisor_any bn.natAbs ad.natAbs (by omega) (by omega) w
      have o3 := @tells_quoN 45 an.natAbs _ g0 (by omega)
      have o4 := @tells_quoN 45 bn.natAbs _ g1 (by omega)
      have o5 := @tells_quoN 45 ad.natAbs _ g1 (by omega)
      have o6 := @tells_quoN 45 bd.natAbs _ g0 (by omega)
      generalize timesN (an.natAbs / Nat.gcd an.natAbs bd.natAbs) (bn.natAbs / Nat.gcd bn.natAbs ad.natAbs) = tn at *
      generalize timesN (ad.natAbs / Nat.gcd bn.natAbs ad.natAbs) (bd.natAbs / Nat.gcd an.natAbs bd.natAbs) = td at *
      refine calls_toldS (by kernel_rfl) (muSym an ad bn bd x y e an.natAbs bn.natAbs ad.natAbs bd.natAbs (Nat.gcd an.natAbs bd.natAbs) (Nat.gcd bn.natAbs ad.natAbs) (an.natAbs / Nat.gcd an.natAbs bd.natAbs) (bn.natAbs / Nat.gcd bn.natAbs ad.natAbs) (ad.natAbs / Nat.gcd bn.natAbs ad.natAbs) (bd.natAbs / Nat.gcd an.natAbs bd.natAbs) tn td) (vaC true true ++ muCalls (p != q)) (muOps p q) ?_ ?_ (n := 300) (args := [.agg [.sy 0, .sy 1], .agg [.sy 2, .sy 3]]) (xs := [frV an ad, frV bn bd]) rfl neRes (evMu _ _ _ _ _ _ _ _ _ _ _ _ _ _ _ _ _ _ _ _ _) rfl w
      · intro z hz
        rcases List.mem_append.1 hz with hz | hz
        · exact hva _ rfl rfl z hz
        · simp only [muCalls, List.mem_cons, List.not_mem_nil, or_false] at hz
          rcases hz with rfl | rfl | rfl | rfl | rfl | rfl | rfl
          · exact ⟨[iv an], uv an.natAbs, rfl, rfl, fun w => (size_any an h1.1 h1.2 w).mono fun _ _ ⟨h1, h2⟩ => ⟨h1, by rw [h2]; exact Below.refl _ _⟩⟩
          · exact ⟨[iv bn], uv bn.natAbs, rfl, rfl, fun w => (size_any bn h3.1 h3.2 w).mono fun _ _ ⟨h1, h2⟩ => ⟨h1, by rw [h2]; exact Below.refl _ _⟩⟩
          · exact ⟨[uv an.natAbs, uv bd.natAbs], _, rfl, rfl, hd1⟩
          · exact ⟨[uv bn.natAbs, uv ad.natAbs], _, rfl, rfl, hd2⟩
          · exact ⟨[uv _, uv _], _, rfl, rfl, ht1⟩
          · exact ⟨[uv _, uv _], _, rfl, rfl, ht2⟩
          · exact ⟨[.bool (p != q), uv tn, uv td], .tuple #[frV x y, iv e], rfl, rfl, hlw⟩
      · intro z hz
        simp only [muOps, List.mem_cons, List.not_mem_nil, or_false] at hz
        rcases hz with rfl | rfl | rfl | rfl | rfl | rfl | rfl | rfl
        · exact ⟨[iv ad], uv ad.natAbs, rfl, rfl, tells_int (u := .int .i64) (by kernel_rfl) (by kernel_rfl) (by rw [IntKind.wrap_u64]; omega)⟩
        · exact ⟨[iv bd], uv bd.natAbs, rfl, rfl, tells_int (u := .int .i64) (by kernel_rfl) (by kernel_rfl) (by rw [IntKind.wrap_u64]; omega)⟩
        · exact ⟨[uv _, uv _], _, rfl, rfl, o3⟩
        · exact ⟨[uv _, uv _], _, rfl, rfl, o4⟩
        · exact ⟨[uv _, uv _], _, rfl, rfl, o5⟩
        · exact ⟨[uv _, uv _], _, rfl, rfl, o6⟩
        · exact ⟨[iv an, iv 0], .bool p, rfl, rfl, tells_lss hp⟩
        · exact ⟨[iv bn, iv 0], .bool q, rfl, rfl, tells_lss hq⟩

/-- What the reference does with two fractions: products, then lowest terms. -/
abbrev rmSym (an ad bn bd : Int) (x y e : Int) (n m : Int) : Tm → Sym
  | .v 0 => intSym .i64 an
  | .v 1 => intSym .i64 ad
  | .v 2 => intSym .i64 bn
  | .v 3 => intSym .i64 bd
  | .v 4 => intSym .u64 (hiW n)
  | .v 5 => intSym .u64 (loW n)
  | .v 6 => intSym .u64 (hiW m)
  | .v 7 => intSym .u64 (loW m)
  | .v 20 => intSym .i64 x
  | .v 21 => intSym .i64 y
  | .v 22 => intSym .i64 e
  | _ => intSym .i64 0
abbrev rmCalls (s : Bool) : List KCall :=
  [(56, [.sy 0, .sy 2], .agg [.sy 4, .sy 5, .clo (.bool s)]), (56, [.sy 1, .sy 3], .agg [.sy 6, .sy 7, .clo (.bool false)]),
   (43, [.agg [.sy 4, .sy 5, .clo (.bool s)], .agg [.sy 6, .sy 7, .clo (.bool false)]], neRes)]
theorem evRm (an ad bn bd x y e n m : Int) (s : Bool) : resIs neRes (evalFn0 Tryd.prog (@evalC (toldV (rmSym an ad bn bd x y e n m) (rmCalls s) [] []) Tryd.prog 300 true) 0 23 [.agg [.sy 0, .sy 1], .agg [.sy 2, .sy 3]] ⟨0, []⟩) = true := by
  cases s <;> kernel_rfl
theorem mul_small' {a b : Nat} (ha : a < 1000000000000000000) (hb : b < 1000000000000000000) : a * b ≤ 1000000000000000000000000000000000000 := Nat.mul_le_mul (Nat.le_of_lt ha) (Nat.le_of_lt hb)
theorem rMul_any (an ad bn bd : Int) (hv1 : validF an ad = true) (hv2 : validF bn bd = true) (w : World) : Calls Tryd.prog 23 #[frV an ad, frV bn bd] w fun e w' => e = .returned (tripV (mulX an ad bn bd)) ∧ Below w.heap.size w w' := by
  unfold mulX
  obtain ⟨h1, h2⟩ := in64_valid hv1
  obtain ⟨h3, h4⟩ := in64_valid hv2
  rw [hv1, hv2]
  obtain ⟨a1, a2, a3, a4⟩ := validF_t hv1
  obtain ⟨b1, b2, b3, b4⟩ := validF_t hv2
  have ht1 := fun w => rTimes_any an bn h1 h3 _ rfl w
  have ht2 := fun w => rTimes_any ad bd h2 h4 false (by rw [decide_eq_false (by omega), decide_eq_false (by omega)]; rfl) w
  have m1 := mul_small' a3 b3
  have m2 := mul_small' (a := ad.natAbs) (b := bd.natAbs) (by omega) (by omega)
  have m3 : 0 < ad.natAbs * bd.natAbs := Nat.mul_pos (by omega) (by omega)
  simp only [← Int.natCast_mul] at ht1 ht2
  generalize (decide (an < 0) != decide (bn < 0)) = s at *
  have hl := fun w => rLowest_any (an.natAbs * bn.natAbs) (ad.natAbs * bd.natAbs) s (by omega) (by omega) m3 w
  rw [redV_eq] at hl
  simp only [Bool.and_self, cond_true]
  generalize redX s (an.natAbs * bn.natAbs) (ad.natAbs * bd.natAbs) = X at *
  obtain ⟨x, y, e⟩ := X
  refine calls_toldS (by kernel_rfl) (rmSym an ad bn bd x y e (an.natAbs * bn.natAbs : Nat) (ad.natAbs * bd.natAbs : Nat)) (rmCalls s) [] ?_ (fun _ h => by cases h) (n := 300) (args := [.agg [.sy 0, .sy 1], .agg [.sy 2, .sy 3]]) (xs := [frV an ad, frV bn bd]) rfl neRes (evRm _ _ _ _ _ _ _ _ _ _) rfl w
  intro z hz
  simp only [rmCalls, List.mem_cons, List.not_mem_nil, or_false] at hz
  rcases hz with rfl | rfl | rfl
  · exact ⟨[iv an, iv bn], _, rfl, rfl, ht1⟩
  · exact ⟨[iv ad, iv bd], _, rfl, rfl, ht2⟩
  · exact ⟨[wide3 (an.natAbs * bn.natAbs : Nat) s, wide3 (ad.natAbs * bd.natAbs : Nat) false], .tuple #[frV x y, iv e], rfl, rfl, hl⟩
end Go.Proofs.YtdjnnbjpaohaiaaDoor
