/- Contracts of layer 3: Dot, Distance (bad), Add, Sub; Compare, Primitive (begun). -/
import Derived.Test.YtdbcflgacjgdoaaVeU
import Derived.Test.YtdbcflgacjgdoaaVeF
import Derived.Test.YtdbcflgacjgdoaaVeG
namespace Go.Proofs.Ytdbcflgacjgdoaa
open Go.RowKit

set_option maxRecDepth 20000 in
set_option maxHeartbeats 4000000 in
theorem dot2_bad (x y z x' y' z' : Int) (h : (inV (x, y, z) && inV (x', y', z')) = false) (w : World) : Calls Try.prog 18 #[.agg #[.int .i64 x, .int .i64 y, .int .i64 z], .agg #[.int .i64 x', .int .i64 y', .int .i64 z']] w fun e w' => e = .returned (.tuple #[.int .i64 0, .int .i64 6]) ∧ Below w.heap.size w w' := by
  have HC := Lib.hid (fun g W t hg => ck2 x y z x' y' z' g W t hg)
  rw [h, if_neg (by simp)] at HC
  clear h
  go_enter Try.func18, Try.ntmps18
  go_wp2_with fail
  refine (HC.out _ _ _ (by simp)).mono ?_
  rintro e w1 ⟨rfl, hb1⟩
  have HS := Lib.hid (Six.ck (hb1.mono (by simp)))
  clear hb1
  go_wp2_with fail
  exact bodyPost_ret (v := .tuple #[.int .i64 0, .int .i64 6]) (by simp [results, Try.results18, go_sem]) rfl ⟨rfl, HS.out.2.2.2.2.2.2.2⟩
set_option maxRecDepth 20000 in
set_option maxHeartbeats 4000000 in
theorem comb_bad (x y z x' y' z' f : Int) (h : (inV (x, y, z) && inV (x', y', z')) = false) (w : World) : Calls Try.prog 23 #[.agg #[.int .i64 x, .int .i64 y, .int .i64 z], .agg #[.int .i64 x', .int .i64 y', .int .i64 z'], .int .i64 f] w fun e w' => e = .returned (.tuple #[.agg #[.int .i64 0, .int .i64 0, .int .i64 0], .int .i64 6]) ∧ Below w.heap.size w w' := by
  have HC := Lib.hid (fun g W t hg => ck2 x y z x' y' z' g W t hg)
  rw [h, if_neg (by simp)] at HC
  clear h
  go_enter Try.func23, Try.ntmps23
  go_wp2_with fail
  refine (HC.out _ _ _ (by simp)).mono ?_
  rintro e w1 ⟨rfl, hb1⟩
  have HS := Lib.hid (Six.ck4 (hb1.mono (by simp)))
  have h3 := third (hb1.mono (by simp))
  clear hb1
  obtain ⟨r1, r2, r3, r4, r5, r6⟩ := own3 h3
  clear h3
  go_wp2_with fail
  exact bodyPost_ret (v := .tuple #[.agg #[.int .i64 0, .int .i64 0, .int .i64 0], .int .i64 6]) (by simp [results, Try.results23, go_sem, r1, r2, r3]) rfl ⟨rfl, ((HS.out.2.2.2.2.2.2.2.setCell (p := ⟨w.heap.size + 1 + 1, 0, none⟩) (by show w.heap.size ≤ w.heap.size + 1 + 1; omega) _).setCell (p := ⟨w.heap.size + 1 + 1, 1, none⟩) (by show w.heap.size ≤ w.heap.size + 1 + 1; omega) _).setCell (p := ⟨w.heap.size + 1 + 1, 2, none⟩) (by show w.heap.size ≤ w.heap.size + 1 + 1; omega) _⟩

/-- What Add and Sub give, from the sum or difference s. -/
def okV (a b : V3) : Bool := inV a && inV b
def resV (ok : Bool) (s : V3) : V3 := if ok && inV s then s else (0, 0, 0)
def resE (ok : Bool) (s : V3) : Int := if ok && inV s then 0 else 6
def addV (a b : V3) : V3 := (a.1 + b.1, a.2.1 + b.2.1, a.2.2 + b.2.2)
def subV (a b : V3) : V3 := (a.1 + -b.1, a.2.1 + -b.2.1, a.2.2 + -b.2.2)
theorem comb1_any (a b : V3) (w : World) : Calls Try.prog 23 #[vecV a, vecV b, .int .i64 1] w fun e w' => e = .returned (.tuple #[vecV (resV (okV a b) (addV a b)), .int .i64 (resE (okV a b) (addV a b))]) ∧ Below w.heap.size w w' := by
  obtain ⟨x, y, z⟩ := a
  obtain ⟨x', y', z'⟩ := b
  cases hk : okV (x, y, z) (x', y', z') with
  | false =>
    have h := comb_bad x y z x' y' z' 1 hk w
    simpa [resV, resE] using h
  | true =>
    have hk' := hk
    rw [okV, Bool.and_eq_true] at hk'
    have h := comb_one x y z x' y' z' hk'.1 hk'.2 w
    unfold resV resE addV
    cases hv : inV (x + x', y + y', z + z') with
    | true => rw [hv, if_pos rfl] at h; simpa using h
    | false => rw [hv, if_neg (by simp)] at h; simpa using h
theorem comb0_any (a b : V3) (w : World) : Calls Try.prog 23 #[vecV a, vecV b, .int .i64 (-1)] w fun e w' => e = .returned (.tuple #[vecV (resV (okV a b) (subV a b)), .int .i64 (resE (okV a b) (subV a b))]) ∧ Below w.heap.size w w' := by
  obtain ⟨x, y, z⟩ := a
  obtain ⟨x', y', z'⟩ := b
  cases hk : okV (x, y, z) (x', y', z') with
  | false =>
    have h := comb_bad x y z x' y' z' (-1) hk w
    simpa [resV, resE] using h
  | true =>
    have hk' := hk
    rw [okV, Bool.and_eq_true] at hk'
    have h := comb_neg x y z x' y' z' hk'.1 hk'.2 w
    unfold resV resE subV
    cases hv : inV (x + -x', y + -y', z + -z') with
    | true => rw [hv, if_pos rfl] at h; simpa using h
    | false => rw [hv, if_neg (by simp)] at h; simpa using h
set_option maxRecDepth 20000 in
set_option maxHeartbeats 4000000 in
theorem add_any (a b : V3) (w : World) : Calls Try.prog 6 #[vecV a, vecV b] w fun e w' => e = .returned (.tuple #[vecV (resV (okV a b) (addV a b)), .int .i64 (resE (okV a b) (addV a b))]) ∧ Below w.heap.size w w' := by
  have H := Lib.hid (fun W => comb1_any a b W)
  generalize resV (okV a b) (addV a b) = r at H ⊢
  generalize resE (okV a b) (addV a b) = n at H ⊢
  have HM := Lib.hid (fun t => made3 w (.cells #[.int .i64 a.1, .int .i64 a.2.1, .int .i64 a.2.2] t) (.cells #[.int .i64 b.1, .int .i64 b.2.1, .int .i64 b.2.2] t) (.cells #[.int .i64 0, .int .i64 0, .int .i64 0] t))
  go_enter Try.func6, Try.ntmps6
  go_wp2_with fail
  refine (H.out _).mono ?_
  rintro e w1 ⟨rfl, hb⟩
  obtain ⟨m1, m2, m3, m4, m5⟩ := HM.out 23
  obtain ⟨r1, r2, r3, r4, r5, r6⟩ := own3 ((hb.block _ (by rw [m5]; omega)).trans m3)
  have HB := Lib.hid (m4.trans (hb.mono (by rw [m5]; omega)))
  clear hb m1 m2 m3 m4 m5 HM
  go_wp2_with fail
  exact bodyPost_ret (v := .tuple #[vecV r, .int .i64 n]) (by simp [results, Try.results6, go_sem, r1, r2, r3]) rfl ⟨rfl, by first | exact ((HB.out.setCell (p := ⟨w.heap.size + 1 + 1, 0, none⟩) (by show w.heap.size ≤ w.heap.size + 1 + 1; omega) _).setCell (p := ⟨w.heap.size + 1 + 1, 1, none⟩) (by show w.heap.size ≤ w.heap.size + 1 + 1; omega) _).setCell (p := ⟨w.heap.size + 1 + 1, 2, none⟩) (by show w.heap.size ≤ w.heap.size + 1 + 1; omega) _ | exact HB.out⟩
set_option maxRecDepth 20000 in
set_option maxHeartbeats 4000000 in
theorem sub_any (a b : V3) (w : World) : Calls Try.prog 7 #[vecV a, vecV b] w fun e w' => e = .returned (.tuple #[vecV (resV (okV a b) (subV a b)), .int .i64 (resE (okV a b) (subV a b))]) ∧ Below w.heap.size w w' := by
  have H := Lib.hid (fun W => comb0_any a b W)
  generalize resV (okV a b) (subV a b) = r at H ⊢
  generalize resE (okV a b) (subV a b) = n at H ⊢
  have HM := Lib.hid (fun t => made3 w (.cells #[.int .i64 a.1, .int .i64 a.2.1, .int .i64 a.2.2] t) (.cells #[.int .i64 b.1, .int .i64 b.2.1, .int .i64 b.2.2] t) (.cells #[.int .i64 0, .int .i64 0, .int .i64 0] t))
  go_enter Try.func7, Try.ntmps7
  go_wp2_with fail
  refine (H.out _).mono ?_
  rintro e w1 ⟨rfl, hb⟩
  obtain ⟨m1, m2, m3, m4, m5⟩ := HM.out 23
  obtain ⟨r1, r2, r3, r4, r5, r6⟩ := own3 ((hb.block _ (by rw [m5]; omega)).trans m3)
  have HB := Lib.hid (m4.trans (hb.mono (by rw [m5]; omega)))
  clear hb m1 m2 m3 m4 m5 HM
  go_wp2_with fail
  exact bodyPost_ret (v := .tuple #[vecV r, .int .i64 n]) (by simp [results, Try.results7, go_sem, r1, r2, r3]) rfl ⟨rfl, by first | exact ((HB.out.setCell (p := ⟨w.heap.size + 1 + 1, 0, none⟩) (by show w.heap.size ≤ w.heap.size + 1 + 1; omega) _).setCell (p := ⟨w.heap.size + 1 + 1, 1, none⟩) (by show w.heap.size ≤ w.heap.size + 1 + 1; omega) _).setCell (p := ⟨w.heap.size + 1 + 1, 2, none⟩) (by show w.heap.size ≤ w.heap.size + 1 + 1; omega) _ | exact HB.out⟩

def dotV (a b : V3) : Int := a.1 * b.1 + a.2.1 * b.2.1 + a.2.2 * b.2.2
def errOk (ok : Bool) : Int := if ok then 0 else 6
theorem dotP_any (a b : V3) (w : World) : Calls Try.prog 18 #[vecV a, vecV b] w fun e w' => e = .returned (.tuple #[.int .i64 (if okV a b then dotV a b else 0), .int .i64 (errOk (okV a b))]) ∧ Below w.heap.size w w' := by
  obtain ⟨x, y, z⟩ := a
  obtain ⟨x', y', z'⟩ := b
  cases hk : okV (x, y, z) (x', y', z') with
  | false => simpa [errOk] using dot2_bad x y z x' y' z' hk w
  | true =>
    have hk' := hk
    rw [okV, Bool.and_eq_true] at hk'
    simpa [errOk, dotV] using dot2_ok x y z x' y' z' hk'.1 hk'.2 w
end Go.Proofs.Ytdbcflgacjgdoaa
