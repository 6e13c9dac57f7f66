/- Contracts of layer 3: Cross. -/
import Derived.Test.YtdbcflgacjgdoaaVeP
namespace Go.Proofs.Ytdbcflgacjgdoaa
open Go.RowKit

theorem hDrewE (W : World) (g : Nat) (x : Option Obj) (h : W.heap[g]? = x) : W.drew.heap[g]? = x := h


set_option maxRecDepth 20000 in
set_option maxHeartbeats 8000000 in
theorem cross_ok (x y z x' y' z' : Int) (ha : inV (x, y, z) = true) (hb : inV (x', y', z') = true) (w : World) : Calls Try.prog 19 #[.agg #[.int .i64 x, .int .i64 y, .int .i64 z], .agg #[.int .i64 x', .int .i64 y', .int .i64 z']] w fun e w' => e = .returned (.tuple #[arr3 (y * z' - z * y') (z * x' - x * z') (x * y' - y * x'), .int .i64 0]) ∧ Below w.heap.size w w' := by
  have HC := Lib.hid (fun g W t hg => ck2 x y z x' y' z' g W t hg)
  rw [ha, hb, Bool.and_self, if_pos rfl] at HC
  obtain ⟨x1, y1, z1⟩ := inV_two ha
  obtain ⟨x2, y2, z2⟩ := inV_two hb
  have m1 := two_mul y1 z2
  have m2 := two_mul z1 y2
  have m3 := two_mul z1 x2
  have m4 := two_mul x1 z2
  have m5 := two_mul x1 y2
  have m6 := two_mul y1 x2
  have q1 : IntKind.i64.wrap (y * z') = y * z' := wrap_in (by omega) (by omega)
  have q2 : IntKind.i64.wrap (z * y') = z * y' := wrap_in (by omega) (by omega)
  have q3 : IntKind.i64.wrap (z * x') = z * x' := wrap_in (by omega) (by omega)
  have q4 : IntKind.i64.wrap (x * z') = x * z' := wrap_in (by omega) (by omega)
  have q5 : IntKind.i64.wrap (x * y') = x * y' := wrap_in (by omega) (by omega)
  have q6 : IntKind.i64.wrap (y * x') = y * x' := wrap_in (by omega) (by omega)
  have q7 : IntKind.i64.wrap (y * z' - z * y') = y * z' - z * y' := wrap_in (by omega) (by omega)
  have q8 : IntKind.i64.wrap (z * x' - x * z') = z * x' - x * z' := wrap_in (by omega) (by omega)
  have q9 : IntKind.i64.wrap (x * y' - y * x') = x * y' - y * x' := wrap_in (by omega) (by omega)
  clear m1 m2 m3 m4 m5 m6
  have HK := Lib.hid (fun a b c W => coordsE a b c W)
  clear ha hb x1 y1 z1 x2 y2 z2
  go_enter Try.func19, Try.ntmps19
  go_wp2_with fail
  refine (HC.out _ _ _ (by simp)).mono ?_
  rintro e w1 ⟨rfl, hb1⟩
  have HS := Lib.hid (Six.ck4 (hb1.mono (by simp)))
  have h3 := Lib.hid (third (hb1.mono (by simp)))
  clear hb1
  have hz : w.heap.size + 3 < w1.heap.size := HS.out.2.2.2.2.2.2.1
  have hz1 : w.heap.size < w1.heap.size := by omega
  have hz2 : w.heap.size + 1 < w1.heap.size := by omega
  go_upto_region 4 with fail
  have HM : Hid (∀ w', Below w1.heap.size w1 w' → w'.cell? ⟨w.heap.size, 0, none⟩ = some (.int .i64 x) ∧ w'.cell? ⟨w.heap.size, 1, none⟩ = some (.int .i64 y) ∧ w'.cell? ⟨w.heap.size, 2, none⟩ = some (.int .i64 z) ∧ w'.cell? ⟨w.heap.size + 1, 0, none⟩ = some (.int .i64 x') ∧ w'.cell? ⟨w.heap.size + 1, 1, none⟩ = some (.int .i64 y') ∧ w'.cell? ⟨w.heap.size + 1, 2, none⟩ = some (.int .i64 z') ∧ Below w1.heap.size w1 w') := fun w' hB => by
    obtain ⟨s1, s2, s3, s4, s5, s6, _, _⟩ := HS.out
    exact ⟨(hB.cell (p := ⟨_, 0, none⟩) (by show w.heap.size < _; omega)).trans s1, (hB.cell (p := ⟨_, 1, none⟩) (by show w.heap.size < _; omega)).trans s2, (hB.cell (p := ⟨_, 2, none⟩) (by show w.heap.size < _; omega)).trans s3,
      (hB.cell (p := ⟨_, 0, none⟩) (by show w.heap.size + 1 < _; omega)).trans s4, (hB.cell (p := ⟨_, 1, none⟩) (by show w.heap.size + 1 < _; omega)).trans s5, (hB.cell (p := ⟨_, 2, none⟩) (by show w.heap.size + 1 < _; omega)).trans s6, hB⟩
  go_cut [7, 8] (fun s7 s8 wx => ∃ g h : Nat, s7 = .pointer (some ⟨g, 0, none⟩) ∧ s8 = .pointer (some ⟨h, 0, none⟩) ∧ wx.heap[g]? = some (.cells #[.int .i64 x, .int .i64 y, .int .i64 z] 43 (0, 0)) ∧ wx.heap[h]? = some (.cells #[.int .i64 x', .int .i64 y', .int .i64 z'] 43 (0, 0)) ∧ Below w1.heap.size w1 wx)
  case first =>
    go_region_held3 (fun w' => w'.cell? ⟨w.heap.size, 0, none⟩ = some (.int .i64 x) ∧ w'.cell? ⟨w.heap.size, 1, none⟩ = some (.int .i64 y) ∧ w'.cell? ⟨w.heap.size, 2, none⟩ = some (.int .i64 z) ∧ w'.cell? ⟨w.heap.size + 1, 0, none⟩ = some (.int .i64 x') ∧ w'.cell? ⟨w.heap.size + 1, 1, none⟩ = some (.int .i64 y') ∧ w'.cell? ⟨w.heap.size + 1, 2, none⟩ = some (.int .i64 z') ∧ Below w1.heap.size w1 w')
      ((refine HM.out _ ?_; repeat (first | exact Below.refl _ _ | refine bAl ?_ | refine Below.drew ?_)))
      (first | (go_at_call 26; refine (HK.out _ _ _ _).mono ?_; rintro e w' ⟨rfl, rfl⟩))
    all_goals rename_i hH
    all_goals have HB := Lib.hid hH.2.2.2.2.2.2
    all_goals clear hH HC HK HM q1 q2 q3 q4 q5 q6 q7 q8 q9
    all_goals go_wp2_with fail
    all_goals go_meet
    all_goals refine ⟨_, _, rfl, rfl, ?_, ?_, HB.out⟩
    all_goals (repeat (first | (refine hDrewE _ _ _ ?_) | (refine hNew _ _ _ ?_; simp only [szA]; done) | (refine hOld _ _ _ _ ?_ ?_; (simp only [szA]; omega))))
  case rest =>
    obtain ⟨g, h, rfl, rfl, hg0, hh0, hB⟩ := hcut
    have hg : g < wc.heap.size := (Array.getElem?_eq_some_iff.1 hg0).1
    have hh : h < wc.heap.size := (Array.getElem?_eq_some_iff.1 hh0).1
    obtain ⟨d1, d2, d3, _, _, _⟩ := own3 hg0
    obtain ⟨d4, d5, d6, _, _, _⟩ := own3 hh0
    clear hg0 hh0 HM
    have hw3 := (hB.block _ (by omega)).trans h3.out
    have HT := Lib.hid (set3 hw3 (.int .i64 (y * z' - z * y')) (.int .i64 (z * x' - x * z')) (.int .i64 (x * y' - y * x')))
    have HQ := Lib.hid ((((HS.out.2.2.2.2.2.2.2.trans (hB.mono (by omega))).setCell (p := ⟨w.heap.size + 1 + 1, 0, none⟩) (by show w.heap.size ≤ w.heap.size + 1 + 1; omega) (.int .i64 (y * z' - z * y'))).setCell (p := ⟨w.heap.size + 1 + 1, 1, none⟩) (by show w.heap.size ≤ w.heap.size + 1 + 1; omega) (.int .i64 (z * x' - x * z'))).setCell (p := ⟨w.heap.size + 1 + 1, 2, none⟩) (by show w.heap.size ≤ w.heap.size + 1 + 1; omega) (.int .i64 (x * y' - y * x')))
    obtain ⟨r1, r2, r3, r4, r5, r6⟩ := own3 hw3
    have hzc : w.heap.size + 1 + 1 < wc.heap.size := by have := hB.size; omega
    clear hB hw3
    go_wp2_with fail
    refine wp_loop_rounds 4 ?_
    iterate 3 (rw [rounds_succ]; go_wp2_with fail; go_region; go_wp2_with fail)
    rw [rounds_succ]
    go_wp2_with fail
    have hT := HT.out
    have hQ := HQ.out
    clear HT HQ r1 r2 r3 r4 r5 r6
    generalize ((wc.setCell ⟨w.heap.size + 1 + 1, 0, none⟩ (.int .i64 (y * z' - z * y'))).setCell ⟨w.heap.size + 1 + 1, 1, none⟩ (.int .i64 (z * x' - x * z'))).setCell ⟨w.heap.size + 1 + 1, 2, none⟩ (.int .i64 (x * y' - y * x')) = W2 at hT hQ ⊢
    obtain ⟨t1, t2, t3, _, _, _⟩ := own3 hT
    have hz2 : w.heap.size + 1 + 1 < W2.heap.size := (Array.getElem?_eq_some_iff.1 hT).1
    exact bodyPost_ret (v := .tuple #[arr3 (y * z' - z * y') (z * x' - x * z') (x * y' - y * x'), .int .i64 0]) (by simp [results, Try.results19, go_sem, t1, t2, t3, hz2]) rfl ⟨rfl, (hQ.alloc hQ.size _).drew.drew.drew⟩

set_option maxRecDepth 20000 in
set_option maxHeartbeats 8000000 in
theorem cross_bad (x y z x' y' z' : Int) (h : (inV (x, y, z) && inV (x', y', z')) = false) (w : World) : Calls Try.prog 19 #[.agg #[.int .i64 x, .int .i64 y, .int .i64 z], .agg #[.int .i64 x', .int .i64 y', .int .i64 z']] w fun e w' => e = .returned (.tuple #[arr3 0 0 0, .int .i64 6]) ∧ Below w.heap.size w w' := by
  have HC := Lib.hid (fun g W t hg => ck2 x y z x' y' z' g W t hg)
  rw [h, if_neg (by simp)] at HC
  clear h
  go_enter Try.func19, Try.ntmps19
  go_wp2_with fail
  refine (HC.out _ _ _ (by simp)).mono ?_
  rintro e w1 ⟨rfl, hb1⟩
  have HS := Lib.hid (Six.ck4 (hb1.mono (by simp)))
  have h3 := third (hb1.mono (by simp))
  clear hb1
  obtain ⟨r1, r2, r3, r4, r5, r6⟩ := own3 h3
  clear h3
  go_wp2_with fail
  exact bodyPost_ret (v := .tuple #[arr3 0 0 0, .int .i64 6]) (by simp [results, Try.results19, go_sem, r1, r2, r3]) rfl ⟨rfl, ((HS.out.2.2.2.2.2.2.2.setCell (p := ⟨w.heap.size + 1 + 1, 0, none⟩) (by show w.heap.size ≤ w.heap.size + 1 + 1; omega) _).setCell (p := ⟨w.heap.size + 1 + 1, 1, none⟩) (by show w.heap.size ≤ w.heap.size + 1 + 1; omega) _).setCell (p := ⟨w.heap.size + 1 + 1, 2, none⟩) (by show w.heap.size ≤ w.heap.size + 1 + 1; omega) _⟩
end Go.Proofs.Ytdbcflgacjgdoaa
