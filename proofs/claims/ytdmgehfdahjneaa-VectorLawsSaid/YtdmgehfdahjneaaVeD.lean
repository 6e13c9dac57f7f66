/- Contracts of layer 3: the exact worlds of small functions; Distance. -/
import Derived.Test.YtdmgehfdahjneaaVeC
import Derived.Deep.DeepCutAuto
import Derived.BigRegion
namespace Go.Proofs.Ytdmgehfdahjneaa
open Go.RowKit

theorem cellNew (W : World) (cs : Array Value) (t : TypeId) (g k : Nat) (v : Value) (hg : g = W.heap.size) (hv : cs[k]? = some v) : (W.alloc (.cells cs t)).cell? ⟨g, k, none⟩ = some v := by
  subst hg
  rw [cell_of_row _ _ k cs t (0, 0) (heap_alloc_new W _)]
  exact hv
theorem cellOld (W : World) (o : Obj) (g k : Nat) (v : Value) (hg : g < W.heap.size) (h : W.cell? ⟨g, k, none⟩ = some v) : (W.alloc o).cell? ⟨g, k, none⟩ = some v :=
  (World.cell?_alloc_lt _ _ _ hg).trans h
theorem cellDrew (W : World) (a : Addr) (v : Value) (h : W.cell? a = some v) : W.drew.cell? a = some v := h

theorem coordsE (x y z : Int) (w : World) : Calls Try.prog 39 #[.agg #[.int .i64 x, .int .i64 y, .int .i64 z]] w fun e w' => e = .returned (arr3 x y z) ∧ w' = (w.alloc (.cells #[.int .i64 x, .int .i64 y, .int .i64 z] 23)).alloc (.cells #[.int .i64 x, .int .i64 y, .int .i64 z] 36) := by
  go_enter Try.func39, Try.ntmps39
  go_wp2_with fail
  exact bodyPost_ret (v := arr3 x y z) (by simp [results, Try.results39, go_sem]) rfl ⟨rfl, rfl⟩
abbrev row3 (x y z : Int) (t : TypeId) : Obj := .cells #[.int .i64 x, .int .i64 y, .int .i64 z] t
set_option maxHeartbeats 1000000 in
theorem sum_negE (x y z x' y' z' : Int) (hx : two x) (hy : two y) (hz : two z) (hx' : two x') (hy' : two y') (hz' : two z') (w : World) : Calls Try.prog 43 #[arr3 x y z, arr3 x' y' z', .int .i64 (-1)] w fun e w' => e = .returned (arr3 (x + -x') (y + -y') (z + -z')) ∧ w' = (((w.alloc (row3 (x + -x') (y + -y') (z + -z') 36)).alloc (row3 x' y' z' 36)).alloc (row3 (x + -x') (y + -y') (z + -z') 36)).drew.drew.drew := by
  unfold two at *
  have e1 : IntKind.i64.wrap (-x') = -x' := wrap_in (by omega) (by omega)
  have e2 : IntKind.i64.wrap (-y') = -y' := wrap_in (by omega) (by omega)
  have e3 : IntKind.i64.wrap (-z') = -z' := wrap_in (by omega) (by omega)
  have e4 : IntKind.i64.wrap (x + -x') = x + -x' := wrap_in (by omega) (by omega)
  have e5 : IntKind.i64.wrap (y + -y') = y + -y' := wrap_in (by omega) (by omega)
  have e6 : IntKind.i64.wrap (z + -z') = z + -z' := wrap_in (by omega) (by omega)
  clear hx hy hz hx' hy' hz'
  go_enter Try.func43, Try.ntmps43
  go_wp2_with fail
  refine wp_loop_rounds 4 ?_
  iterate 3 (rw [rounds_succ]; go_wp2_with fail; go_region; go_wp2_with fail)
  rw [rounds_succ]
  go_wp2_with fail
  exact bodyPost_ret (v := arr3 (x + -x') (y + -y') (z + -z')) (by simp [results, Try.results43, go_sem]) rfl ⟨rfl, rfl⟩
set_option maxHeartbeats 1000000 in
theorem sum_oneE (x y z x' y' z' : Int) (hx : two x) (hy : two y) (hz : two z) (hx' : two x') (hy' : two y') (hz' : two z') (w : World) : Calls Try.prog 43 #[arr3 x y z, arr3 x' y' z', .int .i64 1] w fun e w' => e = .returned (arr3 (x + x') (y + y') (z + z')) ∧ w' = (((w.alloc (row3 (x + x') (y + y') (z + z') 36)).alloc (row3 x' y' z' 36)).alloc (row3 (x + x') (y + y') (z + z') 36)).drew.drew.drew := by
  unfold two at *
  have e1 : IntKind.i64.wrap (x') = x' := wrap_in (by omega) (by omega)
  have e2 : IntKind.i64.wrap (y') = y' := wrap_in (by omega) (by omega)
  have e3 : IntKind.i64.wrap (z') = z' := wrap_in (by omega) (by omega)
  have e4 : IntKind.i64.wrap (x + x') = x + x' := wrap_in (by omega) (by omega)
  have e5 : IntKind.i64.wrap (y + y') = y + y' := wrap_in (by omega) (by omega)
  have e6 : IntKind.i64.wrap (z + z') = z + z' := wrap_in (by omega) (by omega)
  clear hx hy hz hx' hy' hz'
  go_enter Try.func43, Try.ntmps43
  go_wp2_with fail
  refine wp_loop_rounds 4 ?_
  iterate 3 (rw [rounds_succ]; go_wp2_with fail; go_region; go_wp2_with fail)
  rw [rounds_succ]
  go_wp2_with fail
  exact bodyPost_ret (v := arr3 (x + x') (y + y') (z + z')) (by simp [results, Try.results43, go_sem]) rfl ⟨rfl, rfl⟩

theorem vectE (x y z : Int) (w : World) : Calls Try.prog 45 #[arr3 x y z] w fun e w' => e = .returned (.agg #[.int .i64 x, .int .i64 y, .int .i64 z]) ∧ w' = (w.alloc (row3 x y z 36)).alloc (row3 x y z 23) := by
  have h0 := ix0 x y z
  have h1 := ix1 x y z
  have h2 := ix2 x y z
  go_enter Try.func45, Try.ntmps45
  go_wp2_with fail
  exact bodyPost_ret (v := .agg #[.int .i64 x, .int .i64 y, .int .i64 z]) (by simp [results, Try.results45, go_sem]) rfl ⟨rfl, rfl⟩

theorem two_sub {x y z x' y' z' : Int} (ha : inV (x, y, z) = true) (hb : inV (x', y', z') = true) : two (x + -x') ∧ two (y + -y') ∧ two (z + -z') := by
  simp [inV, inC] at ha hb
  unfold two
  omega

set_option maxRecDepth 20000 in
set_option maxHeartbeats 4000000 in
theorem dist_ok (x y z x' y' z' : Int) (ha : inV (x, y, z) = true) (hb : inV (x', y', z') = true) (w : World) : Calls Try.prog 24 #[.agg #[.int .i64 x, .int .i64 y, .int .i64 z], .agg #[.int .i64 x', .int .i64 y', .int .i64 z']] w fun e w' => e = .returned (.tuple #[.int .i64 ((x + -x') * (x + -x') + (y + -y') * (y + -y') + (z + -z') * (z + -z')), .int .i64 0]) ∧ Below w.heap.size w w' := by
  have HC := Lib.hid (fun g W t hg => ck2 x y z x' y' z' g W t hg)
  rw [ha, hb, Bool.and_self, if_pos rfl] at HC
  obtain ⟨x1, y1, z1⟩ := inV_two ha
  obtain ⟨x2, y2, z2⟩ := inV_two hb
  have HU := Lib.hid (fun W => sum_negE x y z x' y' z' x1 y1 z1 x2 y2 z2 W)
  have HK := Lib.hid (fun a b c W => coordsE a b c W)
  have HD := Lib.hid (fun W => dot_any (x + -x') (y + -y') (z + -z') (x + -x') (y + -y') (z + -z') (two_sub ha hb).1 (two_sub ha hb).2.1 (two_sub ha hb).2.2 (two_sub ha hb).1 (two_sub ha hb).2.1 (two_sub ha hb).2.2 W)
  clear ha hb x1 y1 z1 x2 y2 z2
  go_enter Try.func24, Try.ntmps24
  go_wp2_with fail
  refine (HC.out _ _ _ (by simp)).mono ?_
  rintro e w1 ⟨rfl, hb1⟩
  have HS := Lib.hid (Six.ck (hb1.mono (by simp)))
  clear hb1
  have hz : w.heap.size + 2 < w1.heap.size := HS.out.2.2.2.2.2.2.1
  have hz1 : w.heap.size < w1.heap.size := by omega
  have hz2 : w.heap.size + 1 < w1.heap.size := by omega
  go_upto_region 4 with fail
  go_cut [7] (fun s7 wx => ∃ g : Nat, s7 = .pointer (some ⟨g, 0, none⟩) ∧ wx.cell? ⟨g, 0, none⟩ = some (.int .i64 (x + -x')) ∧ wx.cell? ⟨g, 1, none⟩ = some (.int .i64 (y + -y')) ∧ wx.cell? ⟨g, 2, none⟩ = some (.int .i64 (z + -z')) ∧ Below w.heap.size w wx)
  case first =>
    go_region_held3 (fun w' => w'.cell? ⟨w.heap.size, 0, none⟩ = some (.int .i64 x) ∧ w'.cell? ⟨w.heap.size, 1, none⟩ = some (.int .i64 y) ∧ w'.cell? ⟨w.heap.size, 2, none⟩ = some (.int .i64 z) ∧ w'.cell? ⟨w.heap.size + 1, 0, none⟩ = some (.int .i64 x') ∧ w'.cell? ⟨w.heap.size + 1, 1, none⟩ = some (.int .i64 y') ∧ w'.cell? ⟨w.heap.size + 1, 2, none⟩ = some (.int .i64 z') ∧ w.heap.size + 2 < w'.heap.size ∧ Below w.heap.size w w')
      (((repeat (first | refine Six.al ?_ | refine Six.dr ?_)); exact HS.out))
      (first | (go_at_call 39; refine (HK.out _ _ _ _).mono ?_; rintro e w' ⟨rfl, rfl⟩) | (go_at_call 43; refine (HU.out _).mono ?_; rintro e w' ⟨rfl, rfl⟩))
    all_goals rename_i hH
    all_goals have HB := Lib.hid hH.2.2.2.2.2.2.2
    all_goals clear hH
    all_goals go_wp2_with fail
    all_goals go_meet
    all_goals refine ⟨_, rfl, ?_, ?_, ?_, HB.out⟩
    all_goals (repeat (first | (refine cellDrew _ _ _ ?_) | (refine cellNew _ _ _ _ _ _ ?_ rfl; simp; done) | (refine cellOld _ _ _ _ _ ?_ ?_; (simp <;> omega))))
  case rest =>
    obtain ⟨g, rfl, d1, d2, d3, hB⟩ := hcut
    have HB := Lib.hid hB
    clear hB
    go_wp2_with fail
    refine (HD.out _).mono ?_
    rintro e w2 ⟨rfl, hb2⟩
    go_wp2_with fail
    exact bodyPost_ret (v := .tuple #[.int .i64 ((x + -x') * (x + -x') + (y + -y') * (y + -y') + (z + -z') * (z + -z')), .int .i64 0]) (by simp [results, Try.results24, go_sem]) rfl ⟨rfl, HB.out.trans (hb2.mono HB.out.size)⟩
end Go.Proofs.Ytdmgehfdahjneaa
