/- Contracts of layer 3: the exact worlds of small functions; Distance. -/
import Derived.Test.YtdbcflgacjgdoaaVeC
import Derived.Deep.DeepCutAuto
import Derived.BigRegion
namespace Go.Proofs.Ytdbcflgacjgdoaa
open Go.RowKit

theorem cellNew (W : World) (cs : Array Value) (t : TypeId) (g k : Nat) (v : Value) (hg : g = W.heap.size) (hv : cs[k]? = some v) : (W.alloc (.cells cs t)).cell? ⟨g, k, none⟩ = some v := by
  subst hg
  rw [cell_of_row _ _ k cs t (0, 0) (heap_alloc_new W _)]
  exact hv
theorem cellOld (W : World) (o : Obj) (g k : Nat) (v : Value) (hg : g < W.heap.size) (h : W.cell? ⟨g, k, none⟩ = some v) : (W.alloc o).cell? ⟨g, k, none⟩ = some v :=
  (World.cell?_alloc_lt _ _ _ hg).trans h
theorem cellDrew (W : World) (a : Addr) (v : Value) (h : W.cell? a = some v) : W.drew.cell? a = some v := h

theorem coordsE (x y z : Int) (w : World) : Calls Try.prog 26 #[.agg #[.int .i64 x, .int .i64 y, .int .i64 z]] w fun e w' => e = .returned (arr3 x y z) ∧ w' = (w.alloc (.cells #[.int .i64 x, .int .i64 y, .int .i64 z] 23)).alloc (.cells #[.int .i64 x, .int .i64 y, .int .i64 z] 43) := by
  go_enter Try.func26, Try.ntmps26
  go_wp2_with fail
  exact bodyPost_ret (v := arr3 x y z) (by simp [results, Try.results26, go_sem]) rfl ⟨rfl, rfl⟩
abbrev row3 (x y z : Int) (t : TypeId) : Obj := .cells #[.int .i64 x, .int .i64 y, .int .i64 z] t
set_option maxHeartbeats 1000000 in
theorem sum_negE (x y z x' y' z' : Int) (hx : two x) (hy : two y) (hz : two z) (hx' : two x') (hy' : two y') (hz' : two z') (w : World) : Calls Try.prog 39 #[arr3 x y z, arr3 x' y' z', .int .i64 (-1)] w fun e w' => e = .returned (arr3 (x + -x') (y + -y') (z + -z')) ∧ w' = (((w.alloc (row3 (x + -x') (y + -y') (z + -z') 43)).alloc (row3 x' y' z' 43)).alloc (row3 (x + -x') (y + -y') (z + -z') 43)).drew.drew.drew := by
  unfold two at *
  have e1 : IntKind.i64.wrap (-x') = -x' := wrap_in (by omega) (by omega)
  have e2 : IntKind.i64.wrap (-y') = -y' := wrap_in (by omega) (by omega)
  have e3 : IntKind.i64.wrap (-z') = -z' := wrap_in (by omega) (by omega)
  have e4 : IntKind.i64.wrap (x + -x') = x + -x' := wrap_in (by omega) (by omega)
  have e5 : IntKind.i64.wrap (y + -y') = y + -y' := wrap_in (by omega) (by omega)
  have e6 : IntKind.i64.wrap (z + -z') = z + -z' := wrap_in (by omega) (by omega)
  clear hx hy hz hx' hy' hz'
  go_enter Try.func39, Try.ntmps39
  go_wp2_with fail
  refine wp_loop_rounds 4 ?_
  iterate 3 (rw [rounds_succ]; go_wp2_with fail; go_region; go_wp2_with fail)
  rw [rounds_succ]
  go_wp2_with fail
  exact bodyPost_ret (v := arr3 (x + -x') (y + -y') (z + -z')) (by simp [results, Try.results39, go_sem]) rfl ⟨rfl, rfl⟩
set_option maxHeartbeats 1000000 in
theorem sum_oneE (x y z x' y' z' : Int) (hx : two x) (hy : two y) (hz : two z) (hx' : two x') (hy' : two y') (hz' : two z') (w : World) : Calls Try.prog 39 #[arr3 x y z, arr3 x' y' z', .int .i64 1] w fun e w' => e = .returned (arr3 (x + x') (y + y') (z + z')) ∧ w' = (((w.alloc (row3 (x + x') (y + y') (z + z') 43)).alloc (row3 x' y' z' 43)).alloc (row3 (x + x') (y + y') (z + z') 43)).drew.drew.drew := by
  unfold two at *
  have e1 : IntKind.i64.wrap (x') = x' := wrap_in (by omega) (by omega)
  have e2 : IntKind.i64.wrap (y') = y' := wrap_in (by omega) (by omega)
  have e3 : IntKind.i64.wrap (z') = z' := wrap_in (by omega) (by omega)
  have e4 : IntKind.i64.wrap (x + x') = x + x' := wrap_in (by omega) (by omega)
  have e5 : IntKind.i64.wrap (y + y') = y + y' := wrap_in (by omega) (by omega)
  have e6 : IntKind.i64.wrap (z + z') = z + z' := wrap_in (by omega) (by omega)
  clear hx hy hz hx' hy' hz'
  go_enter Try.func39, Try.ntmps39
  go_wp2_with fail
  refine wp_loop_rounds 4 ?_
  iterate 3 (rw [rounds_succ]; go_wp2_with fail; go_region; go_wp2_with fail)
  rw [rounds_succ]
  go_wp2_with fail
  exact bodyPost_ret (v := arr3 (x + x') (y + y') (z + z')) (by simp [results, Try.results39, go_sem]) rfl ⟨rfl, rfl⟩

theorem vectE (x y z : Int) (w : World) : Calls Try.prog 38 #[arr3 x y z] w fun e w' => e = .returned (.agg #[.int .i64 x, .int .i64 y, .int .i64 z]) ∧ w' = (w.alloc (row3 x y z 43)).alloc (row3 x y z 23) := by
  have h0 := ix0 x y z
  have h1 := ix1 x y z
  have h2 := ix2 x y z
  go_enter Try.func38, Try.ntmps38
  go_wp2_with fail
  exact bodyPost_ret (v := .agg #[.int .i64 x, .int .i64 y, .int .i64 z]) (by simp [results, Try.results38, go_sem]) rfl ⟨rfl, rfl⟩

theorem two_sub {x y z x' y' z' : Int} (ha : inV (x, y, z) = true) (hb : inV (x', y', z') = true) : two (x + -x') ∧ two (y + -y') ∧ two (z + -z') := by
  simp [inV, inC] at ha hb
  unfold two
  omega

end Go.Proofs.Ytdbcflgacjgdoaa
