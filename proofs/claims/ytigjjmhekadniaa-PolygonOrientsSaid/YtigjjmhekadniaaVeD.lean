/- Contracts of layer 3: the exact worlds of small functions; Distance. -/
import Derived.Test.YtigjjmhekadniaaVeC
import Derived.Deep.DeepCutAuto
import Derived.BigRegion
namespace Go.Proofs.Ytigjjmhekadniaa
open Go.RowKit

theorem cellNew (W : World) (cs : Array Value) (t : TypeId) (g k : Nat) (v : Value) (hg : g = W.heap.size) (hv : cs[k]? = some v) : (W.alloc (.cells cs t)).cell? ⟨g, k, none⟩ = some v := by
  subst hg
  rw [cell_of_row _ _ k cs t (0, 0) (heap_alloc_new W _)]
  exact hv
theorem cellOld (W : World) (o : Obj) (g k : Nat) (v : Value) (hg : g < W.heap.size) (h : W.cell? ⟨g, k, none⟩ = some v) : (W.alloc o).cell? ⟨g, k, none⟩ = some v :=
  (World.cell?_alloc_lt _ _ _ hg).trans h
theorem cellDrew (W : World) (a : Addr) (v : Value) (h : W.cell? a = some v) : W.drew.cell? a = some v := h

theorem coordsE (x y z : Int) (w : World) : Calls Try.prog 98 #[.agg #[.int .i64 x, .int .i64 y, .int .i64 z]] w fun e w' => e = .returned (arr3 x y z) ∧ w' = (w.alloc (.cells #[.int .i64 x, .int .i64 y, .int .i64 z] 87)).alloc (.cells #[.int .i64 x, .int .i64 y, .int .i64 z] 114) := by
  go_enter Try.func98, Try.ntmps98
  go_wp2_with fail
  exact bodyPost_ret (v := arr3 x y z) (by simp [results, Try.results98, go_sem]) rfl ⟨rfl, rfl⟩
abbrev row3 (x y z : Int) (t : TypeId) : Obj := .cells #[.int .i64 x, .int .i64 y, .int .i64 z] t
theorem two_sub {x y z x' y' z' : Int} (ha : inV (x, y, z) = true) (hb : inV (x', y', z') = true) : two (x + -x') ∧ two (y + -y') ∧ two (z + -z') := by
  simp [inV, inC] at ha hb
  unfold two
  omega

end Go.Proofs.Ytigjjmhekadniaa
