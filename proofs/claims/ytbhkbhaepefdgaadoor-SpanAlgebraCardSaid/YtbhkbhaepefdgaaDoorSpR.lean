/- An argument that is a slice of intervals. -/
import Derived.Test.YtbhkbhaepefdgaaDoorSpE
import Derived.ProofKit
import Derived.OpenShut
import Derived.Deep.SlicePairs
namespace Go.Proofs.YtbhkbhaepefdgaaDoor
open Go.ChangeShapes Go.WideShapes Go.ChangeAt Go.RowKit Go.Deep

theorem cellsI : Tryd.prog.cellsOf 23 = 2 := by kernel_rfl
theorem cellsN : Tryd.prog.cellsOf 3 = 1 := by kernel_rfl

set_option maxRecDepth 100000 in
theorem open_ivs {H : Type} {enc : TypeId × Value → H} {W : World} {v : Value} {d : DataW H} {ps : List MemPlace} {r : Reach} {b0 : Nat} (hv : Value.okWide Tryd.prog W r b0 29 v)
    (h : DataW.Trod enc Tryd.prog W 0 (fun _ => true) true 29 v d ps) : ∃ xs, SliceIv W W.heap.size v xs := by
  obtain ⟨a0, len, cap, rfl⟩ := okWide_slice Tryd.underlying29 hv
  obtain ⟨fuel, hf⟩ := h
  rcases open_slice_pairs Tryd.underlying29 Tryd.underlying23 cellsI rfl rfl cellsN cellsN hf with ⟨hcs, _⟩ | ⟨a, len', cap', m, n, V0, V1, D0, D1, P0, P1, hcs, _, hlc, _, hm, _, hi⟩
  · simp [Value.cells] at hcs
    obtain ⟨rfl, rfl, rfl⟩ := hcs
    exact ⟨[], none, 0, rfl, fun _ => rfl, fun h => absurd h (Nat.not_lt_zero _)⟩
  · simp [Value.cells] at hcs
    obtain ⟨rfl, rfl, rfl⟩ := hcs
    simp only [if_true] at hm
    obtain ⟨b, off, spot⟩ := a
    refine ⟨(List.range len).map fun i => (intOf (V0 i), intOf (V1 i)), some ⟨b, off, spot⟩, cap, by simp, (fun h => by cases h), fun hn => ?_⟩
    have hl : 0 < len := by simpa using hn
    have hspot : spot = none := by
      have := World.cell?_spot (hi 0 (by omega)).1
      simpa [Addr.add] using this
    subst hspot
    have hb : b < W.heap.size := by
      have := World.block_lt_of_cell? W _ (hi 0 (by omega)).1
      simpa [Addr.add_lit] using this
    refine ⟨b, off, rfl, hb, fun k hk => ?_⟩
    have hk' : k < len := by simpa using hk
    obtain ⟨h0, h1, t0, t1⟩ := hi k (by omega)
    obtain ⟨z0, g0, _, _⟩ := DataW.trod_int Tryd.underlying3 t0
    obtain ⟨z1, g1, _, _⟩ := DataW.trod_int Tryd.underlying3 t1
    have e0 : V0 k = .int .i64 z0 := by simpa using g0
    have e1 : V1 k = .int .i64 z1 := by simpa using g1
    rw [Addr.add_lit, e0] at h0
    rw [Addr.add_lit, e1, ← Nat.add_assoc] at h1
    have eg : ((List.range len).map fun i => (intOf (V0 i), intOf (V1 i))).getD k (0, 0) = (z0, z1) := by
      simp [List.getD, hk', e0, e1, intOf]
    rw [eg]
    exact ⟨h0, h1⟩
end Go.Proofs.YtbhkbhaepefdgaaDoor
