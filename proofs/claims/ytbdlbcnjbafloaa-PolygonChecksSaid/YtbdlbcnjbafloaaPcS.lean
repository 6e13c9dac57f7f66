/- An argument that is a list of points. -/
import Derived.Test.YtbdlbcnjbafloaaPcA
import Derived.Test.YtbdlbcnjbafloaaPcC
import Derived.ProofKit
import Derived.OpenShut
import Derived.Deep.SlicePairs
namespace Go.Proofs.Ytbdlbcnjbafloaa
open Go.ChangeShapes Go.WideShapes Go.ChangeAt Go.RowKit Go.Deep Go.Ev
theorem cellsPt : Try.prog.cellsOf 31 = 2 := by kernel_rfl
theorem cellsInt : Try.prog.cellsOf 3 = 1 := by kernel_rfl
def intOfV : Value → Int
  | .int _ z => z
  | _ => 0
theorem wrap_wf {z : Int} (h : (Lit.int .i64 z).wf = true) : IntKind.i64.wrap z = z := by
  simp only [Lit.wf, Bool.and_eq_true, decide_eq_true_eq] at h
  rw [IntKind.wrap_i64]
  have h1 : IntKind.i64.min = -9223372036854775808 := by kernel_rfl
  have h2 : IntKind.i64.max = 9223372036854775807 := by kernel_rfl
  omega
set_option maxRecDepth 100000 in
theorem open_pts {H : Type} {enc : TypeId × Value → H} {W : World} {v : Value} {d : DataW H} {ps : List MemPlace} {r : Reach} {b0 : Nat} (hv : Value.okWide Try.prog W r b0 23 v)
    (h : DataW.Trod enc Try.prog W 0 (fun _ => true) true 23 v d ps) : ∃ L a c, v = .slice a L.length c ∧ (a = none → c = 0) ∧ inPts L ∧ PtsAt W.heap.size L a W := by
  obtain ⟨a0, len, cap, rfl⟩ := okWide_slice Try.underlying23 hv
  obtain ⟨fuel, hf⟩ := h
  rcases open_slice_pairs Try.underlying23 Try.underlying31 cellsPt rfl rfl cellsInt cellsInt hf with ⟨hcs, _⟩ | ⟨a, len', cap', m, n, V0, V1, D0, D1, P0, P1, hcs, _, hlc, _, hm, _, hi⟩
  · simp [Value.cells] at hcs
    obtain ⟨rfl, rfl, rfl⟩ := hcs
    exact ⟨[], none, 0, rfl, fun _ => rfl, (fun p hp => by cases hp), ⟨fun h => absurd h (Nat.not_lt_zero _), fun _ h => by cases h⟩⟩
  · simp [Value.cells] at hcs
    obtain ⟨rfl, rfl, rfl⟩ := hcs
    simp only [if_true] at hm
    have key : ∀ k, k < len → ∃ z0 z1, V0 k = iv z0 ∧ V1 k = iv z1 ∧ IntKind.i64.wrap z0 = z0 ∧ IntKind.i64.wrap z1 = z1 ∧ W.cell? (a.add (k * 2)) = some (iv z0) ∧ W.cell? (a.add (k * 2 + 1)) = some (iv z1) := fun k hk => by
      obtain ⟨h0, h1, t0, t1⟩ := hi k (by omega)
      obtain ⟨z0, g0, _, w0⟩ := DataW.trod_int Try.underlying3 t0
      obtain ⟨z1, g1, _, w1⟩ := DataW.trod_int Try.underlying3 t1
      have e0 : V0 k = .int .i64 z0 := by simpa using g0
      have e1 : V1 k = .int .i64 z1 := by simpa using g1
      rw [e0] at h0
      rw [e1] at h1
      exact ⟨z0, z1, e0, e1, wrap_wf w0, wrap_wf w1, h0, h1⟩
    refine ⟨(List.range len).map fun i => (intOfV (V0 i), intOfV (V1 i)), some a, cap, by simp, (fun h => by cases h), fun p hp => ?_, fun _ => ⟨a, rfl⟩, fun a' ha => ?_⟩
    · simp only [List.mem_map, List.mem_range] at hp
      obtain ⟨k, hk, rfl⟩ := hp
      obtain ⟨z0, z1, e0, e1, w0, w1, _⟩ := key k hk
      rw [e0, e1]
      exact ⟨w0, w1⟩
    · cases ha
      refine ⟨fun h0 => ?_, fun j x hx => ?_⟩
      · obtain ⟨z0, z1, _, _, _, _, h1, _⟩ := key 0 (by simpa using h0)
        have := World.block_lt_of_cell? W _ h1
        rwa [add_block] at this
      · have hj := (List.getElem?_eq_some_iff.1 hx).1
        rw [ptC_len, List.length_map, List.length_range] at hj
        obtain ⟨k, hk⟩ : ∃ k, j = k * 2 ∨ j = k * 2 + 1 := ⟨j / 2, by omega⟩
        have hkl : k < len := by omega
        obtain ⟨z0, z1, e0, e1, _, _, h0, h1⟩ := key k hkl
        have hg := ptC_get ((List.range len).map fun i => (intOfV (V0 i), intOfV (V1 i))) k (z0, z1) (by simp [hkl, e0, e1, intOfV])
        rcases hk with rfl | rfl
        · rw [hg.1] at hx; cases hx; exact h0
        · rw [hg.2] at hx; cases hx; exact h1
end Go.Proofs.Ytbdlbcnjbafloaa
