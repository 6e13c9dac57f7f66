/- The walk of SpanChecks. -/
import Derived.Test.YtbhkbhaepefdgaaDoorSpK
import Derived.Deep.RegionHeld3
namespace Go.Proofs.YtbhkbhaepefdgaaDoor
open Go.RowKit

theorem keep4 {w w1 w2 : World} {N : Nat} {p q r s : Value} (h : w1.cell? ⟨N, 0, none⟩ = some p ∧ w1.cell? ⟨N, 1, none⟩ = some q ∧ w1.cell? ⟨N + 1, 0, none⟩ = some r ∧ w1.cell? ⟨N + 1, 1, none⟩ = some s ∧ N + 1 < w1.heap.size ∧ Below w.heap.size w w1) (hb : Below w1.heap.size w1 w2) :
    w2.cell? ⟨N, 0, none⟩ = some p ∧ w2.cell? ⟨N, 1, none⟩ = some q ∧ w2.cell? ⟨N + 1, 0, none⟩ = some r ∧ w2.cell? ⟨N + 1, 1, none⟩ = some s ∧ N + 1 < w2.heap.size ∧ Below w.heap.size w w2 := by
  obtain ⟨h1, h2, h3, h4, h5, h6⟩ := h
  exact ⟨(hb.cell (p := ⟨N, _, none⟩) (by show N < _; omega)).trans h1, (hb.cell (p := ⟨N, _, none⟩) (by show N < _; omega)).trans h2, (hb.cell (p := ⟨N + 1, _, none⟩) (by show N + 1 < _; omega)).trans h3, (hb.cell (p := ⟨N + 1, _, none⟩) (by show N + 1 < _; omega)).trans h4, by have := hb.size; omega, h6.trans (hb.mono h6.size)⟩
theorem keep4d {w w1 : World} {N : Nat} {p q r s : Value} (h : w1.cell? ⟨N, 0, none⟩ = some p ∧ w1.cell? ⟨N, 1, none⟩ = some q ∧ w1.cell? ⟨N + 1, 0, none⟩ = some r ∧ w1.cell? ⟨N + 1, 1, none⟩ = some s ∧ N + 1 < w1.heap.size ∧ Below w.heap.size w w1) :
    w1.drew.cell? ⟨N, 0, none⟩ = some p ∧ w1.drew.cell? ⟨N, 1, none⟩ = some q ∧ w1.drew.cell? ⟨N + 1, 0, none⟩ = some r ∧ w1.drew.cell? ⟨N + 1, 1, none⟩ = some s ∧ N + 1 < w1.drew.heap.size ∧ Below w.heap.size w w1.drew := ⟨h.1, h.2.1, h.2.2.1, h.2.2.2.1, h.2.2.2.2.1, h.2.2.2.2.2.drew⟩

theorem boxes2 {w w1 : World} {p q r s : Value} {t t' : TypeId} (hb : Below ((w.alloc (.cells #[p, q] t)).alloc (.cells #[r, s] t')).heap.size ((w.alloc (.cells #[p, q] t)).alloc (.cells #[r, s] t')) w1) :
    w1.cell? ⟨w.heap.size, 0, none⟩ = some p ∧ w1.cell? ⟨w.heap.size, 1, none⟩ = some q ∧ w1.cell? ⟨w.heap.size + 1, 0, none⟩ = some r ∧ w1.cell? ⟨w.heap.size + 1, 1, none⟩ = some s ∧ w.heap.size + 1 < w1.heap.size ∧ Below w.heap.size w w1 := by
  have hsz : (w.alloc (.cells #[p, q] t)).heap.size = w.heap.size + 1 := by simp
  have h0 : ((w.alloc (.cells #[p, q] t)).alloc (.cells #[r, s] t')).heap[w.heap.size]? = some (.cells #[p, q] t) := by
    rw [heap_alloc_old _ _ (by rw [hsz]; omega)]
    exact heap_alloc_new w _
  have h1 : ((w.alloc (.cells #[p, q] t)).alloc (.cells #[r, s] t')).heap[w.heap.size + 1]? = some (.cells #[r, s] t') := by
    rw [← hsz]
    exact heap_alloc_new _ _
  have hsz2 : ((w.alloc (.cells #[p, q] t)).alloc (.cells #[r, s] t')).heap.size = w.heap.size + 1 + 1 := by simp
  have k0 := (hb.block w.heap.size (by rw [hsz2]; omega)).trans h0
  have k1 := (hb.block (w.heap.size + 1) (by rw [hsz2]; omega)).trans h1
  refine ⟨?_, ?_, ?_, ?_, ?_, ?_⟩
  · rw [cell_of_row w1 _ _ _ _ (0, 0) k0]; rfl
  · rw [cell_of_row w1 _ _ _ _ (0, 0) k0]; rfl
  · rw [cell_of_row w1 _ _ _ _ (0, 0) k1]; rfl
  · rw [cell_of_row w1 _ _ _ _ (0, 0) k1]; rfl
  · have := hb.size; rw [hsz2] at this; omega
  · exact (((Below.refl _ _).alloc (Nat.le_refl _) _).alloc (by rw [hsz]; omega) _).trans (hb.mono (by rw [hsz2]; omega))

end Go.Proofs.YtbhkbhaepefdgaaDoor
