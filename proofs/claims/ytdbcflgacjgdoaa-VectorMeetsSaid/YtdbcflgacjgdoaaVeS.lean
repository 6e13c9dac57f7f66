/- Rows of three cells; blocks behind a check. -/
import Derived.Test.YtdbcflgacjgdoaaVeD
namespace Go.Proofs.Ytdbcflgacjgdoaa
open Go.RowKit

theorem own3 {w : World} {g : Nat} {t : TypeId} {p q r : Value} (h : w.heap[g]? = some (.cells #[p, q, r] t (0, 0))) : w.cell? ⟨g, 0, none⟩ = some p ∧ w.cell? ⟨g, 1, none⟩ = some q ∧ w.cell? ⟨g, 2, none⟩ = some r ∧ w.frozen? ⟨g, 0, none⟩ = false ∧ w.frozen? ⟨g, 1, none⟩ = false ∧ w.frozen? ⟨g, 2, none⟩ = false :=
  ⟨cell_of_row w g 0 _ t (0, 0) h, cell_of_row w g 1 _ t (0, 0) h, cell_of_row w g 2 _ t (0, 0) h, by simp [World.frozen?, h], by simp [World.frozen?, h], by simp [World.frozen?, h]⟩
/-- The third block made reads as it did. -/
theorem third {w w1 : World} {a b c d : Obj} (hb : Below (w.heap.size + 1 + 1 + 1 + 1) ((((w.alloc a).alloc b).alloc c).alloc d) w1) : w1.heap[w.heap.size + 1 + 1]? = some c := by
  have hs : ∀ (W : World) o, (W.alloc o).heap.size = W.heap.size + 1 := fun W o => Array.size_push ..
  rw [hb.block _ (by omega), heap_alloc_old _ _ (by rw [hs, hs, hs]; omega)]
  have := heap_alloc_new ((w.alloc a).alloc b) c
  rw [hs, hs] at this
  exact this
theorem set3 {w : World} {g : Nat} {t : TypeId} {p q r : Value} (h : w.heap[g]? = some (.cells #[p, q, r] t (0, 0))) (p' q' r' : Value) : (((w.setCell ⟨g, 0, none⟩ p').setCell ⟨g, 1, none⟩ q').setCell ⟨g, 2, none⟩ r').heap[g]? = some (.cells #[p', q', r'] t (0, 0)) :=
  heap_setCell_same _ g 2 _ t r' (heap_setCell_same _ g 1 _ t q' (heap_setCell_same w g 0 _ t p' h))
theorem szA (W : World) (o : Obj) : (W.alloc o).heap.size = W.heap.size + 1 := Array.size_push ..
theorem szD (W : World) : W.drew.heap.size = W.heap.size := rfl
end Go.Proofs.Ytdbcflgacjgdoaa
