/- Sum of both. -/
import Derived.Test.YtbhkbhaepefdgaaDoorSpK
import Derived.BigRegion
namespace Go.Proofs.YtbhkbhaepefdgaaDoor
open Go.RowKit

theorem sumL_bound (zs : List Iv) (h : OkL zs) : -((zs.length : Int) * 1000000000000) ≤ (sumL zs).1 ∧ (sumL zs).1 ≤ (zs.length : Int) * 1000000000000 ∧ -((zs.length : Int) * 1000000000000) ≤ (sumL zs).2 ∧ (sumL zs).2 ≤ (zs.length : Int) * 1000000000000 := by
  rcases list_snoc zs with rfl | ⟨ys, y, rfl⟩
  · simp [sumL]
  · have ih := sumL_bound ys (fun x hx => h x (by simp [hx]))
    have := h y (by simp)
    rw [sumL_snoc, List.length_append, List.length_singleton]
    simp only
    omega
termination_by zs.length
decreasing_by simp_all

/-- What Sum gives. -/
def sumRes (xs : List Iv) : Iv × Int := if errAll xs = 0 then resIv (sumL xs) else ((0, 0), errAll xs)

/-- A struct that the call keeps in block g. -/
theorem own2 {w : World} {g : Nat} {t : TypeId} {p q : Value} (h : w.heap[g]? = some (.cells #[p, q] t (0, 0))) : w.cell? ⟨g, 0, none⟩ = some p ∧ w.cell? ⟨g, 1, none⟩ = some q ∧ w.frozen? ⟨g, 0, none⟩ = false ∧ w.frozen? ⟨g, 1, none⟩ = false :=
  ⟨cell_of_row w g 0 _ t (0, 0) h, cell_of_row w g 1 _ t (0, 0) h, by simp [World.frozen?, h], by simp [World.frozen?, h]⟩

theorem set2 {w : World} {g : Nat} {t : TypeId} {p q : Value} (h : w.heap[g]? = some (.cells #[p, q] t (0, 0))) (p' q' : Value) : ((w.setCell ⟨g, 0, none⟩ p').setCell ⟨g, 1, none⟩ q').heap[g]? = some (.cells #[p', q'] t (0, 0)) :=
  heap_setCell_same _ g 1 _ t q' (heap_setCell_same w g 0 _ t p' h)

theorem sum_step {xs : List Iv} (hok : OkL xs) (hl : xs.length ≤ 10000) {k : Nat} (hlt : k < xs.length) :
    ∃ a1 a2 s1 s2 : Int, xs.getD k (0, 0) = (a1, a2) ∧ sumL (xs.take k) = (s1, s2) ∧ sumL (xs.take (k + 1)) = (s1 + a1, s2 + a2) ∧ -1000000000000 ≤ a1 ∧ a1 ≤ a2 ∧ a2 ≤ 1000000000000 ∧ -10000000000000000 ≤ s1 ∧ s1 ≤ 10000000000000000 ∧ -10000000000000000 ≤ s2 ∧ s2 ≤ 10000000000000000 := by
  have hx := hok (xs.getD k (0, 0)) (by rw [List.getD_eq_getElem?_getD, List.getElem?_eq_getElem hlt]; exact List.getElem_mem hlt)
  have hb := sumL_bound (xs.take k) (fun x hx => hok x (List.mem_of_mem_take hx))
  have hkl : ((xs.take k).length : Int) ≤ 10000 := by have := List.length_take_le k xs; simp; omega
  refine ⟨(xs.getD k (0, 0)).1, (xs.getD k (0, 0)).2, (sumL (xs.take k)).1, (sumL (xs.take k)).2, rfl, rfl, ?_, hx.1, hx.2.1, hx.2.2, ?_⟩
  · rw [take_snoc' xs k hlt, sumL_snoc]
  · omega

end Go.Proofs.YtbhkbhaepefdgaaDoor
