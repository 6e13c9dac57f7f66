/- Layer 6 (box): boxes and lists of boxes as arguments. -/
import Derived.Test.YtcjgobephedpdaaBsA
import Derived.Test.YtcjgobephedpdaaTkL
namespace Go.Proofs.Ytcjgobephedpdaa
open Go.ChangeShapes Go.WideShapes Go.ChangeAt Go.RowKit Go.Ev
set_option maxRecDepth 100000
abbrev bxKs : List IntKind := [.i64, .i64, .i64, .i64, .i64, .i64]
theorem bxFlat : flatT Try.prog 20 tBx = some bxKs := by kernel_rfl
theorem bxCells : Try.prog.cellsOf tBx = 6 := by kernel_rfl
def mkBx (l : List (IntKind × Int)) : Bx := ⟨(l.getD 0 (.i64, 0)).2, (l.getD 1 (.i64, 0)).2, (l.getD 2 (.i64, 0)).2, (l.getD 3 (.i64, 0)).2, (l.getD 4 (.i64, 0)).2, (l.getD 5 (.i64, 0)).2⟩
theorem mkBx_V : ∀ l : KI, l.map (·.1) = bxKs → l.wf → encB (mkBx l) = l.V := by
  intro l h _
  match l, h with
  | [(k0, a), (k1, b), (k2, c), (k3, d), (k4, e), (k5, f)], h =>
    simp only [List.map_cons, List.map_nil, List.cons.injEq, and_true] at h
    obtain ⟨rfl, rfl, rfl, rfl, rfl, rfl⟩ := h
    rfl
theorem open_bx {H : Type} {enc : TypeId × Value → H} {W : World} {v : Value} {d : DataW H} {ps : List MemPlace} {b0 : Nat} (hv : Value.okWide Try.prog W .any b0 tBx v) (h : DataW.Trod enc Try.prog W 0 (fun _ => true) true tBx v d ps) : ∃ p : Bx, v = bxV p ∧ ps = [] := by
  obtain ⟨l, l1, l2, rfl, l4⟩ := open_flat Try.underlying25 bxFlat hv h
  exact ⟨mkBx l, by rw [← mkBx_V l l1 l2], l4⟩
theorem open_bxs {H : Type} {enc : TypeId × Value → H} {W : World} {v : Value} {d : DataW H} {ps : List MemPlace} {r : Reach} {b0 : Nat} (hv : Value.okWide Try.prog W r b0 26 v) (h : DataW.Trod enc Try.prog W 0 (fun _ => true) true 26 v d ps) :
    ∃ L a c, v = .slice a L.length c ∧ ElAt encB W.heap.size L a W := by
  obtain ⟨L, a, c, h1, _, _, h2⟩ := open_els (ec := encB) encB_len (by decide) Try.underlying26 bxFlat bxCells mkBx mkBx_V hv h
  exact ⟨L, a, c, h1, h2⟩
end Go.Proofs.Ytcjgobephedpdaa
