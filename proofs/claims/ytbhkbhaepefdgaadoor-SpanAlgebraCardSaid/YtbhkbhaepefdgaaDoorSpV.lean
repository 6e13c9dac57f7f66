/- What the row's listed variable span.empty gives, and a world for the witnesses. -/
import Derived.Test.YtbhkbhaepefdgaaDoorCards
import Derived.Test.YtbhkbhaepefdgaaDoorTie
import Derived.Test.YtbhkbhaepefdgaaDoorSpQ
import Derived.WalkKit
import Derived.ProofKit
import Derived.OpenShut
import Derived.Lib.SmallJoins
import Derived.Deep.DeepHandedRow
import Derived.LaidLaws
namespace Go.Proofs.YtbhkbhaepefdgaaDoor
open Go.ChangeShapes Go.WideShapes Go.ChangeAt Go.RowKit Go.Joins

theorem ownD : ownKnob Tryd.prog.godebug = none := by kernel_rfl
theorem laidOutD : laidOutB Tryd.prog = true := by kernel_rfl
theorem cellsID : Tryd.prog.cellsOf 23 = 2 := by kernel_rfl
theorem cellsND : Tryd.prog.cellsOf 3 = 1 := by kernel_rfl
theorem gEmpty : Tryd.prog.globalNamed "gangsaw/span.empty" = some 0 := by kernel_rfl
theorem gEmptyType : (Tryd.prog.globals[0]?).map (·.type) = some 23 := by kernel_rfl

theorem hasEmpty_of_met {W : World} (h : laidMet Tryd.prog [("gangsaw/span.empty", Rows.laid_gangsaw_span_empty)] W) : HasEmpty W := by
  obtain ⟨ps, ⟨g', t', cs, fuel, p, q, hg', ht', hvar, hd, _, _⟩, _⟩ := h
  obtain rfl := Option.some.inj (gEmpty.symm.trans hg')
  obtain rfl := Option.some.inj (gEmptyType.symm.trans ht')
  obtain ⟨y0, y1, n, hx, hl, h0, h1⟩ := trod_struct2 Tryd.underlying23 hd
  rw [cellsID] at hl
  simp only [cellsND] at h0 h1
  obtain ⟨z0, e0, rfl, _⟩ := DataW.trod_int Tryd.underlying3 h0
  obtain ⟨z1, e1, rfl, _⟩ := DataW.trod_int Tryd.underlying3 h1
  simp only [Rows.laid_gangsaw_span_empty, Prod.mk.injEq, DataW.agg.injEq, List.cons.injEq, DataW.lit.injEq, Lit.int.injEq, true_and, and_true] at hx
  obtain ⟨⟨rfl, rfl⟩, _⟩ := hx
  have k0 : cs[0]? = some (.int .i64 1) := by
    have := congrArg (·[0]?) e0
    simpa [List.getElem?_take, List.getElem?_drop] using this
  have k1 : cs[1]? = some (.int .i64 0) := by
    have := congrArg (·[0]?) e1
    simpa [List.getElem?_take, List.getElem?_drop] using this
  exact ⟨(World.var?_cell gEmpty hvar 0).trans k0, (World.var?_cell gEmpty hvar 1).trans k1⟩

/-- A world for the witnesses. -/
noncomputable def laidWorld (os : Os) : World :=
  { World.holding Tryd.prog os ⟨#[], #[], []⟩ with heap := (World.holding Tryd.prog os ⟨#[], #[], []⟩).heap.modify 0 fun
      | .cells _ t frozen => .cells #[.int .i64 1, .int .i64 0] t frozen
      | o => o }
theorem laid_met (os : Os) (vs : Array Value) : laidMet Tryd.prog [("gangsaw/span.empty", Rows.laid_gangsaw_span_empty)] ((laidWorld os).forCall (fun _ _ => 0) ⟨#[], vs, []⟩).memory :=
  laidMet_of_run' 8 (by kernel_rfl) (by kernel_rfl)
end Go.Proofs.YtbhkbhaepefdgaaDoor
