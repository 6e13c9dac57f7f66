/- What the rows' listed tables give, and a world for the witnesses. -/
import Derived.Test.YtihcakicdelmoaaDoorCards
import Derived.Test.YtihcakicdelmoaaDoorTie
import Derived.Test.YtihcakicdelmoaaDoorCoK
import Derived.WalkKit
import Derived.ProofKit
import Derived.OpenShut
import Derived.Lib.SmallJoins
import Derived.Deep.DeepHandedRow
import Derived.LaidLaws
import Derived.ChangeMaps5
namespace Go.Proofs.YtihcakicdelmoaaDoor
open Go.ChangeShapes Go.WideShapes Go.ChangeAt Go.RowKit Go.Joins

theorem ownD : ownKnob Tryd.prog.godebug = none := by kernel_rfl
theorem laidOutD : laidOutB Tryd.prog = true := by kernel_rfl
theorem tabTy : (Tryd.prog.globals[3]?).map (·.type) = some 146 := by kernel_rfl
theorem tabUnder : Tryd.prog.underlying 146 = some (.array 64 5) := by kernel_rfl
theorem hasTabs_of_met {W : World} (h : laidMet Tryd.prog [("math/bits.deBruijn32tab", Rows.laid_math_bits_deBruijn32tab), ("math/bits.deBruijn64tab", Rows.laid_math_bits_deBruijn64tab), ("internal/strconv.uint64pow10", Rows.laid_internal_strconv_uint64pow10)] W) : HasTabs W :=
  tabs_of_met h (by rw [laid_tab]; simp) tabTy tabUnder (by kernel_rfl) (by kernel_rfl) (by kernel_rfl)

def litV : Lit → Value
  | .int k n => .int k n
  | _ => undef
def cellsOfD : DataW Unit → Array Value
  | .agg l => (l.map fun | .lit x => litV x | _ => undef).toArray
  | _ => #[]
def putTab (g : Nat) (d : DataW Unit) (h : Array Obj) : Array Obj := h.modify g fun
  | .cells _ t frozen => .cells (cellsOfD d) t frozen
  | o => o
/-- A world for the witnesses. -/
noncomputable def laidWorld (os : Os) : World :=
  { World.holding Tryd.prog os ⟨#[], #[], []⟩ with heap := putTab 2 Rows.laid_math_bits_deBruijn32tab (putTab 3 Rows.laid_math_bits_deBruijn64tab (putTab 1 Rows.laid_internal_strconv_uint64pow10 (World.holding Tryd.prog os ⟨#[], #[], []⟩).heap)) }
theorem laid_met (os : Os) (vs : Array Value) : laidMet Tryd.prog [("math/bits.deBruijn32tab", Rows.laid_math_bits_deBruijn32tab), ("math/bits.deBruijn64tab", Rows.laid_math_bits_deBruijn64tab), ("internal/strconv.uint64pow10", Rows.laid_internal_strconv_uint64pow10)] ((laidWorld os).forCall (fun _ _ => 0) ⟨#[], vs, []⟩).memory :=
  laidMet_of_run' 8 (by kernel_rfl) (by kernel_rfl)
end Go.Proofs.YtihcakicdelmoaaDoor
