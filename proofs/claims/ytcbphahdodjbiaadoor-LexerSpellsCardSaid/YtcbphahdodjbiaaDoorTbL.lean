/- A world for the witnesses of the lexer's rows: it holds the tables and errors that the rows list. -/
import Derived.Test.YtcbphahdodjbiaaDoorRows
import Derived.Test.YtcbphahdodjbiaaDoorCards
import Derived.Test.YtcbphahdodjbiaaDoorTie
import Derived.WalkKit
import Derived.ProofKit
import Derived.OpenShut
import Derived.Lib.SmallJoins
import Derived.Deep.DeepHandedRow
import Derived.LaidLaws
import Derived.ChangeMaps5
namespace Go.Proofs.YtcbphahdodjbiaaDoor
open Go.ChangeShapes Go.WideShapes Go.ChangeAt Go.RowKit Go.Joins

theorem ownD : ownKnob Tryd.prog.godebug = none := by kernel_rfl
theorem laidOutD : laidOutB Tryd.prog = true := by kernel_rfl

def litV : Lit → Value
  | .int k n => .int k n
  | .string l => .string ⟨l.toArray⟩
  | _ => undef
def cellsOfD : DataW Unit → Array Value
  | .agg l => (l.map fun | .lit x => litV x | _ => undef).toArray
  | _ => #[]
def textOfD : DataW Unit → Array Value
  | .iface _ (.ptr d) => cellsOfD d
  | _ => #[]
def putTab (g : Nat) (d : DataW Unit) (h : Array Obj) : Array Obj := h.modify g fun
  | .cells _ t frozen => .cells (cellsOfD d) t frozen
  | o => o
def putErr (g : Nat) (d : DataW Unit) (h : Array Obj) : Array Obj := (h.modify g fun
  | .cells _ t frozen => .cells #[.iface 90 (.pointer (some ⟨h.size, 0, none⟩))] t frozen
  | o => o).push (.cells (textOfD d) 92 (0, 0))
/-- A world for the witnesses. -/
noncomputable def laidWorld (os : Os) : World :=
  { World.holding Tryd.prog os ⟨#[], #[], []⟩ with heap := putErr 3 Rows.laid_strconv_ErrRange (putErr 2 Rows.laid_strconv_ErrSyntax (putTab 4 Rows.laid_math_bits_deBruijn32tab (putTab 5 Rows.laid_math_bits_deBruijn64tab (putTab 0 Rows.laid_internal_strconv_uint64pow10 (World.holding Tryd.prog os ⟨#[], #[], []⟩).heap)))) }
theorem laid_met (os : Os) (vs : Array Value) : laidMet Tryd.prog [("math/bits.deBruijn32tab", Rows.laid_math_bits_deBruijn32tab), ("math/bits.deBruijn64tab", Rows.laid_math_bits_deBruijn64tab), ("internal/strconv.uint64pow10", Rows.laid_internal_strconv_uint64pow10), ("strconv.ErrRange", Rows.laid_strconv_ErrRange), ("strconv.ErrSyntax", Rows.laid_strconv_ErrSyntax)] ((laidWorld os).forCall (fun _ _ => 0) ⟨#[], vs, []⟩).memory :=
  laidMet_of_run' 8 (by kernel_rfl) (by kernel_rfl)
end Go.Proofs.YtcbphahdodjbiaaDoor
