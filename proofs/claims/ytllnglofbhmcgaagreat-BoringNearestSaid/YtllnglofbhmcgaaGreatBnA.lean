/- Layer 14 (boring): the head of the laws. -/
import Derived.Test.YtllnglofbhmcgaaGreatTkJ
import Derived.Test.YtllnglofbhmcgaaGreatProg
namespace Go.Proofs.YtllnglofbhmcgaaGreat
open Go.RowKit Go.Ev
set_option maxRecDepth 100000
theorem hmix : Tryz.prog.follows .mixedOrders = true := by kernel_rfl
theorem evAwake : @evalBeside noVars Tryz.prog 300 6 [] [] = some (.bool true) := by kernel_rfl
theorem awake_any (w : World) : Calls Tryz.prog 6 #[] w fun e w' => e = .returned (.bool true) ∧ Below w.heap.size w w' :=
  calls_closed (by kernel_rfl) (n := 300) (args := []) evAwake w
end Go.Proofs.YtllnglofbhmcgaaGreat
