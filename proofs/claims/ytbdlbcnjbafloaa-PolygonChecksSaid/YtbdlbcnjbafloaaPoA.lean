/- The head of all laws of layer 5 (awake) by the evaluator; Orient of the reference and of the program. -/
import Derived.Test.YtbdlbcnjbafloaaProg
import Derived.Test.YtbdlbcnjbafloaaEvM
namespace Go.Proofs.Ytbdlbcnjbafloaa
open Go.Ev Go.RowKit
set_option maxRecDepth 100000

theorem hmixed : Try.prog.follows .mixedOrders = true := by kernel_rfl
theorem awake_closed : @evalBeside noVars Try.prog 300 5 [] [] = some (.bool true) := by kernel_rfl
theorem awake_any (w : World) : Calls Try.prog 5 #[] w fun e w' => e = .returned (.bool true) ∧ Below w.heap.size w w' := calls_closed hmixed awake_closed w
end Go.Proofs.Ytbdlbcnjbafloaa
