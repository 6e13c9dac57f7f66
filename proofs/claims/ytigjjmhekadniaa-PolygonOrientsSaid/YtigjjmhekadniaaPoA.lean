/- The head of all laws of layer 5 (awake) by the evaluator; Orient of the reference and of the program. -/
import Derived.Test.YtigjjmhekadniaaProg
import Derived.Test.YtigjjmhekadniaaEvM
namespace Go.Proofs.Ytigjjmhekadniaa
open Go.Ev Go.RowKit

theorem hmixed : Try.prog.follows .mixedOrders = true := by kernel_rfl
theorem awake_closed : evalClosed Try.prog 300 11 [] = some (.bool true) := by kernel_rfl
theorem awake_any (w : World) : Calls Try.prog 11 #[] w fun e w' => e = .returned (.bool true) ∧ Below w.heap.size w w' := calls_closed hmixed awake_closed w
end Go.Proofs.Ytigjjmhekadniaa
