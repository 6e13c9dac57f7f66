/- Layer 6 (box): awake; the three laws over numbers. -/
import Derived.Test.YtonhlfaddfgpaaaEvM
import Derived.Test.YtonhlfaddfgpaaaProg
import Derived.Handy
import Derived.Test.YtonhlfaddfgpaaaBoX
import Derived.Test.YtonhlfaddfgpaaaBoY
import Derived.Test.YtonhlfaddfgpaaaBoZ
namespace Go.Proofs.Ytonhlfaddfgpaaa
open Go.RowKit Go.Ev
set_option maxRecDepth 100000
theorem awake_any (w : World) : Calls Try.prog 11 #[] w fun e w' => e = .returned (.bool true) ∧ Below w.heap.size w w' :=
  calls_closed (by kernel_rfl) (n := 300) (args := []) (by kernel_rfl) w
theorem boxMakes_any (zs : List Int) (hr : InRng (shK [s6, s6, s3]) zs) (w : World) : Calls Try.prog 3 (shV [s6, s6, s3] zs).toArray w fun e w' => e = .returned (.bool true) ∧ Below w.heap.size w w' := boxMakes_if awake_any zs hr w
theorem boxRelates_any (zs : List Int) (hr : InRng (shK [s6, s6, s3]) zs) (w : World) : Calls Try.prog 4 (shV [s6, s6, s3] zs).toArray w fun e w' => e = .returned (.bool true) ∧ Below w.heap.size w w' := boxRelates_if awake_any zs hr w
theorem boxMoves_any (zs : List Int) (hr : InRng (shK [s6, s6, s3]) zs) (w : World) : Calls Try.prog 10 (shV [s6, s6, s3] zs).toArray w fun e w' => e = .returned (.bool true) ∧ Below w.heap.size w w' := boxMoves_if awake_any zs hr w
end Go.Proofs.Ytonhlfaddfgpaaa
