/- Layer 7 (plane): Boxes. -/
import Derived.Test.YtopjcpdhfohccaaPlA
import Derived.Test.YtopjcpdhfohccaaEvV
namespace Go.Proofs.Ytopjcpdhfohccaa
open Go.RowKit Go.Ev
set_option linter.unusedSimpArgs false
set_option maxRecDepth 100000

def TPlaneBoxes : Tr :=
(.br (.eq (.fn 0 (.cons (.v 0) (.cons (.v 1) (.cons (.v 2) (.cons (.v 3) .nil))))) (.lit .i64 0))
 (.br (.eq (.fn 2 (.cons (.v 4) (.cons (.v 5) (.cons (.v 6) (.cons (.v 7) (.cons (.v 8) (.cons (.v 9) .nil))))))) (.lit .i64 0))
 (.br (.lt (.lit .i64 0) (.fn 4 (.cons (.v 0) (.cons (.v 1) (.cons (.v 2) (.cons (.v 3) (.cons (.v 4) (.cons (.v 5) (.cons (.v 6) (.cons (.v 7) (.cons (.v 8) (.cons (.v 9) .nil))))))))))))
 (.br (.lt (.fn 3 (.cons (.v 0) (.cons (.v 1) (.cons (.v 2) (.cons (.v 3) (.cons (.v 4) (.cons (.v 5) (.cons (.v 6) (.cons (.v 7) (.cons (.v 8) (.cons (.v 9) .nil))))))))))) (.lit .i64 0))
 (.leaf (.clo (.bool true)))
 (.leaf (.clo (.bool true))))
 (.leaf (.clo (.bool true))))
 (.leaf (.clo (.bool true))))
 (.leaf (.clo (.bool true))))

set_option maxHeartbeats 8000000 in
theorem planeBoxes_any (zs : List Int) (hr : InRng (shK [s4, s6]) zs) (w : World) : Calls Try.prog 4 (shV [s4, s6] zs).toArray w fun e w' => e = .returned (.bool true) ∧ Below w.heap.size w w' := by
  have h := rng64 (by rfl) hr
  have hl := InRng_length hr
  obtain ⟨a, b, c, d, x, y, z, u, v, w0, rfl⟩ := len10 hl
  refine law_of (F := plF) [] mixed (cons := plCons) (eqs := plEqs) plCons_ok plEqs_ok (n := 300) (args := [a4 0, a6 4]) (T := TPlaneBoxes) (fun S => by kernel_rfl) h rfl sat_nil ?_ w
  unfold TPlaneBoxes
  repeat' (refine br_val (fun _ => ?_) (fun _ => ?_))
  all_goals rfl

end Go.Proofs.Ytopjcpdhfohccaa
