/- Layer 7 (plane): Normals. -/
import Derived.Test.YtopjcpdhfohccaaPlN
import Derived.Test.YtopjcpdhfohccaaEvV
namespace Go.Proofs.Ytopjcpdhfohccaa
open Go.RowKit Go.Ev
set_option linter.unusedSimpArgs false
set_option maxRecDepth 100000

def TPlaneNormals : Tr :=
(.br (.eq (.fn 0 (.cons (.v 0) (.cons (.v 1) (.cons (.v 2) (.cons (.v 3) .nil))))) (.lit .i64 0))
 (.br (.eq (.fn 0 (.cons (.v 4) (.cons (.v 5) (.cons (.v 6) (.cons (.v 7) .nil))))) (.lit .i64 0))
 (.br (.eq (.fn 20 (.cons (.v 0) (.cons (.v 1) (.cons (.v 2) (.cons (.v 3) .nil))))) (.fn 20 (.cons (.v 4) (.cons (.v 5) (.cons (.v 6) (.cons (.v 7) .nil))))))
 (.br (.eq (.fn 21 (.cons (.v 0) (.cons (.v 1) (.cons (.v 2) (.cons (.v 3) .nil))))) (.fn 21 (.cons (.v 4) (.cons (.v 5) (.cons (.v 6) (.cons (.v 7) .nil))))))
 (.br (.eq (.fn 22 (.cons (.v 0) (.cons (.v 1) (.cons (.v 2) (.cons (.v 3) .nil))))) (.fn 22 (.cons (.v 4) (.cons (.v 5) (.cons (.v 6) (.cons (.v 7) .nil))))))
 (.br (.eq (.fn 23 (.cons (.v 0) (.cons (.v 1) (.cons (.v 2) (.cons (.v 3) .nil))))) (.fn 23 (.cons (.v 4) (.cons (.v 5) (.cons (.v 6) (.cons (.v 7) .nil))))))
 (.leaf (.clo (.bool true)))
 (.br (.lt (.fn 23 (.cons (.v 4) (.cons (.v 5) (.cons (.v 6) (.cons (.v 7) .nil))))) (.fn 23 (.cons (.v 0) (.cons (.v 1) (.cons (.v 2) (.cons (.v 3) .nil))))))
 (.leaf (.clo (.bool true)))
 (.leaf (.clo (.bool true)))))
 (.leaf (.clo (.bool true))))
 (.leaf (.clo (.bool true))))
 (.leaf (.clo (.bool true))))
 (.leaf (.clo (.bool true))))
 (.br (.eq (.fn 0 (.cons (.v 4) (.cons (.v 5) (.cons (.v 6) (.cons (.v 7) .nil))))) (.lit .i64 0))
 (.leaf (.clo (.bool true)))
 (.leaf (.clo (.bool true)))))

set_option maxHeartbeats 8000000 in
theorem planeNormals_any (zs : List Int) (hr : InRng (shK [s4, s4]) zs) (w : World) : Calls Try.prog 5 (shV [s4, s4] zs).toArray w fun e w' => e = .returned (.bool true) ∧ Below w.heap.size w w' := by
  have h := rng64 (by rfl) hr
  have hl := InRng_length hr
  obtain ⟨a, b, c, d, a1, b1, c1, d1, rfl⟩ := len8 hl
  refine law_of (F := plF) [] mixed (cons := plConsN) (eqs := plEqs) plConsN_ok plEqs_ok (n := 300) (args := [a4 0, a4 4]) (T := TPlaneNormals) (fun S => by kernel_rfl) h rfl sat_nil ?_ w
  unfold TPlaneNormals
  repeat' (refine br_val (fun _ => ?_) (fun _ => ?_))
  all_goals rfl

end Go.Proofs.Ytopjcpdhfohccaa
