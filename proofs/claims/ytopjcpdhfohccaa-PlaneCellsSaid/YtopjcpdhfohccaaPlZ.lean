/- Layer 7 (plane): Cells. -/
import Derived.Test.YtopjcpdhfohccaaPlH
import Derived.Test.YtopjcpdhfohccaaEvV
namespace Go.Proofs.Ytopjcpdhfohccaa
open Go.RowKit Go.Ev
set_option linter.unusedSimpArgs false
set_option maxRecDepth 100000

def TPlaneCells : Tr :=
(.br (.eq (.fn 0 (.cons (.v 0) (.cons (.v 1) (.cons (.v 2) (.cons (.v 3) .nil))))) (.lit .i64 0))
 (.br (.eq (.fn 2 (.cons (.v 4) (.cons (.v 5) (.cons (.v 6) (.cons (.v 7) (.cons (.v 8) (.cons (.v 9) .nil))))))) (.lit .i64 0))
 (.br (.lt (.lit .i64 0) (.fn 4 (.cons (.v 0) (.cons (.v 1) (.cons (.v 2) (.cons (.v 3) (.cons (.v 4) (.cons (.v 5) (.cons (.v 6) (.cons (.v 7) (.cons (.v 8) (.cons (.v 9) .nil))))))))))))
 (.br (.lt (.fn 3 (.cons (.v 0) (.cons (.v 1) (.cons (.v 2) (.cons (.v 3) (.cons (.v 4) (.cons (.v 5) (.cons (.v 6) (.cons (.v 7) (.cons (.v 8) (.cons (.v 9) .nil))))))))))) (.lit .i64 0))
 (.br (.eq (.fn 16 (.cons (.v 0) (.cons (.v 1) (.cons (.v 2) (.cons (.v 3) (.cons (.v 4) (.cons (.v 5) (.cons (.v 6) (.cons (.v 7) (.cons (.v 8) (.cons (.v 9) .nil))))))))))) (.lit .i64 0))
 (.br (.lt (.fn 10 (.cons (.v 0) (.cons (.v 1) (.cons (.v 2) (.cons (.v 3) (.cons (.v 4) (.cons (.v 5) (.cons (.v 6) (.cons (.v 7) (.cons (.v 8) (.cons (.v 9) .nil))))))))))) (.v 4))
 (.leaf (.clo (.bool false)))
 (.br (.lt (.fn 11 (.cons (.v 0) (.cons (.v 1) (.cons (.v 2) (.cons (.v 3) (.cons (.v 4) (.cons (.v 5) (.cons (.v 6) (.cons (.v 7) (.cons (.v 8) (.cons (.v 9) .nil))))))))))) (.v 5))
 (.leaf (.clo (.bool false)))
 (.br (.lt (.fn 12 (.cons (.v 0) (.cons (.v 1) (.cons (.v 2) (.cons (.v 3) (.cons (.v 4) (.cons (.v 5) (.cons (.v 6) (.cons (.v 7) (.cons (.v 8) (.cons (.v 9) .nil))))))))))) (.v 6))
 (.leaf (.clo (.bool false)))
 (.br (.lt (.v 7) (.fn 13 (.cons (.v 0) (.cons (.v 1) (.cons (.v 2) (.cons (.v 3) (.cons (.v 4) (.cons (.v 5) (.cons (.v 6) (.cons (.v 7) (.cons (.v 8) (.cons (.v 9) .nil))))))))))))
 (.leaf (.clo (.bool false)))
 (.br (.lt (.v 8) (.fn 14 (.cons (.v 0) (.cons (.v 1) (.cons (.v 2) (.cons (.v 3) (.cons (.v 4) (.cons (.v 5) (.cons (.v 6) (.cons (.v 7) (.cons (.v 8) (.cons (.v 9) .nil))))))))))))
 (.leaf (.clo (.bool false)))
 (.br (.lt (.v 9) (.fn 15 (.cons (.v 0) (.cons (.v 1) (.cons (.v 2) (.cons (.v 3) (.cons (.v 4) (.cons (.v 5) (.cons (.v 6) (.cons (.v 7) (.cons (.v 8) (.cons (.v 9) .nil))))))))))))
 (.leaf (.clo (.bool false)))
 (.br (.lt (.v 10) (.v 4))
 (.leaf (.clo (.bool true)))
 (.br (.lt (.v 11) (.v 5))
 (.leaf (.clo (.bool true)))
 (.br (.lt (.v 12) (.v 6))
 (.leaf (.clo (.bool true)))
 (.br (.lt (.v 10) (.v 7))
 (.br (.lt (.v 11) (.v 8))
 (.br (.lt (.v 12) (.v 9))
 (.br (.eq (.fn 2 (.cons (.v 10) (.cons (.v 11) (.cons (.v 12) (.cons (.bin .add .i64 (.v 10) (.lit .i64 1)) (.cons (.bin .add .i64 (.v 11) (.lit .i64 1)) (.cons (.bin .add .i64 (.v 12) (.lit .i64 1)) .nil))))))) (.lit .i64 0))
 (.br (.lt (.lit .i64 0) (.fn 4 (.cons (.v 0) (.cons (.v 1) (.cons (.v 2) (.cons (.v 3) (.cons (.v 10) (.cons (.v 11) (.cons (.v 12) (.cons (.bin .add .i64 (.v 10) (.lit .i64 1)) (.cons (.bin .add .i64 (.v 11) (.lit .i64 1)) (.cons (.bin .add .i64 (.v 12) (.lit .i64 1)) .nil))))))))))))
 (.br (.lt (.fn 3 (.cons (.v 0) (.cons (.v 1) (.cons (.v 2) (.cons (.v 3) (.cons (.v 10) (.cons (.v 11) (.cons (.v 12) (.cons (.bin .add .i64 (.v 10) (.lit .i64 1)) (.cons (.bin .add .i64 (.v 11) (.lit .i64 1)) (.cons (.bin .add .i64 (.v 12) (.lit .i64 1)) .nil))))))))))) (.lit .i64 0))
 (.leaf (.clo (.bool true)))
 (.leaf (.clo (.bool true))))
 (.br (.lt (.v 10) (.fn 10 (.cons (.v 0) (.cons (.v 1) (.cons (.v 2) (.cons (.v 3) (.cons (.v 4) (.cons (.v 5) (.cons (.v 6) (.cons (.v 7) (.cons (.v 8) (.cons (.v 9) .nil))))))))))))
 (.leaf (.clo (.bool false)))
 (.br (.lt (.v 11) (.fn 11 (.cons (.v 0) (.cons (.v 1) (.cons (.v 2) (.cons (.v 3) (.cons (.v 4) (.cons (.v 5) (.cons (.v 6) (.cons (.v 7) (.cons (.v 8) (.cons (.v 9) .nil))))))))))))
 (.leaf (.clo (.bool false)))
 (.br (.lt (.v 12) (.fn 12 (.cons (.v 0) (.cons (.v 1) (.cons (.v 2) (.cons (.v 3) (.cons (.v 4) (.cons (.v 5) (.cons (.v 6) (.cons (.v 7) (.cons (.v 8) (.cons (.v 9) .nil))))))))))))
 (.leaf (.clo (.bool false)))
 (.br (.lt (.v 10) (.fn 13 (.cons (.v 0) (.cons (.v 1) (.cons (.v 2) (.cons (.v 3) (.cons (.v 4) (.cons (.v 5) (.cons (.v 6) (.cons (.v 7) (.cons (.v 8) (.cons (.v 9) .nil))))))))))))
 (.br (.lt (.v 11) (.fn 14 (.cons (.v 0) (.cons (.v 1) (.cons (.v 2) (.cons (.v 3) (.cons (.v 4) (.cons (.v 5) (.cons (.v 6) (.cons (.v 7) (.cons (.v 8) (.cons (.v 9) .nil))))))))))))
 (.br (.lt (.v 12) (.fn 15 (.cons (.v 0) (.cons (.v 1) (.cons (.v 2) (.cons (.v 3) (.cons (.v 4) (.cons (.v 5) (.cons (.v 6) (.cons (.v 7) (.cons (.v 8) (.cons (.v 9) .nil))))))))))))
 (.leaf (.clo (.bool true)))
 (.leaf (.clo (.bool false))))
 (.leaf (.clo (.bool false))))
 (.leaf (.clo (.bool false))))))))
 (.leaf (.clo (.bool false))))
 (.leaf (.clo (.bool true))))
 (.leaf (.clo (.bool true))))
 (.leaf (.clo (.bool true)))))))))))))
 (.br (.lt (.v 10) (.v 4))
 (.leaf (.clo (.bool true)))
 (.br (.lt (.v 11) (.v 5))
 (.leaf (.clo (.bool true)))
 (.br (.lt (.v 12) (.v 6))
 (.leaf (.clo (.bool true)))
 (.br (.lt (.v 10) (.v 7))
 (.br (.lt (.v 11) (.v 8))
 (.br (.lt (.v 12) (.v 9))
 (.br (.eq (.fn 2 (.cons (.v 10) (.cons (.v 11) (.cons (.v 12) (.cons (.bin .add .i64 (.v 10) (.lit .i64 1)) (.cons (.bin .add .i64 (.v 11) (.lit .i64 1)) (.cons (.bin .add .i64 (.v 12) (.lit .i64 1)) .nil))))))) (.lit .i64 0))
 (.br (.lt (.lit .i64 0) (.fn 4 (.cons (.v 0) (.cons (.v 1) (.cons (.v 2) (.cons (.v 3) (.cons (.v 10) (.cons (.v 11) (.cons (.v 12) (.cons (.bin .add .i64 (.v 10) (.lit .i64 1)) (.cons (.bin .add .i64 (.v 11) (.lit .i64 1)) (.cons (.bin .add .i64 (.v 12) (.lit .i64 1)) .nil))))))))))))
 (.br (.lt (.fn 3 (.cons (.v 0) (.cons (.v 1) (.cons (.v 2) (.cons (.v 3) (.cons (.v 10) (.cons (.v 11) (.cons (.v 12) (.cons (.bin .add .i64 (.v 10) (.lit .i64 1)) (.cons (.bin .add .i64 (.v 11) (.lit .i64 1)) (.cons (.bin .add .i64 (.v 12) (.lit .i64 1)) .nil))))))))))) (.lit .i64 0))
 (.leaf (.clo (.bool true)))
 (.leaf (.clo (.bool true))))
 (.leaf (.clo (.bool false))))
 (.leaf (.clo (.bool false))))
 (.leaf (.clo (.bool true))))
 (.leaf (.clo (.bool true))))
 (.leaf (.clo (.bool true))))))))
 (.br (.eq (.fn 16 (.cons (.v 0) (.cons (.v 1) (.cons (.v 2) (.cons (.v 3) (.cons (.v 4) (.cons (.v 5) (.cons (.v 6) (.cons (.v 7) (.cons (.v 8) (.cons (.v 9) .nil))))))))))) (.lit .i64 0))
 (.br (.lt (.fn 10 (.cons (.v 0) (.cons (.v 1) (.cons (.v 2) (.cons (.v 3) (.cons (.v 4) (.cons (.v 5) (.cons (.v 6) (.cons (.v 7) (.cons (.v 8) (.cons (.v 9) .nil))))))))))) (.v 4))
 (.leaf (.clo (.bool false)))
 (.br (.lt (.fn 11 (.cons (.v 0) (.cons (.v 1) (.cons (.v 2) (.cons (.v 3) (.cons (.v 4) (.cons (.v 5) (.cons (.v 6) (.cons (.v 7) (.cons (.v 8) (.cons (.v 9) .nil))))))))))) (.v 5))
 (.leaf (.clo (.bool false)))
 (.br (.lt (.fn 12 (.cons (.v 0) (.cons (.v 1) (.cons (.v 2) (.cons (.v 3) (.cons (.v 4) (.cons (.v 5) (.cons (.v 6) (.cons (.v 7) (.cons (.v 8) (.cons (.v 9) .nil))))))))))) (.v 6))
 (.leaf (.clo (.bool false)))
 (.br (.lt (.v 7) (.fn 13 (.cons (.v 0) (.cons (.v 1) (.cons (.v 2) (.cons (.v 3) (.cons (.v 4) (.cons (.v 5) (.cons (.v 6) (.cons (.v 7) (.cons (.v 8) (.cons (.v 9) .nil))))))))))))
 (.leaf (.clo (.bool false)))
 (.br (.lt (.v 8) (.fn 14 (.cons (.v 0) (.cons (.v 1) (.cons (.v 2) (.cons (.v 3) (.cons (.v 4) (.cons (.v 5) (.cons (.v 6) (.cons (.v 7) (.cons (.v 8) (.cons (.v 9) .nil))))))))))))
 (.leaf (.clo (.bool false)))
 (.br (.lt (.v 9) (.fn 15 (.cons (.v 0) (.cons (.v 1) (.cons (.v 2) (.cons (.v 3) (.cons (.v 4) (.cons (.v 5) (.cons (.v 6) (.cons (.v 7) (.cons (.v 8) (.cons (.v 9) .nil))))))))))))
 (.leaf (.clo (.bool false)))
 (.br (.lt (.v 10) (.v 4))
 (.leaf (.clo (.bool true)))
 (.br (.lt (.v 11) (.v 5))
 (.leaf (.clo (.bool true)))
 (.br (.lt (.v 12) (.v 6))
 (.leaf (.clo (.bool true)))
 (.br (.lt (.v 10) (.v 7))
 (.br (.lt (.v 11) (.v 8))
 (.br (.lt (.v 12) (.v 9))
 (.br (.eq (.fn 2 (.cons (.v 10) (.cons (.v 11) (.cons (.v 12) (.cons (.bin .add .i64 (.v 10) (.lit .i64 1)) (.cons (.bin .add .i64 (.v 11) (.lit .i64 1)) (.cons (.bin .add .i64 (.v 12) (.lit .i64 1)) .nil))))))) (.lit .i64 0))
 (.br (.lt (.lit .i64 0) (.fn 4 (.cons (.v 0) (.cons (.v 1) (.cons (.v 2) (.cons (.v 3) (.cons (.v 10) (.cons (.v 11) (.cons (.v 12) (.cons (.bin .add .i64 (.v 10) (.lit .i64 1)) (.cons (.bin .add .i64 (.v 11) (.lit .i64 1)) (.cons (.bin .add .i64 (.v 12) (.lit .i64 1)) .nil))))))))))))
 (.br (.lt (.fn 3 (.cons (.v 0) (.cons (.v 1) (.cons (.v 2) (.cons (.v 3) (.cons (.v 10) (.cons (.v 11) (.cons (.v 12) (.cons (.bin .add .i64 (.v 10) (.lit .i64 1)) (.cons (.bin .add .i64 (.v 11) (.lit .i64 1)) (.cons (.bin .add .i64 (.v 12) (.lit .i64 1)) .nil))))))))))) (.lit .i64 0))
 (.leaf (.clo (.bool true)))
 (.leaf (.clo (.bool true))))
 (.br (.lt (.v 10) (.fn 10 (.cons (.v 0) (.cons (.v 1) (.cons (.v 2) (.cons (.v 3) (.cons (.v 4) (.cons (.v 5) (.cons (.v 6) (.cons (.v 7) (.cons (.v 8) (.cons (.v 9) .nil))))))))))))
 (.leaf (.clo (.bool false)))
 (.br (.lt (.v 11) (.fn 11 (.cons (.v 0) (.cons (.v 1) (.cons (.v 2) (.cons (.v 3) (.cons (.v 4) (.cons (.v 5) (.cons (.v 6) (.cons (.v 7) (.cons (.v 8) (.cons (.v 9) .nil))))))))))))
 (.leaf (.clo (.bool false)))
 (.br (.lt (.v 12) (.fn 12 (.cons (.v 0) (.cons (.v 1) (.cons (.v 2) (.cons (.v 3) (.cons (.v 4) (.cons (.v 5) (.cons (.v 6) (.cons (.v 7) (.cons (.v 8) (.cons (.v 9) .nil))))))))))))
 (.leaf (.clo (.bool false)))
 (.br (.lt (.v 10) (.fn 13 (.cons (.v 0) (.cons (.v 1) (.cons (.v 2) (.cons (.v 3) (.cons (.v 4) (.cons (.v 5) (.cons (.v 6) (.cons (.v 7) (.cons (.v 8) (.cons (.v 9) .nil))))))))))))
 (.br (.lt (.v 11) (.fn 14 (.cons (.v 0) (.cons (.v 1) (.cons (.v 2) (.cons (.v 3) (.cons (.v 4) (.cons (.v 5) (.cons (.v 6) (.cons (.v 7) (.cons (.v 8) (.cons (.v 9) .nil))))))))))))
 (.br (.lt (.v 12) (.fn 15 (.cons (.v 0) (.cons (.v 1) (.cons (.v 2) (.cons (.v 3) (.cons (.v 4) (.cons (.v 5) (.cons (.v 6) (.cons (.v 7) (.cons (.v 8) (.cons (.v 9) .nil))))))))))))
 (.leaf (.clo (.bool true)))
 (.leaf (.clo (.bool false))))
 (.leaf (.clo (.bool false))))
 (.leaf (.clo (.bool false))))))))
 (.leaf (.clo (.bool false))))
 (.leaf (.clo (.bool true))))
 (.leaf (.clo (.bool true))))
 (.leaf (.clo (.bool true)))))))))))))
 (.br (.lt (.v 10) (.v 4))
 (.leaf (.clo (.bool true)))
 (.br (.lt (.v 11) (.v 5))
 (.leaf (.clo (.bool true)))
 (.br (.lt (.v 12) (.v 6))
 (.leaf (.clo (.bool true)))
 (.br (.lt (.v 10) (.v 7))
 (.br (.lt (.v 11) (.v 8))
 (.br (.lt (.v 12) (.v 9))
 (.br (.eq (.fn 2 (.cons (.v 10) (.cons (.v 11) (.cons (.v 12) (.cons (.bin .add .i64 (.v 10) (.lit .i64 1)) (.cons (.bin .add .i64 (.v 11) (.lit .i64 1)) (.cons (.bin .add .i64 (.v 12) (.lit .i64 1)) .nil))))))) (.lit .i64 0))
 (.br (.lt (.lit .i64 0) (.fn 4 (.cons (.v 0) (.cons (.v 1) (.cons (.v 2) (.cons (.v 3) (.cons (.v 10) (.cons (.v 11) (.cons (.v 12) (.cons (.bin .add .i64 (.v 10) (.lit .i64 1)) (.cons (.bin .add .i64 (.v 11) (.lit .i64 1)) (.cons (.bin .add .i64 (.v 12) (.lit .i64 1)) .nil))))))))))))
 (.br (.lt (.fn 3 (.cons (.v 0) (.cons (.v 1) (.cons (.v 2) (.cons (.v 3) (.cons (.v 10) (.cons (.v 11) (.cons (.v 12) (.cons (.bin .add .i64 (.v 10) (.lit .i64 1)) (.cons (.bin .add .i64 (.v 11) (.lit .i64 1)) (.cons (.bin .add .i64 (.v 12) (.lit .i64 1)) .nil))))))))))) (.lit .i64 0))
 (.leaf (.clo (.bool true)))
 (.leaf (.clo (.bool true))))
 (.leaf (.clo (.bool false))))
 (.leaf (.clo (.bool false))))
 (.leaf (.clo (.bool true))))
 (.leaf (.clo (.bool true))))
 (.leaf (.clo (.bool true)))))))))
 (.br (.eq (.fn 16 (.cons (.v 0) (.cons (.v 1) (.cons (.v 2) (.cons (.v 3) (.cons (.v 4) (.cons (.v 5) (.cons (.v 6) (.cons (.v 7) (.cons (.v 8) (.cons (.v 9) .nil))))))))))) (.lit .i64 0))
 (.br (.eq (.fn 10 (.cons (.v 0) (.cons (.v 1) (.cons (.v 2) (.cons (.v 3) (.cons (.v 4) (.cons (.v 5) (.cons (.v 6) (.cons (.v 7) (.cons (.v 8) (.cons (.v 9) .nil))))))))))) (.v 4))
 (.br (.eq (.fn 11 (.cons (.v 0) (.cons (.v 1) (.cons (.v 2) (.cons (.v 3) (.cons (.v 4) (.cons (.v 5) (.cons (.v 6) (.cons (.v 7) (.cons (.v 8) (.cons (.v 9) .nil))))))))))) (.v 5))
 (.br (.eq (.fn 12 (.cons (.v 0) (.cons (.v 1) (.cons (.v 2) (.cons (.v 3) (.cons (.v 4) (.cons (.v 5) (.cons (.v 6) (.cons (.v 7) (.cons (.v 8) (.cons (.v 9) .nil))))))))))) (.v 6))
 (.br (.eq (.fn 13 (.cons (.v 0) (.cons (.v 1) (.cons (.v 2) (.cons (.v 3) (.cons (.v 4) (.cons (.v 5) (.cons (.v 6) (.cons (.v 7) (.cons (.v 8) (.cons (.v 9) .nil))))))))))) (.v 7))
 (.br (.eq (.fn 14 (.cons (.v 0) (.cons (.v 1) (.cons (.v 2) (.cons (.v 3) (.cons (.v 4) (.cons (.v 5) (.cons (.v 6) (.cons (.v 7) (.cons (.v 8) (.cons (.v 9) .nil))))))))))) (.v 8))
 (.br (.eq (.fn 15 (.cons (.v 0) (.cons (.v 1) (.cons (.v 2) (.cons (.v 3) (.cons (.v 4) (.cons (.v 5) (.cons (.v 6) (.cons (.v 7) (.cons (.v 8) (.cons (.v 9) .nil))))))))))) (.v 9))
 (.br (.lt (.v 10) (.v 4))
 (.leaf (.clo (.bool true)))
 (.br (.lt (.v 11) (.v 5))
 (.leaf (.clo (.bool true)))
 (.br (.lt (.v 12) (.v 6))
 (.leaf (.clo (.bool true)))
 (.br (.lt (.v 10) (.v 7))
 (.br (.lt (.v 11) (.v 8))
 (.br (.lt (.v 12) (.v 9))
 (.br (.eq (.fn 2 (.cons (.v 10) (.cons (.v 11) (.cons (.v 12) (.cons (.bin .add .i64 (.v 10) (.lit .i64 1)) (.cons (.bin .add .i64 (.v 11) (.lit .i64 1)) (.cons (.bin .add .i64 (.v 12) (.lit .i64 1)) .nil))))))) (.lit .i64 0))
 (.br (.lt (.lit .i64 0) (.fn 4 (.cons (.v 0) (.cons (.v 1) (.cons (.v 2) (.cons (.v 3) (.cons (.v 10) (.cons (.v 11) (.cons (.v 12) (.cons (.bin .add .i64 (.v 10) (.lit .i64 1)) (.cons (.bin .add .i64 (.v 11) (.lit .i64 1)) (.cons (.bin .add .i64 (.v 12) (.lit .i64 1)) .nil))))))))))))
 (.br (.lt (.fn 3 (.cons (.v 0) (.cons (.v 1) (.cons (.v 2) (.cons (.v 3) (.cons (.v 10) (.cons (.v 11) (.cons (.v 12) (.cons (.bin .add .i64 (.v 10) (.lit .i64 1)) (.cons (.bin .add .i64 (.v 11) (.lit .i64 1)) (.cons (.bin .add .i64 (.v 12) (.lit .i64 1)) .nil))))))))))) (.lit .i64 0))
 (.leaf (.clo (.bool true)))
 (.leaf (.clo (.bool true))))
 (.br (.lt (.v 10) (.fn 10 (.cons (.v 0) (.cons (.v 1) (.cons (.v 2) (.cons (.v 3) (.cons (.v 4) (.cons (.v 5) (.cons (.v 6) (.cons (.v 7) (.cons (.v 8) (.cons (.v 9) .nil))))))))))))
 (.leaf (.clo (.bool false)))
 (.br (.lt (.v 11) (.fn 11 (.cons (.v 0) (.cons (.v 1) (.cons (.v 2) (.cons (.v 3) (.cons (.v 4) (.cons (.v 5) (.cons (.v 6) (.cons (.v 7) (.cons (.v 8) (.cons (.v 9) .nil))))))))))))
 (.leaf (.clo (.bool false)))
 (.br (.lt (.v 12) (.fn 12 (.cons (.v 0) (.cons (.v 1) (.cons (.v 2) (.cons (.v 3) (.cons (.v 4) (.cons (.v 5) (.cons (.v 6) (.cons (.v 7) (.cons (.v 8) (.cons (.v 9) .nil))))))))))))
 (.leaf (.clo (.bool false)))
 (.br (.lt (.v 10) (.fn 13 (.cons (.v 0) (.cons (.v 1) (.cons (.v 2) (.cons (.v 3) (.cons (.v 4) (.cons (.v 5) (.cons (.v 6) (.cons (.v 7) (.cons (.v 8) (.cons (.v 9) .nil))))))))))))
 (.br (.lt (.v 11) (.fn 14 (.cons (.v 0) (.cons (.v 1) (.cons (.v 2) (.cons (.v 3) (.cons (.v 4) (.cons (.v 5) (.cons (.v 6) (.cons (.v 7) (.cons (.v 8) (.cons (.v 9) .nil))))))))))))
 (.br (.lt (.v 12) (.fn 15 (.cons (.v 0) (.cons (.v 1) (.cons (.v 2) (.cons (.v 3) (.cons (.v 4) (.cons (.v 5) (.cons (.v 6) (.cons (.v 7) (.cons (.v 8) (.cons (.v 9) .nil))))))))))))
 (.leaf (.clo (.bool true)))
 (.leaf (.clo (.bool false))))
 (.leaf (.clo (.bool false))))
 (.leaf (.clo (.bool false))))))))
 (.leaf (.clo (.bool false))))
 (.leaf (.clo (.bool true))))
 (.leaf (.clo (.bool true))))
 (.leaf (.clo (.bool true)))))))
 (.leaf (.clo (.bool false))))
 (.leaf (.clo (.bool false))))
 (.leaf (.clo (.bool false))))
 (.leaf (.clo (.bool false))))
 (.leaf (.clo (.bool false))))
 (.leaf (.clo (.bool false))))
 (.leaf (.clo (.bool false)))))
 (.leaf (.clo (.bool true))))
 (.leaf (.clo (.bool true))))

set_option maxHeartbeats 8000000 in
theorem planeCells_any (zs : List Int) (hr : InRng (shK [s4, s6, s3]) zs) (w : World) : Calls Try.prog 10 (shV [s4, s6, s3] zs).toArray w fun e w' => e = .returned (.bool true) ∧ Below w.heap.size w w' := by
  have h := rng64 (by rfl) hr
  have hl := InRng_length hr
  obtain ⟨a, b, c, d, x, y, z, u, v, w0, X, Y, Z, rfl⟩ := len13 hl
  refine law_of (F := plF) [] mixed (cons := plConsH) (eqs := plEqs) plConsH_ok plEqs_ok (n := 300) (args := [a4 0, a6 4, a3 10]) (T := TPlaneCells) (fun S => by kernel_rfl) h rfl sat_nil ?_ w
  have base : chkH a b c d = 0 → chkB x y z u v w0 = 0 → ¬ 0 < hG a b c d x y z u v w0 → (W (hPt (hG a b c d x y z u v w0) (hFr a x u (hG a b c d x y z u v w0))) = hFr a x u (hG a b c d x y z u v w0) ∧ W (hPt (hG a b c d x y z u v w0) (hFr b y v (hG a b c d x y z u v w0))) = hFr b y v (hG a b c d x y z u v w0) ∧ W (hPt (hG a b c d x y z u v w0) (hFr c z w0 (hG a b c d x y z u v w0))) = hFr c z w0 (hG a b c d x y z u v w0) ∧ W (hPt (hG a b c d x y z u v w0) (hTo a x u (hG a b c d x y z u v w0))) = hTo a x u (hG a b c d x y z u v w0) ∧ W (hPt (hG a b c d x y z u v w0) (hTo b y v (hG a b c d x y z u v w0))) = hTo b y v (hG a b c d x y z u v w0) ∧ W (hPt (hG a b c d x y z u v w0) (hTo c z w0 (hG a b c d x y z u v w0))) = hTo c z w0 (hG a b c d x y z u v w0)) ∧ -10000000000 ≤ hG a b c d x y z u v w0 := by
    intro hH hB hg
    obtain ⟨ha, hb, hc, hd, _⟩ := chkH_ok.1 hH
    obtain ⟨hx, hy, hz⟩ := chkB_ok.1 hB
    have lx := (lst_eq ha hx).2
    have ly := (lst_eq hb hy).2
    have lz := (lst_eq hc hz).2
    have e := hG_eq ha hb hc hd hx hy hz
    have wx : W x = x := wrap_R64.2 (h x (by simp))
    have wy : W y = y := wrap_R64.2 (h y (by simp))
    have wz : W z = z := wrap_R64.2 (h z (by simp))
    have wu : W u = u := wrap_R64.2 (h u (by simp))
    have wv : W v = v := wrap_R64.2 (h v (by simp))
    have ww : W w0 = w0 := wrap_R64.2 (h w0 (by simp))
    rw [hPt_neg hg, hPt_neg hg, hPt_neg hg, hPt_neg hg, hPt_neg hg, hPt_neg hg]
    exact ⟨⟨hFr_r wx, hFr_r wy, hFr_r wz, hTo_r wu, hTo_r wv, hTo_r ww⟩, by omega⟩
  have key1 : chkH a b c d = 0 → chkB x y z u v w0 = 0 → ¬ 0 < hG a b c d x y z u v w0 → x ≤ W (hPt (hG a b c d x y z u v w0) (hFr a x u (hG a b c d x y z u v w0))) ∧ y ≤ W (hPt (hG a b c d x y z u v w0) (hFr b y v (hG a b c d x y z u v w0))) ∧ z ≤ W (hPt (hG a b c d x y z u v w0) (hFr c z w0 (hG a b c d x y z u v w0))) ∧ W (hPt (hG a b c d x y z u v w0) (hTo a x u (hG a b c d x y z u v w0))) ≤ u ∧ W (hPt (hG a b c d x y z u v w0) (hTo b y v (hG a b c d x y z u v w0))) ≤ v ∧ W (hPt (hG a b c d x y z u v w0) (hTo c z w0 (hG a b c d x y z u v w0))) ≤ w0 := by
    intro hH hB hg
    obtain ⟨⟨e1, e2, e3, e4, e5, e6⟩, hb⟩ := base hH hB hg
    rw [e1, e2, e3, e4, e5, e6]
    obtain ⟨ha, hb', hc, hd, _⟩ := chkH_ok.1 hH
    obtain ⟨hx, hy, hz⟩ := chkB_ok.1 hB
    have i1 := axis_in ha hx (G := hG a b c d x y z u v w0) ⟨hb, by omega⟩
    have i2 := axis_in hb' hy (G := hG a b c d x y z u v w0) ⟨hb, by omega⟩
    have i3 := axis_in hc hz (G := hG a b c d x y z u v w0) ⟨hb, by omega⟩
    exact ⟨i1.1, i2.1, i3.1, i1.2.1, i2.2.1, i3.2.1⟩
  have key2 : chkH a b c d = 0 → chkB x y z u v w0 = 0 → exHi a b c d x y z u v w0 ≤ 0 → ¬ 0 < hG a b c d x y z u v w0 ∧ W (hPt (hG a b c d x y z u v w0) (hFr a x u (hG a b c d x y z u v w0))) = x ∧ W (hPt (hG a b c d x y z u v w0) (hFr b y v (hG a b c d x y z u v w0))) = y ∧ W (hPt (hG a b c d x y z u v w0) (hFr c z w0 (hG a b c d x y z u v w0))) = z ∧ W (hPt (hG a b c d x y z u v w0) (hTo a x u (hG a b c d x y z u v w0))) = u ∧ W (hPt (hG a b c d x y z u v w0) (hTo b y v (hG a b c d x y z u v w0))) = v ∧ W (hPt (hG a b c d x y z u v w0) (hTo c z w0 (hG a b c d x y z u v w0))) = w0 := by
    intro hH hB hle
    obtain ⟨ha, hb, hc, hd, _⟩ := chkH_ok.1 hH
    obtain ⟨hx, hy, hz⟩ := chkB_ok.1 hB
    have e := hG_eq ha hb hc hd hx hy hz
    rw [exHi_eq ha hb hc hd (by omega) (by omega) (by omega) (by omega) (by omega) (by omega)] at hle
    have m1 : lst a x u ≤ mx2 (a * x) (a * u) := by
      have l := (lst_eq ha hx).1
      have n := mx2_is (a * x) (a * u)
      by_cases h1 : 0 < a
      · rw [if_pos h1] at l
        have := mul_le_of h1 (show x + 1 ≤ u by omega)
        omega
      · rw [if_neg h1] at l
        have := mul_nonpos h1 (show 0 ≤ u - 1 - x by omega)
        rw [Int.mul_sub] at this
        omega
    have m2 : lst b y v ≤ mx2 (b * y) (b * v) := by
      have l := (lst_eq hb hy).1
      have n := mx2_is (b * y) (b * v)
      by_cases h1 : 0 < b
      · rw [if_pos h1] at l
        have := mul_le_of h1 (show y + 1 ≤ v by omega)
        omega
      · rw [if_neg h1] at l
        have := mul_nonpos h1 (show 0 ≤ v - 1 - y by omega)
        rw [Int.mul_sub] at this
        omega
    have m3 : lst c z w0 ≤ mx2 (c * z) (c * w0) := by
      have l := (lst_eq hc hz).1
      have n := mx2_is (c * z) (c * w0)
      by_cases h1 : 0 < c
      · rw [if_pos h1] at l
        have := mul_le_of h1 (show z + 1 ≤ w0 by omega)
        omega
      · rw [if_neg h1] at l
        have := mul_nonpos h1 (show 0 ≤ w0 - 1 - z by omega)
        rw [Int.mul_sub] at this
        omega
    have hg : ¬ 0 < hG a b c d x y z u v w0 := by omega
    obtain ⟨⟨e1, e2, e3, e4, e5, e6⟩, hbd⟩ := base hH hB hg
    rw [e1, e2, e3, e4, e5, e6]
    have i1 := (axis_in ha hx (G := hG a b c d x y z u v w0) ⟨hbd, by omega⟩).2.2.1 (by omega)
    have i2 := (axis_in hb hy (G := hG a b c d x y z u v w0) ⟨hbd, by omega⟩).2.2.1 (by omega)
    have i3 := (axis_in hc hz (G := hG a b c d x y z u v w0) ⟨hbd, by omega⟩).2.2.1 (by omega)
    exact ⟨hg, i1.1, i2.1, i3.1, i1.2, i2.2, i3.2⟩
  have key3 : chkB x y z u v w0 = 0 → x ≤ X → X < u → y ≤ Y → Y < v → z ≤ Z → Z < w0 → chkB X Y Z (W (X + 1)) (W (Y + 1)) (W (Z + 1)) = 0 := by
    intro hB h1 h2 h3 h4 h5 h6
    obtain ⟨hx, hy, hz⟩ := chkB_ok.1 hB
    unfold W
    rw [wrap64 (X + 1) (by omega), wrap64 (Y + 1) (by omega), wrap64 (Z + 1) (by omega), chkB_ok]
    omega
  have key4 : chkH a b c d = 0 → chkB x y z u v w0 = 0 → x ≤ X → X < u → y ≤ Y → Y < v → z ≤ Z → Z < w0 → exHi a b c d X Y Z (W (X + 1)) (W (Y + 1)) (W (Z + 1)) ≤ 0 → ¬ 0 < hG a b c d x y z u v w0 ∧ W (hPt (hG a b c d x y z u v w0) (hFr a x u (hG a b c d x y z u v w0))) ≤ X ∧ W (hPt (hG a b c d x y z u v w0) (hFr b y v (hG a b c d x y z u v w0))) ≤ Y ∧ W (hPt (hG a b c d x y z u v w0) (hFr c z w0 (hG a b c d x y z u v w0))) ≤ Z ∧ X < W (hPt (hG a b c d x y z u v w0) (hTo a x u (hG a b c d x y z u v w0))) ∧ Y < W (hPt (hG a b c d x y z u v w0) (hTo b y v (hG a b c d x y z u v w0))) ∧ Z < W (hPt (hG a b c d x y z u v w0) (hTo c z w0 (hG a b c d x y z u v w0))) := by
    intro hH hB h1 h2 h3 h4 h5 h6 hle
    obtain ⟨ha, hb, hc, hd, _⟩ := chkH_ok.1 hH
    obtain ⟨hx, hy, hz⟩ := chkB_ok.1 hB
    have e := hG_eq ha hb hc hd hx hy hz
    unfold W at hle
    rw [wrap64 (X + 1) (by omega), wrap64 (Y + 1) (by omega), wrap64 (Z + 1) (by omega)] at hle
    rw [exHi_eq ha hb hc hd (by omega) (by omega) (by omega) (by omega) (by omega) (by omega)] at hle
    have m1 := ((axis_in ha hx (G := 0) (by omega)).2.2.2 X h1 h2).1
    have m2 := ((axis_in hb hy (G := 0) (by omega)).2.2.2 Y h3 h4).1
    have m3 := ((axis_in hc hz (G := 0) (by omega)).2.2.2 Z h5 h6).1
    have hg : ¬ 0 < hG a b c d x y z u v w0 := by omega
    obtain ⟨⟨e1, e2, e3, e4, e5, e6⟩, hbd⟩ := base hH hB hg
    rw [e1, e2, e3, e4, e5, e6]
    have i1 := ((axis_in ha hx (G := hG a b c d x y z u v w0) ⟨hbd, by omega⟩).2.2.2 X h1 h2).2 (by omega)
    have i2 := ((axis_in hb hy (G := hG a b c d x y z u v w0) ⟨hbd, by omega⟩).2.2.2 Y h3 h4).2 (by omega)
    have i3 := ((axis_in hc hz (G := hG a b c d x y z u v w0) ⟨hbd, by omega⟩).2.2.2 Z h5 h6).2 (by omega)
    exact ⟨hg, i1.1, i2.1, i3.1, i1.2, i2.2, i3.2⟩
  have key5 : (0 < hG a b c d x y z u v w0 ∧ hErr (hG a b c d x y z u v w0) = 9) ∨ (¬ 0 < hG a b c d x y z u v w0 ∧ hErr (hG a b c d x y z u v w0) = 0) := by
    by_cases hg : 0 < hG a b c d x y z u v w0
    · exact .inl ⟨hg, hErr_pos hg⟩
    · exact .inr ⟨hg, hErr_neg hg⟩
  clear base
  simp only [W] at key1 key2 key3 key4
  unfold TPlaneCells
  repeat' ((with_reducible refine br_val ?_ ?_) <;> (intro h; simp only [at_lt_t, at_lt_f, at_eq_t, at_eq_f, at_p, tv, row, bV_add, bV_sub, bV_mul, bV_quo, bV_rem, bV_mn, bV_mx, val64_vv, val64_fv, val64_pv, fv0, fv1, fv2, fv3, fv4, fv5, fv6, fv7, fv8, fv10, fv11, fv12, fv13, fv14, fv15, fv16, fv20, fv21, fv22, fv23, pv0, pv1, List.getD_cons_zero, List.getD_cons_succ] at h))
  all_goals try simp only [W] at *
  all_goals first
    | rfl
    | (exfalso; omega)

end Go.Proofs.Ytopjcpdhfohccaa
