/- Layer 7 (plane): Hulls. -/
import Derived.Test.YtopjcpdhfohccaaPlH
import Derived.Test.YtopjcpdhfohccaaEvV
namespace Go.Proofs.Ytopjcpdhfohccaa
open Go.RowKit Go.Ev
set_option linter.unusedSimpArgs false
set_option maxRecDepth 100000

def TPlaneHulls : Tr :=
(.br (.eq (.fn 0 (.cons (.v 0) (.cons (.v 1) (.cons (.v 2) (.cons (.v 3) .nil))))) (.lit .i64 0))
 (.br (.eq (.fn 2 (.cons (.v 4) (.cons (.v 5) (.cons (.v 6) (.cons (.v 7) (.cons (.v 8) (.cons (.v 9) .nil))))))) (.lit .i64 0))
 (.br (.p 1 (.cons (.v 0) (.cons (.v 1) (.cons (.v 2) (.cons (.v 3) (.cons (.v 4) (.cons (.v 5) (.cons (.v 6) (.cons (.v 7) (.cons (.v 8) (.cons (.v 9) .nil)))))))))))
 (.br (.eq (.fn 16 (.cons (.v 0) (.cons (.v 1) (.cons (.v 2) (.cons (.v 3) (.cons (.v 4) (.cons (.v 5) (.cons (.v 6) (.cons (.v 7) (.cons (.v 8) (.cons (.v 9) .nil))))))))))) (.lit .i64 0))
 (.leaf (.clo (.bool true)))
 (.leaf (.clo (.bool false))))
 (.br (.eq (.fn 16 (.cons (.v 0) (.cons (.v 1) (.cons (.v 2) (.cons (.v 3) (.cons (.v 4) (.cons (.v 5) (.cons (.v 6) (.cons (.v 7) (.cons (.v 8) (.cons (.v 9) .nil))))))))))) (.lit .i64 9))
 (.br (.eq (.fn 10 (.cons (.v 0) (.cons (.v 1) (.cons (.v 2) (.cons (.v 3) (.cons (.v 4) (.cons (.v 5) (.cons (.v 6) (.cons (.v 7) (.cons (.v 8) (.cons (.v 9) .nil))))))))))) (.lit .i64 0))
 (.br (.eq (.fn 11 (.cons (.v 0) (.cons (.v 1) (.cons (.v 2) (.cons (.v 3) (.cons (.v 4) (.cons (.v 5) (.cons (.v 6) (.cons (.v 7) (.cons (.v 8) (.cons (.v 9) .nil))))))))))) (.lit .i64 0))
 (.br (.eq (.fn 12 (.cons (.v 0) (.cons (.v 1) (.cons (.v 2) (.cons (.v 3) (.cons (.v 4) (.cons (.v 5) (.cons (.v 6) (.cons (.v 7) (.cons (.v 8) (.cons (.v 9) .nil))))))))))) (.lit .i64 0))
 (.br (.eq (.fn 13 (.cons (.v 0) (.cons (.v 1) (.cons (.v 2) (.cons (.v 3) (.cons (.v 4) (.cons (.v 5) (.cons (.v 6) (.cons (.v 7) (.cons (.v 8) (.cons (.v 9) .nil))))))))))) (.lit .i64 0))
 (.br (.eq (.fn 14 (.cons (.v 0) (.cons (.v 1) (.cons (.v 2) (.cons (.v 3) (.cons (.v 4) (.cons (.v 5) (.cons (.v 6) (.cons (.v 7) (.cons (.v 8) (.cons (.v 9) .nil))))))))))) (.lit .i64 0))
 (.br (.eq (.fn 15 (.cons (.v 0) (.cons (.v 1) (.cons (.v 2) (.cons (.v 3) (.cons (.v 4) (.cons (.v 5) (.cons (.v 6) (.cons (.v 7) (.cons (.v 8) (.cons (.v 9) .nil))))))))))) (.lit .i64 0))
 (.leaf (.clo (.bool true)))
 (.leaf (.clo (.bool false))))
 (.leaf (.clo (.bool false))))
 (.leaf (.clo (.bool false))))
 (.leaf (.clo (.bool false))))
 (.leaf (.clo (.bool false))))
 (.leaf (.clo (.bool false))))
 (.leaf (.clo (.bool false)))))
 (.leaf (.clo (.bool true))))
 (.leaf (.clo (.bool true))))

set_option maxHeartbeats 8000000 in
theorem planeHulls_any (zs : List Int) (hr : InRng (shK [s4, s6]) zs) (w : World) : Calls Try.prog 6 (shV [s4, s6] zs).toArray w fun e w' => e = .returned (.bool true) ∧ Below w.heap.size w w' := by
  have h := rng64 (by rfl) hr
  have hl := InRng_length hr
  obtain ⟨a, b, c, d, x, y, z, u, v, w0, rfl⟩ := len10 hl
  refine law_of (F := plF) [] mixed (cons := plConsH) (eqs := plEqs) plConsH_ok plEqs_ok (n := 300) (args := [a4 0, a6 4]) (T := TPlaneHulls) (fun S => by kernel_rfl) h rfl sat_nil ?_ w
  unfold TPlaneHulls
  repeat' ((with_reducible refine br_val ?_ ?_) <;> (intro h; simp only [at_lt_t, at_lt_f, at_eq_t, at_eq_f, at_p, tv, row, bV_add, bV_sub, bV_mul, bV_quo, bV_rem, bV_mn, bV_mx, val64_vv, val64_fv, val64_pv, fv0, fv1, fv2, fv3, fv4, fv5, fv6, fv7, fv8, fv10, fv11, fv12, fv13, fv14, fv15, fv16, fv20, fv21, fv22, fv23, pv0, pv1, List.getD_cons_zero, List.getD_cons_succ] at h))
  all_goals first
    | rfl
    | exfalso
  all_goals
    by_cases hp : 0 < hG a b c d x y z u v w0
    · have wz0 : W 0 = 0 := rfl
      simp only [hErr_pos hp, hPt_pos hp, hNeg_t, hNeg_f, not_true_eq_false] at *
      try omega
    · simp only [hErr_neg hp, hNeg_t, hNeg_f, not_true_eq_false] at *
      try omega

end Go.Proofs.Ytopjcpdhfohccaa
