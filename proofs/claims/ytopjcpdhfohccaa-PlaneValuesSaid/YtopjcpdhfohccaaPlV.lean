/- Layer 7 (plane): Values. -/
import Derived.Test.YtopjcpdhfohccaaPlA
import Derived.Test.YtopjcpdhfohccaaEvV
namespace Go.Proofs.Ytopjcpdhfohccaa
open Go.RowKit Go.Ev
set_option linter.unusedSimpArgs false
set_option maxRecDepth 100000

def TPlaneValues : Tr :=
(.br (.eq (.fn 0 (.cons (.v 0) (.cons (.v 1) (.cons (.v 2) (.cons (.v 3) .nil))))) (.lit .i64 0))
 (.br (.eq (.fn 1 (.cons (.v 4) (.cons (.v 5) (.cons (.v 6) .nil)))) (.lit .i64 0))
 (.br (.p 0 (.cons (.v 4) (.cons (.v 5) (.cons (.v 6) .nil))))
 (.br (.eq (.fn 3 (.cons (.v 0) (.cons (.v 1) (.cons (.v 2) (.cons (.v 3) (.cons (.v 4) (.cons (.v 5) (.cons (.v 6) (.cons (.v 4) (.cons (.v 5) (.cons (.v 6) .nil))))))))))) (.bin .sub .i64 (.bin .add .i64 (.bin .add .i64 (.bin .mul .i64 (.v 0) (.v 4)) (.bin .mul .i64 (.v 1) (.v 5))) (.bin .mul .i64 (.v 2) (.v 6))) (.v 3)))
 (.leaf (.clo (.bool true)))
 (.leaf (.clo (.bool false))))
 (.leaf (.clo (.bool false))))
 (.br (.p 0 (.cons (.v 4) (.cons (.v 5) (.cons (.v 6) .nil))))
 (.leaf (.clo (.bool false)))
 (.br (.eq (.fn 1 (.cons (.v 4) (.cons (.v 5) (.cons (.v 6) .nil)))) (.lit .i64 6))
 (.leaf (.clo (.bool true)))
 (.leaf (.clo (.bool false))))))
 (.leaf (.clo (.bool true))))

set_option maxHeartbeats 8000000 in
theorem planeValues_any (zs : List Int) (hr : InRng (shK [s4, s3]) zs) (w : World) : Calls Try.prog 3 (shV [s4, s3] zs).toArray w fun e w' => e = .returned (.bool true) ∧ Below w.heap.size w w' := by
  have h := rng64 (by rfl) hr
  have hl := InRng_length hr
  obtain ⟨a, b, c, d, x, y, z, rfl⟩ := len7 hl
  refine law_of (F := plF) [] mixed (cons := plCons) (eqs := plEqs) plCons_ok plEqs_ok (n := 300) (args := [a4 0, a3 4]) (T := TPlaneValues) (fun S => by kernel_rfl) h rfl sat_nil ?_ w
  unfold TPlaneValues
  repeat' ((with_reducible refine br_val ?_ ?_) <;> (intro h; simp only [at_lt_t, at_lt_f, at_eq_t, at_eq_f, at_p, tv, row, bV_add, bV_sub, bV_mul, bV_quo, bV_rem, bV_mn, bV_mx, val64_vv, val64_fv, val64_pv, fv0, fv1, fv2, fv3, fv4, fv5, fv6, fv7, fv8, fv10, fv11, fv12, fv13, fv14, fv15, fv16, fv20, fv21, fv22, fv23, pv0, pv1, List.getD_cons_zero, List.getD_cons_succ] at h))
  all_goals try simp only [chkH_ok, chkV_ok, chkV_six, inVec_t, inVec_f] at *
  all_goals first
    | rfl
    | (exfalso; omega)
    | skip
  rename_i g0 g1 g2 g3
  exfalso
  apply g1
  rw [exLo_pt g2.1 g2.2.1 g2.2.2.1 g2.2.2.2.1 g3.1 g3.2.1 g3.2.2]
  exact (val_eq g2.1 g2.2.1 g2.2.2.1 g2.2.2.2.1 g3.1 g3.2.1 g3.2.2).symm

end Go.Proofs.Ytopjcpdhfohccaa
