/- Layer 6 (box): Makes. -/
import Derived.Test.YtonhlfaddfgpaaaBoD
namespace Go.Proofs.Ytonhlfaddfgpaaa
open Go.RowKit Go.Ev
set_option linter.unusedSimpArgs false
set_option maxRecDepth 100000

def TBoxMakes : Tr :=
(.br (.eq (.fn 0 (.cons (.v 0) (.cons (.v 1) (.cons (.v 2) (.cons (.v 3) (.cons (.v 4) (.cons (.v 5) .nil))))))) (.lit .i64 0))
 (.br (.eq (.fn 0 (.cons (.v 6) (.cons (.v 7) (.cons (.v 8) (.cons (.v 9) (.cons (.v 10) (.cons (.v 11) .nil))))))) (.lit .i64 0))
 (.br (.p 0 (.cons (.v 0) (.cons (.v 1) (.cons (.v 2) (.cons (.v 3) (.cons (.v 4) (.cons (.v 5) (.cons (.v 6) (.cons (.v 7) (.cons (.v 8) (.cons (.v 9) (.cons (.v 10) (.cons (.v 11) .nil)))))))))))))
 (.br (.lt (.bin .mx .i64 (.v 0) (.v 6)) (.bin .mn .i64 (.v 3) (.v 9)))
 (.br (.lt (.bin .mx .i64 (.v 1) (.v 7)) (.bin .mn .i64 (.v 4) (.v 10)))
 (.br (.lt (.bin .mx .i64 (.v 2) (.v 8)) (.bin .mn .i64 (.v 5) (.v 11)))
 (.leaf (.clo (.bool true)))
 (.leaf (.clo (.bool false))))
 (.leaf (.clo (.bool false))))
 (.leaf (.clo (.bool false))))
 (.br (.lt (.bin .mx .i64 (.v 0) (.v 6)) (.bin .mn .i64 (.v 3) (.v 9)))
 (.br (.lt (.bin .mx .i64 (.v 1) (.v 7)) (.bin .mn .i64 (.v 4) (.v 10)))
 (.br (.lt (.bin .mx .i64 (.v 2) (.v 8)) (.bin .mn .i64 (.v 5) (.v 11)))
 (.leaf (.clo (.bool false)))
 (.leaf (.clo (.bool true))))
 (.leaf (.clo (.bool true))))
 (.leaf (.clo (.bool true)))))
 (.leaf (.clo (.bool true))))
 (.leaf (.clo (.bool true))))

set_option maxHeartbeats 8000000 in
theorem boxMakes_if (hA : Awake) (zs : List Int) (hr : InRng (shK [s6, s6, s3]) zs) (w : World) : Calls Try.prog 3 (shV [s6, s6, s3] zs).toArray w fun e w' => e = .returned (.bool true) ∧ Below w.heap.size w w' := by
  have hz := rng64 (by rfl) hr
  have hl := InRng_length hr
  obtain ⟨a, b, c, d, e, f, g, h, i, j, k, l, x, y, z, rfl⟩ := len15 hl
  have hR : R64 a ∧ R64 b ∧ R64 c ∧ R64 d ∧ R64 e ∧ R64 f ∧ R64 g ∧ R64 h ∧ R64 i ∧ R64 j ∧ R64 k ∧ R64 l ∧ R64 x ∧ R64 y ∧ R64 z := by
    refine ⟨?_, ?_, ?_, ?_, ?_, ?_, ?_, ?_, ?_, ?_, ?_, ?_, ?_, ?_, ?_⟩ <;> exact hz _ (by simp)
  have o := @ovB_s a b c d e f g h i j k l
  clear hR
  refine law_of (F := boF) [] mixed (cons := boConsM) (eqs := boEqs) (boConsM_ok hA) boEqs_ok (n := 300) (args := [a6 0, a6 6, a3 12]) (T := TBoxMakes) (fun S => by kernel_rfl) hz rfl sat_nil ?_ w
  unfold TBoxMakes
  cases hv : ovB a b c d e f g h i j k l
  · have o1 : ¬ (mx2 a g - mn2 d j < 0 ∧ mx2 b h - mn2 e k < 0 ∧ mx2 c i - mn2 f l < 0) := fun q => by rw [o.2 q] at hv; cases hv
    clear o
    repeat' ((with_reducible refine br_val ?_ ?_) <;> (intro hh; simp only [at_lt_t, at_lt_f, at_eq_t, at_eq_f, at_p, tv, row, bV_add, bV_sub, bV_mul, bV_quo, bV_rem, bV_mn, bV_mx, val64_vv, val64_fv, val64_pv, fv0, fv1, fv2, fv3, fv4, fv5, fv6, fv7, fv8, fv9, fv10, fv11, pv0, pv1, pv2, List.getD_cons_zero, List.getD_cons_succ, hv, Bool.false_eq_true] at hh))
    all_goals first
    | rfl
    | (exfalso; omega)
  · have o1 := o.1 hv
    clear o
    repeat' ((with_reducible refine br_val ?_ ?_) <;> (intro hh; simp only [at_lt_t, at_lt_f, at_eq_t, at_eq_f, at_p, tv, row, bV_add, bV_sub, bV_mul, bV_quo, bV_rem, bV_mn, bV_mx, val64_vv, val64_fv, val64_pv, fv0, fv1, fv2, fv3, fv4, fv5, fv6, fv7, fv8, fv9, fv10, fv11, pv0, pv1, pv2, List.getD_cons_zero, List.getD_cons_succ, hv, Bool.true_eq_false] at hh))
    all_goals first
    | rfl
    | (exfalso; omega)

  all_goals first
    | rfl
    | (exfalso; omega)

end Go.Proofs.Ytonhlfaddfgpaaa
