/- Layer 7 (plane): contracts of the normal forms. -/
import Derived.Test.YtopjcpdhfohccaaPlG
namespace Go.Proofs.Ytopjcpdhfohccaa
open Go.RowKit Go.Ev
set_option linter.unusedSimpArgs false
set_option maxRecDepth 100000

def M6 (x : Int) : Prop := -1000000 ≤ x ∧ x ≤ 1000000
theorem gcd2_val {a b : Int} (ha : M6 a) (hb : M6 b) : gcd2 a b = (Nat.gcd a.natAbs b.natAbs : Nat) := by
  unfold gcd2 W
  unfold M6 at ha hb
  exact wrap64 _ (by have := gcd_bd ha hb; omega)
theorem gcd2_bd {a b : Int} (ha : M6 a) (hb : M6 b) : 0 ≤ gcd2 a b ∧ gcd2 a b ≤ 1000000 := by
  rw [gcd2_val ha hb]
  exact ⟨by omega, gcd_bd ha hb⟩
theorem gcd2_m {a b : Int} (ha : M6 a) (hb : M6 b) : M6 (gcd2 a b) := by
  have := gcd2_bd ha hb
  unfold M6; omega
theorem M6.neg {a : Int} (ha : M6 a) : W (-a) = -a ∧ M6 (-a) := by
  unfold M6 W at *
  exact ⟨wrap64 _ (by omega), by omega⟩
theorem gcd2_nl (a b : Int) : gcd2 (-a) b = gcd2 a b := by unfold gcd2; rw [Int.natAbs_neg]
theorem gcd2_nr (a b : Int) : gcd2 a (-b) = gcd2 a b := by unfold gcd2; rw [Int.natAbs_neg]
theorem g3_pos {a b c : Int} (ha : M6 a) (hb : M6 b) (hc : M6 c) (hne : ¬ (a = 0 ∧ b = 0 ∧ c = 0)) : 1 ≤ g3 a b c ∧ g3 a b c ≤ 1000000 := by
  have h1 := gcd2_bd (gcd2_m ha hb) hc
  unfold g3
  refine ⟨?_, h1.2⟩
  by_cases h0 : gcd2 (gcd2 a b) c = 0
  · exfalso
    rw [gcd2_val (gcd2_m ha hb) hc] at h0
    have z : Nat.gcd (gcd2 a b).natAbs c.natAbs = 0 := by omega
    obtain ⟨z1, z2⟩ := Nat.gcd_eq_zero_iff.1 z
    rw [gcd2_val ha hb] at z1
    have z3 : Nat.gcd a.natAbs b.natAbs = 0 := by omega
    obtain ⟨z4, z5⟩ := Nat.gcd_eq_zero_iff.1 z3
    exact hne ⟨by omega, by omega, by omega⟩
  · omega
theorem g3_zero {a b c : Int} (ha : M6 a) : gcd2 (gcd2 (gcd2 0 a) b) c = g3 a b c := by
  unfold g3
  congr 1
  have e : (gcd2 0 a).natAbs = a.natAbs := by
    rw [gcd2_val (by unfold M6; omega) ha]
    simp
  unfold gcd2 at e ⊢
  rw [e]

def bdB (t : Tm) (lo hi : Int) : Path := [(.lt t (.lit .i64 lo), false), (.lt (.lit .i64 hi) t, false)]
theorem sat_bdB {S : Val K64} {t : Tm} {lo hi : Int} {π : Path} (h : lo ≤ tv S t ∧ tv S t ≤ hi) (hs : Sat S π) : Sat S (bdB t lo hi ++ π) :=
  sat_cons (at_lt_f.2 (by simp only [tv]; omega)) (sat_cons (at_lt_f.2 (by simp only [tv]; omega)) hs)

def zero3 : Path := [(.eq (.v 0) (.lit .i64 0), true), (.eq (.v 1) (.lit .i64 0), true), (.eq (.v 2) (.lit .i64 0), true)]
def pN : Path := (.eq (.fn 0 (.cons (.v 0) (.cons (.v 1) (.cons (.v 2) (.cons (.v 3) .nil))))) (.lit .i64 0), true) :: (.eq (.fn 1 (.cons (.v 0) (.cons (.v 1) (.cons (.v 2) .nil)))) (.lit .i64 0), true) :: (bdA 0 ++ (bdA 1 ++ (bdA 2 ++ (bdB (.fn 8 (.cons (.lit .i64 0) (.cons (.v 0) .nil))) 0 1000000 ++ (bdB (.fn 8 (.cons (.fn 8 (.cons (.lit .i64 0) (.cons (.v 0) .nil))) (.cons (.v 1) .nil))) 0 1000000 ++ (bdB (.fn 8 (.cons (.fn 8 (.cons (.fn 8 (.cons (.lit .i64 0) (.cons (.v 0) .nil))) (.cons (.v 1) .nil))) (.cons (.v 2) .nil))) 1 1000000 ++ []))))))
def TplaneNormal : Tr :=
(.br (.eq (.v 0) (.lit .i64 0))
 (.br (.eq (.v 1) (.lit .i64 0))
 (.br (.eq (.v 2) (.lit .i64 0))
 (.leaf (.clo (.bool true)))
 (.br (.lt (.bin .rem .i64 (.v 3) (.fn 8 (.cons (.fn 8 (.cons (.fn 8 (.cons (.lit .i64 0) (.cons (.v 0) .nil))) (.cons (.v 1) .nil))) (.cons (.v 2) .nil)))) (.lit .i64 0))
 (.leaf (.tup [(.agg [(.sy (.bin .quo .i64 (.v 0) (.fn 8 (.cons (.fn 8 (.cons (.fn 8 (.cons (.lit .i64 0) (.cons (.v 0) .nil))) (.cons (.v 1) .nil))) (.cons (.v 2) .nil))))), (.sy (.bin .quo .i64 (.v 1) (.fn 8 (.cons (.fn 8 (.cons (.fn 8 (.cons (.lit .i64 0) (.cons (.v 0) .nil))) (.cons (.v 1) .nil))) (.cons (.v 2) .nil))))), (.sy (.bin .quo .i64 (.v 2) (.fn 8 (.cons (.fn 8 (.cons (.fn 8 (.cons (.lit .i64 0) (.cons (.v 0) .nil))) (.cons (.v 1) .nil))) (.cons (.v 2) .nil))))), (.sy (.bin .sub .i64 (.bin .quo .i64 (.v 3) (.fn 8 (.cons (.fn 8 (.cons (.fn 8 (.cons (.lit .i64 0) (.cons (.v 0) .nil))) (.cons (.v 1) .nil))) (.cons (.v 2) .nil)))) (.lit .i64 1)))]), (.clo (.int .i64 0))]))
 (.leaf (.tup [(.agg [(.sy (.bin .quo .i64 (.v 0) (.fn 8 (.cons (.fn 8 (.cons (.fn 8 (.cons (.lit .i64 0) (.cons (.v 0) .nil))) (.cons (.v 1) .nil))) (.cons (.v 2) .nil))))), (.sy (.bin .quo .i64 (.v 1) (.fn 8 (.cons (.fn 8 (.cons (.fn 8 (.cons (.lit .i64 0) (.cons (.v 0) .nil))) (.cons (.v 1) .nil))) (.cons (.v 2) .nil))))), (.sy (.bin .quo .i64 (.v 2) (.fn 8 (.cons (.fn 8 (.cons (.fn 8 (.cons (.lit .i64 0) (.cons (.v 0) .nil))) (.cons (.v 1) .nil))) (.cons (.v 2) .nil))))), (.sy (.bin .quo .i64 (.v 3) (.fn 8 (.cons (.fn 8 (.cons (.fn 8 (.cons (.lit .i64 0) (.cons (.v 0) .nil))) (.cons (.v 1) .nil))) (.cons (.v 2) .nil)))))]), (.clo (.int .i64 0))]))))
 (.br (.lt (.bin .rem .i64 (.v 3) (.fn 8 (.cons (.fn 8 (.cons (.fn 8 (.cons (.lit .i64 0) (.cons (.v 0) .nil))) (.cons (.v 1) .nil))) (.cons (.v 2) .nil)))) (.lit .i64 0))
 (.leaf (.tup [(.agg [(.sy (.bin .quo .i64 (.v 0) (.fn 8 (.cons (.fn 8 (.cons (.fn 8 (.cons (.lit .i64 0) (.cons (.v 0) .nil))) (.cons (.v 1) .nil))) (.cons (.v 2) .nil))))), (.sy (.bin .quo .i64 (.v 1) (.fn 8 (.cons (.fn 8 (.cons (.fn 8 (.cons (.lit .i64 0) (.cons (.v 0) .nil))) (.cons (.v 1) .nil))) (.cons (.v 2) .nil))))), (.sy (.bin .quo .i64 (.v 2) (.fn 8 (.cons (.fn 8 (.cons (.fn 8 (.cons (.lit .i64 0) (.cons (.v 0) .nil))) (.cons (.v 1) .nil))) (.cons (.v 2) .nil))))), (.sy (.bin .sub .i64 (.bin .quo .i64 (.v 3) (.fn 8 (.cons (.fn 8 (.cons (.fn 8 (.cons (.lit .i64 0) (.cons (.v 0) .nil))) (.cons (.v 1) .nil))) (.cons (.v 2) .nil)))) (.lit .i64 1)))]), (.clo (.int .i64 0))]))
 (.leaf (.tup [(.agg [(.sy (.bin .quo .i64 (.v 0) (.fn 8 (.cons (.fn 8 (.cons (.fn 8 (.cons (.lit .i64 0) (.cons (.v 0) .nil))) (.cons (.v 1) .nil))) (.cons (.v 2) .nil))))), (.sy (.bin .quo .i64 (.v 1) (.fn 8 (.cons (.fn 8 (.cons (.fn 8 (.cons (.lit .i64 0) (.cons (.v 0) .nil))) (.cons (.v 1) .nil))) (.cons (.v 2) .nil))))), (.sy (.bin .quo .i64 (.v 2) (.fn 8 (.cons (.fn 8 (.cons (.fn 8 (.cons (.lit .i64 0) (.cons (.v 0) .nil))) (.cons (.v 1) .nil))) (.cons (.v 2) .nil))))), (.sy (.bin .quo .i64 (.v 3) (.fn 8 (.cons (.fn 8 (.cons (.fn 8 (.cons (.lit .i64 0) (.cons (.v 0) .nil))) (.cons (.v 1) .nil))) (.cons (.v 2) .nil)))))]), (.clo (.int .i64 0))]))))
 (.br (.lt (.bin .rem .i64 (.v 3) (.fn 8 (.cons (.fn 8 (.cons (.fn 8 (.cons (.lit .i64 0) (.cons (.v 0) .nil))) (.cons (.v 1) .nil))) (.cons (.v 2) .nil)))) (.lit .i64 0))
 (.leaf (.tup [(.agg [(.sy (.bin .quo .i64 (.v 0) (.fn 8 (.cons (.fn 8 (.cons (.fn 8 (.cons (.lit .i64 0) (.cons (.v 0) .nil))) (.cons (.v 1) .nil))) (.cons (.v 2) .nil))))), (.sy (.bin .quo .i64 (.v 1) (.fn 8 (.cons (.fn 8 (.cons (.fn 8 (.cons (.lit .i64 0) (.cons (.v 0) .nil))) (.cons (.v 1) .nil))) (.cons (.v 2) .nil))))), (.sy (.bin .quo .i64 (.v 2) (.fn 8 (.cons (.fn 8 (.cons (.fn 8 (.cons (.lit .i64 0) (.cons (.v 0) .nil))) (.cons (.v 1) .nil))) (.cons (.v 2) .nil))))), (.sy (.bin .sub .i64 (.bin .quo .i64 (.v 3) (.fn 8 (.cons (.fn 8 (.cons (.fn 8 (.cons (.lit .i64 0) (.cons (.v 0) .nil))) (.cons (.v 1) .nil))) (.cons (.v 2) .nil)))) (.lit .i64 1)))]), (.clo (.int .i64 0))]))
 (.leaf (.tup [(.agg [(.sy (.bin .quo .i64 (.v 0) (.fn 8 (.cons (.fn 8 (.cons (.fn 8 (.cons (.lit .i64 0) (.cons (.v 0) .nil))) (.cons (.v 1) .nil))) (.cons (.v 2) .nil))))), (.sy (.bin .quo .i64 (.v 1) (.fn 8 (.cons (.fn 8 (.cons (.fn 8 (.cons (.lit .i64 0) (.cons (.v 0) .nil))) (.cons (.v 1) .nil))) (.cons (.v 2) .nil))))), (.sy (.bin .quo .i64 (.v 2) (.fn 8 (.cons (.fn 8 (.cons (.fn 8 (.cons (.lit .i64 0) (.cons (.v 0) .nil))) (.cons (.v 1) .nil))) (.cons (.v 2) .nil))))), (.sy (.bin .quo .i64 (.v 3) (.fn 8 (.cons (.fn 8 (.cons (.fn 8 (.cons (.lit .i64 0) (.cons (.v 0) .nil))) (.cons (.v 1) .nil))) (.cons (.v 2) .nil)))))]), (.clo (.int .i64 0))]))))
def planeNormalC : Con := ⟨23, [s4], [.agg [20, 21, 22, 23], .c (.int .i64 0)], [.fn 0 0 4 .i64 0]⟩
def gplCons : List Con := gcdCons ++ plCons
theorem gplCons_ok (S : Val K64) (hf : S.fv = plF.fv) (hp : S.pv = plF.pv) : ∀ c ∈ gplCons, ConOK Try.prog S anyW c := by
  intro c hc
  rcases List.mem_append.1 hc with hc | hc
  · exact gcdCons_ok S hf hp c hc
  · exact plCons_ok S hf hp c hc
theorem okH_of {a b c d : Int} (h : ∀ p ∈ [Pre.fn 0 0 4 .i64 0], preV plF.fv [a, b, c, d] p) : chkH a b c d = 0 := h (.fn 0 0 4 .i64 0) (by simp)
set_option maxHeartbeats 4000000 in
theorem planeNormalC_ok {S : Val K64} (hf : S.fv = plF.fv) (hp : S.pv = plF.pv) : ConOK Try.prog S anyW planeNormalC := by
  refine con_fromB hf hp (by kernel_rfl) mixed (cons := gplCons) (eqs := plEqs) gplCons_ok plEqs_ok (n := 300) (args := [a4 0]) (T := TplaneNormal) pN [zero3] (fun S => by kernel_rfl) ?_ ?_
  · intro zs h hl
    obtain ⟨a, b, c, d, rfl⟩ := len4 hl
    rfl
  · intro zs h hl hpre
    obtain ⟨a, b, c, d, rfl⟩ := len4 hl
    have hH := okH_of hpre
    obtain ⟨ha, hb, hc, hd, hne⟩ := chkH_ok.1 hH
    have hV : chkV a b c = 0 := chkV_ok.2 (by omega)
    have ma : M6 a := by unfold M6; omega
    have mb : M6 b := by unfold M6; omega
    have mc : M6 c := by unfold M6; omega
    have m0 : M6 0 := by unfold M6; omega
    have hg : gcd2 (gcd2 (gcd2 0 a) b) c = g3 a b c := g3_zero ma
    have hp3 := g3_pos ma mb mc hne
    refine ⟨sat_cons (at_eq_t.2 hH) (sat_cons (at_eq_t.2 hV) (sat_bdA (i := 0) ha (sat_bdA (i := 1) hb (sat_bdA (i := 2) hc (sat_bdB (gcd2_bd m0 ma) (sat_bdB (gcd2_bd (gcd2_m m0 ma) mb) (sat_bdB (by show 1 ≤ gcd2 (gcd2 (gcd2 0 a) b) c ∧ gcd2 (gcd2 (gcd2 0 a) b) c ≤ 1000000; rw [hg]; exact hp3) sat_nil))))))), ?_, ?_⟩
    · intro b' hb' hs
      simp only [List.mem_cons, List.not_mem_nil, or_false] at hb'
      subst hb'
      exact hne ⟨at_eq_t.1 (hs _ (List.mem_cons_self ..)), at_eq_t.1 (hs _ (List.mem_cons_of_mem _ (List.mem_cons_self ..))), at_eq_t.1 (hs _ (List.mem_cons_of_mem _ (List.mem_cons_of_mem _ (List.mem_cons_self ..))))⟩
    · have hres : resV (val64 plF [a, b, c, d] h) [a, b, c, d] planeNormalC.rp = Value.tuple #[.agg #[.int .i64 (W (a.tdiv (g3 a b c))), .int .i64 (W (b.tdiv (g3 a b c))), .int .i64 (W (c.tdiv (g3 a b c))), .int .i64 (flo d (g3 a b c))], .int .i64 0] := by kernel_rfl
      rw [hres]
      unfold TplaneNormal
      repeat' ((with_reducible refine br_val ?_ ?_) <;> (intro h; simp only [at_lt_t, at_lt_f, at_eq_t, at_eq_f, at_p, tv, row, bV_add, bV_sub, bV_mul, bV_quo, bV_rem, bV_mn, bV_mx, val64_vv, val64_fv, val64_pv, fv0, fv1, fv2, fv3, fv4, fv5, fv6, fv7, fv8, fv10, fv11, fv12, fv13, fv14, fv15, fv16, fv20, fv21, fv22, fv23, pv0, pv1, List.getD_cons_zero, List.getD_cons_succ] at h))
      all_goals first
        | (exfalso; omega)
        | (have h' : d.tmod (gcd2 (gcd2 (gcd2 0 a) b) c) < 0 := h
           rw [hg] at h'
           refine Eq.trans (b := some (Value.tuple #[.agg #[.int .i64 (W (a.tdiv (gcd2 (gcd2 (gcd2 0 a) b) c))), .int .i64 (W (b.tdiv (gcd2 (gcd2 (gcd2 0 a) b) c))), .int .i64 (W (c.tdiv (gcd2 (gcd2 (gcd2 0 a) b) c))), .int .i64 (W (W (d.tdiv (gcd2 (gcd2 (gcd2 0 a) b) c)) - 1))], .int .i64 0])) (by kernel_rfl) ?_
           rw [hg, flo_pos h'])
        | (have h' : 0 ≤ d.tmod (gcd2 (gcd2 (gcd2 0 a) b) c) := h
           rw [hg] at h'
           refine Eq.trans (b := some (Value.tuple #[.agg #[.int .i64 (W (a.tdiv (gcd2 (gcd2 (gcd2 0 a) b) c))), .int .i64 (W (b.tdiv (gcd2 (gcd2 (gcd2 0 a) b) c))), .int .i64 (W (c.tdiv (gcd2 (gcd2 (gcd2 0 a) b) c))), .int .i64 (W (d.tdiv (gcd2 (gcd2 (gcd2 0 a) b) c)))], .int .i64 0])) (by kernel_rfl) ?_
           rw [hg, flo_neg h'])

def pR : Path := bdA 0 ++ (bdA 1 ++ (bdA 2 ++ (bdB (.fn 8 (.cons (.v 0) (.cons (.v 1) .nil))) 0 1000000 ++ (bdB (.fn 8 (.cons (.neg .i64 (.v 0)) (.cons (.v 1) .nil))) 0 1000000 ++ (bdB (.fn 8 (.cons (.v 0) (.cons (.neg .i64 (.v 1)) .nil))) 0 1000000 ++ (bdB (.fn 8 (.cons (.neg .i64 (.v 0)) (.cons (.neg .i64 (.v 1)) .nil))) 0 1000000 ++ (bdB (.fn 8 (.cons (.fn 8 (.cons (.v 0) (.cons (.v 1) .nil))) (.cons (.v 2) .nil))) 1 1000000 ++ (bdB (.fn 8 (.cons (.fn 8 (.cons (.neg .i64 (.v 0)) (.cons (.v 1) .nil))) (.cons (.v 2) .nil))) 1 1000000 ++ (bdB (.fn 8 (.cons (.fn 8 (.cons (.v 0) (.cons (.neg .i64 (.v 1)) .nil))) (.cons (.v 2) .nil))) 1 1000000 ++ (bdB (.fn 8 (.cons (.fn 8 (.cons (.neg .i64 (.v 0)) (.cons (.neg .i64 (.v 1)) .nil))) (.cons (.v 2) .nil))) 1 1000000 ++ (bdB (.fn 8 (.cons (.fn 8 (.cons (.v 0) (.cons (.v 1) .nil))) (.cons (.neg .i64 (.v 2)) .nil))) 1 1000000 ++ (bdB (.fn 8 (.cons (.fn 8 (.cons (.neg .i64 (.v 0)) (.cons (.v 1) .nil))) (.cons (.neg .i64 (.v 2)) .nil))) 1 1000000 ++ (bdB (.fn 8 (.cons (.fn 8 (.cons (.v 0) (.cons (.neg .i64 (.v 1)) .nil))) (.cons (.neg .i64 (.v 2)) .nil))) 1 1000000 ++ (bdB (.fn 8 (.cons (.fn 8 (.cons (.neg .i64 (.v 0)) (.cons (.neg .i64 (.v 1)) .nil))) (.cons (.neg .i64 (.v 2)) .nil))) 1 1000000 ++ []))))))))))))))
def TrNormal : Tr :=
(.br (.lt (.v 0) (.lit .i64 0))
 (.br (.lt (.v 1) (.lit .i64 0))
 (.br (.lt (.v 2) (.lit .i64 0))
 (.br (.lt (.bin .rem .i64 (.v 3) (.fn 8 (.cons (.fn 8 (.cons (.neg .i64 (.v 0)) (.cons (.neg .i64 (.v 1)) .nil))) (.cons (.neg .i64 (.v 2)) .nil)))) (.lit .i64 0))
 (.leaf (.agg [(.sy (.bin .quo .i64 (.v 0) (.fn 8 (.cons (.fn 8 (.cons (.neg .i64 (.v 0)) (.cons (.neg .i64 (.v 1)) .nil))) (.cons (.neg .i64 (.v 2)) .nil))))), (.sy (.bin .quo .i64 (.v 1) (.fn 8 (.cons (.fn 8 (.cons (.neg .i64 (.v 0)) (.cons (.neg .i64 (.v 1)) .nil))) (.cons (.neg .i64 (.v 2)) .nil))))), (.sy (.bin .quo .i64 (.v 2) (.fn 8 (.cons (.fn 8 (.cons (.neg .i64 (.v 0)) (.cons (.neg .i64 (.v 1)) .nil))) (.cons (.neg .i64 (.v 2)) .nil))))), (.sy (.bin .sub .i64 (.bin .quo .i64 (.v 3) (.fn 8 (.cons (.fn 8 (.cons (.neg .i64 (.v 0)) (.cons (.neg .i64 (.v 1)) .nil))) (.cons (.neg .i64 (.v 2)) .nil)))) (.lit .i64 1)))]))
 (.leaf (.agg [(.sy (.bin .quo .i64 (.v 0) (.fn 8 (.cons (.fn 8 (.cons (.neg .i64 (.v 0)) (.cons (.neg .i64 (.v 1)) .nil))) (.cons (.neg .i64 (.v 2)) .nil))))), (.sy (.bin .quo .i64 (.v 1) (.fn 8 (.cons (.fn 8 (.cons (.neg .i64 (.v 0)) (.cons (.neg .i64 (.v 1)) .nil))) (.cons (.neg .i64 (.v 2)) .nil))))), (.sy (.bin .quo .i64 (.v 2) (.fn 8 (.cons (.fn 8 (.cons (.neg .i64 (.v 0)) (.cons (.neg .i64 (.v 1)) .nil))) (.cons (.neg .i64 (.v 2)) .nil))))), (.sy (.bin .quo .i64 (.v 3) (.fn 8 (.cons (.fn 8 (.cons (.neg .i64 (.v 0)) (.cons (.neg .i64 (.v 1)) .nil))) (.cons (.neg .i64 (.v 2)) .nil)))))])))
 (.br (.lt (.bin .rem .i64 (.v 3) (.fn 8 (.cons (.fn 8 (.cons (.neg .i64 (.v 0)) (.cons (.neg .i64 (.v 1)) .nil))) (.cons (.v 2) .nil)))) (.lit .i64 0))
 (.leaf (.agg [(.sy (.bin .quo .i64 (.v 0) (.fn 8 (.cons (.fn 8 (.cons (.neg .i64 (.v 0)) (.cons (.neg .i64 (.v 1)) .nil))) (.cons (.v 2) .nil))))), (.sy (.bin .quo .i64 (.v 1) (.fn 8 (.cons (.fn 8 (.cons (.neg .i64 (.v 0)) (.cons (.neg .i64 (.v 1)) .nil))) (.cons (.v 2) .nil))))), (.sy (.bin .quo .i64 (.v 2) (.fn 8 (.cons (.fn 8 (.cons (.neg .i64 (.v 0)) (.cons (.neg .i64 (.v 1)) .nil))) (.cons (.v 2) .nil))))), (.sy (.bin .sub .i64 (.bin .quo .i64 (.v 3) (.fn 8 (.cons (.fn 8 (.cons (.neg .i64 (.v 0)) (.cons (.neg .i64 (.v 1)) .nil))) (.cons (.v 2) .nil)))) (.lit .i64 1)))]))
 (.leaf (.agg [(.sy (.bin .quo .i64 (.v 0) (.fn 8 (.cons (.fn 8 (.cons (.neg .i64 (.v 0)) (.cons (.neg .i64 (.v 1)) .nil))) (.cons (.v 2) .nil))))), (.sy (.bin .quo .i64 (.v 1) (.fn 8 (.cons (.fn 8 (.cons (.neg .i64 (.v 0)) (.cons (.neg .i64 (.v 1)) .nil))) (.cons (.v 2) .nil))))), (.sy (.bin .quo .i64 (.v 2) (.fn 8 (.cons (.fn 8 (.cons (.neg .i64 (.v 0)) (.cons (.neg .i64 (.v 1)) .nil))) (.cons (.v 2) .nil))))), (.sy (.bin .quo .i64 (.v 3) (.fn 8 (.cons (.fn 8 (.cons (.neg .i64 (.v 0)) (.cons (.neg .i64 (.v 1)) .nil))) (.cons (.v 2) .nil)))))]))))
 (.br (.lt (.v 2) (.lit .i64 0))
 (.br (.lt (.bin .rem .i64 (.v 3) (.fn 8 (.cons (.fn 8 (.cons (.neg .i64 (.v 0)) (.cons (.v 1) .nil))) (.cons (.neg .i64 (.v 2)) .nil)))) (.lit .i64 0))
 (.leaf (.agg [(.sy (.bin .quo .i64 (.v 0) (.fn 8 (.cons (.fn 8 (.cons (.neg .i64 (.v 0)) (.cons (.v 1) .nil))) (.cons (.neg .i64 (.v 2)) .nil))))), (.sy (.bin .quo .i64 (.v 1) (.fn 8 (.cons (.fn 8 (.cons (.neg .i64 (.v 0)) (.cons (.v 1) .nil))) (.cons (.neg .i64 (.v 2)) .nil))))), (.sy (.bin .quo .i64 (.v 2) (.fn 8 (.cons (.fn 8 (.cons (.neg .i64 (.v 0)) (.cons (.v 1) .nil))) (.cons (.neg .i64 (.v 2)) .nil))))), (.sy (.bin .sub .i64 (.bin .quo .i64 (.v 3) (.fn 8 (.cons (.fn 8 (.cons (.neg .i64 (.v 0)) (.cons (.v 1) .nil))) (.cons (.neg .i64 (.v 2)) .nil)))) (.lit .i64 1)))]))
 (.leaf (.agg [(.sy (.bin .quo .i64 (.v 0) (.fn 8 (.cons (.fn 8 (.cons (.neg .i64 (.v 0)) (.cons (.v 1) .nil))) (.cons (.neg .i64 (.v 2)) .nil))))), (.sy (.bin .quo .i64 (.v 1) (.fn 8 (.cons (.fn 8 (.cons (.neg .i64 (.v 0)) (.cons (.v 1) .nil))) (.cons (.neg .i64 (.v 2)) .nil))))), (.sy (.bin .quo .i64 (.v 2) (.fn 8 (.cons (.fn 8 (.cons (.neg .i64 (.v 0)) (.cons (.v 1) .nil))) (.cons (.neg .i64 (.v 2)) .nil))))), (.sy (.bin .quo .i64 (.v 3) (.fn 8 (.cons (.fn 8 (.cons (.neg .i64 (.v 0)) (.cons (.v 1) .nil))) (.cons (.neg .i64 (.v 2)) .nil)))))])))
 (.br (.lt (.bin .rem .i64 (.v 3) (.fn 8 (.cons (.fn 8 (.cons (.neg .i64 (.v 0)) (.cons (.v 1) .nil))) (.cons (.v 2) .nil)))) (.lit .i64 0))
 (.leaf (.agg [(.sy (.bin .quo .i64 (.v 0) (.fn 8 (.cons (.fn 8 (.cons (.neg .i64 (.v 0)) (.cons (.v 1) .nil))) (.cons (.v 2) .nil))))), (.sy (.bin .quo .i64 (.v 1) (.fn 8 (.cons (.fn 8 (.cons (.neg .i64 (.v 0)) (.cons (.v 1) .nil))) (.cons (.v 2) .nil))))), (.sy (.bin .quo .i64 (.v 2) (.fn 8 (.cons (.fn 8 (.cons (.neg .i64 (.v 0)) (.cons (.v 1) .nil))) (.cons (.v 2) .nil))))), (.sy (.bin .sub .i64 (.bin .quo .i64 (.v 3) (.fn 8 (.cons (.fn 8 (.cons (.neg .i64 (.v 0)) (.cons (.v 1) .nil))) (.cons (.v 2) .nil)))) (.lit .i64 1)))]))
 (.leaf (.agg [(.sy (.bin .quo .i64 (.v 0) (.fn 8 (.cons (.fn 8 (.cons (.neg .i64 (.v 0)) (.cons (.v 1) .nil))) (.cons (.v 2) .nil))))), (.sy (.bin .quo .i64 (.v 1) (.fn 8 (.cons (.fn 8 (.cons (.neg .i64 (.v 0)) (.cons (.v 1) .nil))) (.cons (.v 2) .nil))))), (.sy (.bin .quo .i64 (.v 2) (.fn 8 (.cons (.fn 8 (.cons (.neg .i64 (.v 0)) (.cons (.v 1) .nil))) (.cons (.v 2) .nil))))), (.sy (.bin .quo .i64 (.v 3) (.fn 8 (.cons (.fn 8 (.cons (.neg .i64 (.v 0)) (.cons (.v 1) .nil))) (.cons (.v 2) .nil)))))])))))
 (.br (.lt (.v 1) (.lit .i64 0))
 (.br (.lt (.v 2) (.lit .i64 0))
 (.br (.lt (.bin .rem .i64 (.v 3) (.fn 8 (.cons (.fn 8 (.cons (.v 0) (.cons (.neg .i64 (.v 1)) .nil))) (.cons (.neg .i64 (.v 2)) .nil)))) (.lit .i64 0))
 (.leaf (.agg [(.sy (.bin .quo .i64 (.v 0) (.fn 8 (.cons (.fn 8 (.cons (.v 0) (.cons (.neg .i64 (.v 1)) .nil))) (.cons (.neg .i64 (.v 2)) .nil))))), (.sy (.bin .quo .i64 (.v 1) (.fn 8 (.cons (.fn 8 (.cons (.v 0) (.cons (.neg .i64 (.v 1)) .nil))) (.cons (.neg .i64 (.v 2)) .nil))))), (.sy (.bin .quo .i64 (.v 2) (.fn 8 (.cons (.fn 8 (.cons (.v 0) (.cons (.neg .i64 (.v 1)) .nil))) (.cons (.neg .i64 (.v 2)) .nil))))), (.sy (.bin .sub .i64 (.bin .quo .i64 (.v 3) (.fn 8 (.cons (.fn 8 (.cons (.v 0) (.cons (.neg .i64 (.v 1)) .nil))) (.cons (.neg .i64 (.v 2)) .nil)))) (.lit .i64 1)))]))
 (.leaf (.agg [(.sy (.bin .quo .i64 (.v 0) (.fn 8 (.cons (.fn 8 (.cons (.v 0) (.cons (.neg .i64 (.v 1)) .nil))) (.cons (.neg .i64 (.v 2)) .nil))))), (.sy (.bin .quo .i64 (.v 1) (.fn 8 (.cons (.fn 8 (.cons (.v 0) (.cons (.neg .i64 (.v 1)) .nil))) (.cons (.neg .i64 (.v 2)) .nil))))), (.sy (.bin .quo .i64 (.v 2) (.fn 8 (.cons (.fn 8 (.cons (.v 0) (.cons (.neg .i64 (.v 1)) .nil))) (.cons (.neg .i64 (.v 2)) .nil))))), (.sy (.bin .quo .i64 (.v 3) (.fn 8 (.cons (.fn 8 (.cons (.v 0) (.cons (.neg .i64 (.v 1)) .nil))) (.cons (.neg .i64 (.v 2)) .nil)))))])))
 (.br (.lt (.bin .rem .i64 (.v 3) (.fn 8 (.cons (.fn 8 (.cons (.v 0) (.cons (.neg .i64 (.v 1)) .nil))) (.cons (.v 2) .nil)))) (.lit .i64 0))
 (.leaf (.agg [(.sy (.bin .quo .i64 (.v 0) (.fn 8 (.cons (.fn 8 (.cons (.v 0) (.cons (.neg .i64 (.v 1)) .nil))) (.cons (.v 2) .nil))))), (.sy (.bin .quo .i64 (.v 1) (.fn 8 (.cons (.fn 8 (.cons (.v 0) (.cons (.neg .i64 (.v 1)) .nil))) (.cons (.v 2) .nil))))), (.sy (.bin .quo .i64 (.v 2) (.fn 8 (.cons (.fn 8 (.cons (.v 0) (.cons (.neg .i64 (.v 1)) .nil))) (.cons (.v 2) .nil))))), (.sy (.bin .sub .i64 (.bin .quo .i64 (.v 3) (.fn 8 (.cons (.fn 8 (.cons (.v 0) (.cons (.neg .i64 (.v 1)) .nil))) (.cons (.v 2) .nil)))) (.lit .i64 1)))]))
 (.leaf (.agg [(.sy (.bin .quo .i64 (.v 0) (.fn 8 (.cons (.fn 8 (.cons (.v 0) (.cons (.neg .i64 (.v 1)) .nil))) (.cons (.v 2) .nil))))), (.sy (.bin .quo .i64 (.v 1) (.fn 8 (.cons (.fn 8 (.cons (.v 0) (.cons (.neg .i64 (.v 1)) .nil))) (.cons (.v 2) .nil))))), (.sy (.bin .quo .i64 (.v 2) (.fn 8 (.cons (.fn 8 (.cons (.v 0) (.cons (.neg .i64 (.v 1)) .nil))) (.cons (.v 2) .nil))))), (.sy (.bin .quo .i64 (.v 3) (.fn 8 (.cons (.fn 8 (.cons (.v 0) (.cons (.neg .i64 (.v 1)) .nil))) (.cons (.v 2) .nil)))))]))))
 (.br (.lt (.v 2) (.lit .i64 0))
 (.br (.lt (.bin .rem .i64 (.v 3) (.fn 8 (.cons (.fn 8 (.cons (.v 0) (.cons (.v 1) .nil))) (.cons (.neg .i64 (.v 2)) .nil)))) (.lit .i64 0))
 (.leaf (.agg [(.sy (.bin .quo .i64 (.v 0) (.fn 8 (.cons (.fn 8 (.cons (.v 0) (.cons (.v 1) .nil))) (.cons (.neg .i64 (.v 2)) .nil))))), (.sy (.bin .quo .i64 (.v 1) (.fn 8 (.cons (.fn 8 (.cons (.v 0) (.cons (.v 1) .nil))) (.cons (.neg .i64 (.v 2)) .nil))))), (.sy (.bin .quo .i64 (.v 2) (.fn 8 (.cons (.fn 8 (.cons (.v 0) (.cons (.v 1) .nil))) (.cons (.neg .i64 (.v 2)) .nil))))), (.sy (.bin .sub .i64 (.bin .quo .i64 (.v 3) (.fn 8 (.cons (.fn 8 (.cons (.v 0) (.cons (.v 1) .nil))) (.cons (.neg .i64 (.v 2)) .nil)))) (.lit .i64 1)))]))
 (.leaf (.agg [(.sy (.bin .quo .i64 (.v 0) (.fn 8 (.cons (.fn 8 (.cons (.v 0) (.cons (.v 1) .nil))) (.cons (.neg .i64 (.v 2)) .nil))))), (.sy (.bin .quo .i64 (.v 1) (.fn 8 (.cons (.fn 8 (.cons (.v 0) (.cons (.v 1) .nil))) (.cons (.neg .i64 (.v 2)) .nil))))), (.sy (.bin .quo .i64 (.v 2) (.fn 8 (.cons (.fn 8 (.cons (.v 0) (.cons (.v 1) .nil))) (.cons (.neg .i64 (.v 2)) .nil))))), (.sy (.bin .quo .i64 (.v 3) (.fn 8 (.cons (.fn 8 (.cons (.v 0) (.cons (.v 1) .nil))) (.cons (.neg .i64 (.v 2)) .nil)))))])))
 (.br (.lt (.bin .rem .i64 (.v 3) (.fn 8 (.cons (.fn 8 (.cons (.v 0) (.cons (.v 1) .nil))) (.cons (.v 2) .nil)))) (.lit .i64 0))
 (.leaf (.agg [(.sy (.bin .quo .i64 (.v 0) (.fn 8 (.cons (.fn 8 (.cons (.v 0) (.cons (.v 1) .nil))) (.cons (.v 2) .nil))))), (.sy (.bin .quo .i64 (.v 1) (.fn 8 (.cons (.fn 8 (.cons (.v 0) (.cons (.v 1) .nil))) (.cons (.v 2) .nil))))), (.sy (.bin .quo .i64 (.v 2) (.fn 8 (.cons (.fn 8 (.cons (.v 0) (.cons (.v 1) .nil))) (.cons (.v 2) .nil))))), (.sy (.bin .sub .i64 (.bin .quo .i64 (.v 3) (.fn 8 (.cons (.fn 8 (.cons (.v 0) (.cons (.v 1) .nil))) (.cons (.v 2) .nil)))) (.lit .i64 1)))]))
 (.leaf (.agg [(.sy (.bin .quo .i64 (.v 0) (.fn 8 (.cons (.fn 8 (.cons (.v 0) (.cons (.v 1) .nil))) (.cons (.v 2) .nil))))), (.sy (.bin .quo .i64 (.v 1) (.fn 8 (.cons (.fn 8 (.cons (.v 0) (.cons (.v 1) .nil))) (.cons (.v 2) .nil))))), (.sy (.bin .quo .i64 (.v 2) (.fn 8 (.cons (.fn 8 (.cons (.v 0) (.cons (.v 1) .nil))) (.cons (.v 2) .nil))))), (.sy (.bin .quo .i64 (.v 3) (.fn 8 (.cons (.fn 8 (.cons (.v 0) (.cons (.v 1) .nil))) (.cons (.v 2) .nil)))))]))))))
def rNormalC : Con := ⟨26, [s4], [.agg [20, 21, 22, 23]], [.fn 0 0 4 .i64 0]⟩
set_option maxHeartbeats 8000000 in
theorem rNormalC_ok {S : Val K64} (hf : S.fv = plF.fv) (hp : S.pv = plF.pv) : ConOK Try.prog S anyW rNormalC := by
  refine con_from hf hp (by kernel_rfl) mixed (cons := gplCons) (eqs := plEqs) gplCons_ok plEqs_ok (n := 300) (args := [a4 0]) (T := TrNormal) pR (fun S => by kernel_rfl) ?_ ?_
  · intro zs h hl
    obtain ⟨a, b, c, d, rfl⟩ := len4 hl
    rfl
  · intro zs h hl hpre
    obtain ⟨a, b, c, d, rfl⟩ := len4 hl
    have hH := okH_of hpre
    obtain ⟨ha, hb, hc, hd, hne⟩ := chkH_ok.1 hH
    have ma : M6 a := by unfold M6; omega
    have mb : M6 b := by unfold M6; omega
    have mc : M6 c := by unfold M6; omega
    have na : ∀ y, gcd2 (W (-a)) y = gcd2 a y := fun y => by rw [ma.neg.1, gcd2_nl]
    have nb : ∀ y, gcd2 y (W (-b)) = gcd2 y b := fun y => by rw [mb.neg.1, gcd2_nr]
    have nc : ∀ y, gcd2 y (W (-c)) = gcd2 y c := fun y => by rw [mc.neg.1, gcd2_nr]
    have nl := na
    have nr := nb
    have g2 := gcd2_bd ma mb
    have gp := g3_pos ma mb mc hne
    refine ⟨sat_bdA (i := 0) ha (sat_bdA (i := 1) hb (sat_bdA (i := 2) hc (sat_bdB (by show 0 ≤ gcd2 a b ∧ gcd2 a b ≤ 1000000; first | exact g2 | (simp only [na, nb]; exact g2)) (sat_bdB (by show 0 ≤ gcd2 (W (-a)) b ∧ gcd2 (W (-a)) b ≤ 1000000; first | exact g2 | (simp only [na, nb]; exact g2)) (sat_bdB (by show 0 ≤ gcd2 a (W (-b)) ∧ gcd2 a (W (-b)) ≤ 1000000; first | exact g2 | (simp only [na, nb]; exact g2)) (sat_bdB (by show 0 ≤ gcd2 (W (-a)) (W (-b)) ∧ gcd2 (W (-a)) (W (-b)) ≤ 1000000; first | exact g2 | (simp only [na, nb]; exact g2)) (sat_bdB (by show 1 ≤ gcd2 (gcd2 a b) c ∧ gcd2 (gcd2 a b) c ≤ 1000000; first | exact gp | (simp only [na, nb, nc]; exact gp)) (sat_bdB (by show 1 ≤ gcd2 (gcd2 (W (-a)) b) c ∧ gcd2 (gcd2 (W (-a)) b) c ≤ 1000000; first | exact gp | (simp only [na, nb, nc]; exact gp)) (sat_bdB (by show 1 ≤ gcd2 (gcd2 a (W (-b))) c ∧ gcd2 (gcd2 a (W (-b))) c ≤ 1000000; first | exact gp | (simp only [na, nb, nc]; exact gp)) (sat_bdB (by show 1 ≤ gcd2 (gcd2 (W (-a)) (W (-b))) c ∧ gcd2 (gcd2 (W (-a)) (W (-b))) c ≤ 1000000; first | exact gp | (simp only [na, nb, nc]; exact gp)) (sat_bdB (by show 1 ≤ gcd2 (gcd2 a b) (W (-c)) ∧ gcd2 (gcd2 a b) (W (-c)) ≤ 1000000; first | exact gp | (simp only [na, nb, nc]; exact gp)) (sat_bdB (by show 1 ≤ gcd2 (gcd2 (W (-a)) b) (W (-c)) ∧ gcd2 (gcd2 (W (-a)) b) (W (-c)) ≤ 1000000; first | exact gp | (simp only [na, nb, nc]; exact gp)) (sat_bdB (by show 1 ≤ gcd2 (gcd2 a (W (-b))) (W (-c)) ∧ gcd2 (gcd2 a (W (-b))) (W (-c)) ≤ 1000000; first | exact gp | (simp only [na, nb, nc]; exact gp)) (sat_bdB (by show 1 ≤ gcd2 (gcd2 (W (-a)) (W (-b))) (W (-c)) ∧ gcd2 (gcd2 (W (-a)) (W (-b))) (W (-c)) ≤ 1000000; first | exact gp | (simp only [na, nb, nc]; exact gp)) sat_nil)))))))))))))), ?_⟩
    have hres : resV (val64 plF [a, b, c, d] h) [a, b, c, d] rNormalC.rp = Value.agg #[.int .i64 (W (a.tdiv (g3 a b c))), .int .i64 (W (b.tdiv (g3 a b c))), .int .i64 (W (c.tdiv (g3 a b c))), .int .i64 (flo d (g3 a b c))] := by kernel_rfl
    rw [hres]
    unfold TrNormal
    repeat' ((with_reducible refine br_val ?_ ?_) <;> (intro h; simp only [at_lt_t, at_lt_f, at_eq_t, at_eq_f, at_p, tv, row, bV_add, bV_sub, bV_mul, bV_quo, bV_rem, bV_mn, bV_mx, val64_vv, val64_fv, val64_pv, fv0, fv1, fv2, fv3, fv4, fv5, fv6, fv7, fv8, fv10, fv11, fv12, fv13, fv14, fv15, fv16, fv20, fv21, fv22, fv23, pv0, pv1, List.getD_cons_zero, List.getD_cons_succ] at h))
    · have hg : gcd2 (gcd2 (W (-a)) (W (-b))) (W (-c)) = g3 a b c := by simp only [nl, nr, nc, g3]
      have h' : d.tmod (gcd2 (gcd2 (W (-a)) (W (-b))) (W (-c))) < 0 := h
      rw [hg] at h'
      refine Eq.trans (b := some (Value.agg #[.int .i64 (W (a.tdiv (gcd2 (gcd2 (W (-a)) (W (-b))) (W (-c))))), .int .i64 (W (b.tdiv (gcd2 (gcd2 (W (-a)) (W (-b))) (W (-c))))), .int .i64 (W (c.tdiv (gcd2 (gcd2 (W (-a)) (W (-b))) (W (-c))))), .int .i64 (W (W (d.tdiv (gcd2 (gcd2 (W (-a)) (W (-b))) (W (-c)))) - 1))])) rfl ?_
      rw [hg, flo_pos h']
    · have hg : gcd2 (gcd2 (W (-a)) (W (-b))) (W (-c)) = g3 a b c := by simp only [nl, nr, nc, g3]
      have h' : 0 ≤ d.tmod (gcd2 (gcd2 (W (-a)) (W (-b))) (W (-c))) := h
      rw [hg] at h'
      refine Eq.trans (b := some (Value.agg #[.int .i64 (W (a.tdiv (gcd2 (gcd2 (W (-a)) (W (-b))) (W (-c))))), .int .i64 (W (b.tdiv (gcd2 (gcd2 (W (-a)) (W (-b))) (W (-c))))), .int .i64 (W (c.tdiv (gcd2 (gcd2 (W (-a)) (W (-b))) (W (-c))))), .int .i64 (W (d.tdiv (gcd2 (gcd2 (W (-a)) (W (-b))) (W (-c)))))])) rfl ?_
      rw [hg, flo_neg h']
    · have hg : gcd2 (gcd2 (W (-a)) (W (-b))) c = g3 a b c := by simp only [nl, nr, nc, g3]
      have h' : d.tmod (gcd2 (gcd2 (W (-a)) (W (-b))) c) < 0 := h
      rw [hg] at h'
      refine Eq.trans (b := some (Value.agg #[.int .i64 (W (a.tdiv (gcd2 (gcd2 (W (-a)) (W (-b))) c))), .int .i64 (W (b.tdiv (gcd2 (gcd2 (W (-a)) (W (-b))) c))), .int .i64 (W (c.tdiv (gcd2 (gcd2 (W (-a)) (W (-b))) c))), .int .i64 (W (W (d.tdiv (gcd2 (gcd2 (W (-a)) (W (-b))) c)) - 1))])) rfl ?_
      rw [hg, flo_pos h']
    · have hg : gcd2 (gcd2 (W (-a)) (W (-b))) c = g3 a b c := by simp only [nl, nr, nc, g3]
      have h' : 0 ≤ d.tmod (gcd2 (gcd2 (W (-a)) (W (-b))) c) := h
      rw [hg] at h'
      refine Eq.trans (b := some (Value.agg #[.int .i64 (W (a.tdiv (gcd2 (gcd2 (W (-a)) (W (-b))) c))), .int .i64 (W (b.tdiv (gcd2 (gcd2 (W (-a)) (W (-b))) c))), .int .i64 (W (c.tdiv (gcd2 (gcd2 (W (-a)) (W (-b))) c))), .int .i64 (W (d.tdiv (gcd2 (gcd2 (W (-a)) (W (-b))) c)))])) rfl ?_
      rw [hg, flo_neg h']
    · have hg : gcd2 (gcd2 (W (-a)) b) (W (-c)) = g3 a b c := by simp only [nl, nr, nc, g3]
      have h' : d.tmod (gcd2 (gcd2 (W (-a)) b) (W (-c))) < 0 := h
      rw [hg] at h'
      refine Eq.trans (b := some (Value.agg #[.int .i64 (W (a.tdiv (gcd2 (gcd2 (W (-a)) b) (W (-c))))), .int .i64 (W (b.tdiv (gcd2 (gcd2 (W (-a)) b) (W (-c))))), .int .i64 (W (c.tdiv (gcd2 (gcd2 (W (-a)) b) (W (-c))))), .int .i64 (W (W (d.tdiv (gcd2 (gcd2 (W (-a)) b) (W (-c)))) - 1))])) rfl ?_
      rw [hg, flo_pos h']
    · have hg : gcd2 (gcd2 (W (-a)) b) (W (-c)) = g3 a b c := by simp only [nl, nr, nc, g3]
      have h' : 0 ≤ d.tmod (gcd2 (gcd2 (W (-a)) b) (W (-c))) := h
      rw [hg] at h'
      refine Eq.trans (b := some (Value.agg #[.int .i64 (W (a.tdiv (gcd2 (gcd2 (W (-a)) b) (W (-c))))), .int .i64 (W (b.tdiv (gcd2 (gcd2 (W (-a)) b) (W (-c))))), .int .i64 (W (c.tdiv (gcd2 (gcd2 (W (-a)) b) (W (-c))))), .int .i64 (W (d.tdiv (gcd2 (gcd2 (W (-a)) b) (W (-c)))))])) rfl ?_
      rw [hg, flo_neg h']
    · have hg : gcd2 (gcd2 (W (-a)) b) c = g3 a b c := by simp only [nl, nr, nc, g3]
      have h' : d.tmod (gcd2 (gcd2 (W (-a)) b) c) < 0 := h
      rw [hg] at h'
      refine Eq.trans (b := some (Value.agg #[.int .i64 (W (a.tdiv (gcd2 (gcd2 (W (-a)) b) c))), .int .i64 (W (b.tdiv (gcd2 (gcd2 (W (-a)) b) c))), .int .i64 (W (c.tdiv (gcd2 (gcd2 (W (-a)) b) c))), .int .i64 (W (W (d.tdiv (gcd2 (gcd2 (W (-a)) b) c)) - 1))])) rfl ?_
      rw [hg, flo_pos h']
    · have hg : gcd2 (gcd2 (W (-a)) b) c = g3 a b c := by simp only [nl, nr, nc, g3]
      have h' : 0 ≤ d.tmod (gcd2 (gcd2 (W (-a)) b) c) := h
      rw [hg] at h'
      refine Eq.trans (b := some (Value.agg #[.int .i64 (W (a.tdiv (gcd2 (gcd2 (W (-a)) b) c))), .int .i64 (W (b.tdiv (gcd2 (gcd2 (W (-a)) b) c))), .int .i64 (W (c.tdiv (gcd2 (gcd2 (W (-a)) b) c))), .int .i64 (W (d.tdiv (gcd2 (gcd2 (W (-a)) b) c)))])) rfl ?_
      rw [hg, flo_neg h']
    · have hg : gcd2 (gcd2 a (W (-b))) (W (-c)) = g3 a b c := by simp only [nl, nr, nc, g3]
      have h' : d.tmod (gcd2 (gcd2 a (W (-b))) (W (-c))) < 0 := h
      rw [hg] at h'
      refine Eq.trans (b := some (Value.agg #[.int .i64 (W (a.tdiv (gcd2 (gcd2 a (W (-b))) (W (-c))))), .int .i64 (W (b.tdiv (gcd2 (gcd2 a (W (-b))) (W (-c))))), .int .i64 (W (c.tdiv (gcd2 (gcd2 a (W (-b))) (W (-c))))), .int .i64 (W (W (d.tdiv (gcd2 (gcd2 a (W (-b))) (W (-c)))) - 1))])) rfl ?_
      rw [hg, flo_pos h']
    · have hg : gcd2 (gcd2 a (W (-b))) (W (-c)) = g3 a b c := by simp only [nl, nr, nc, g3]
      have h' : 0 ≤ d.tmod (gcd2 (gcd2 a (W (-b))) (W (-c))) := h
      rw [hg] at h'
      refine Eq.trans (b := some (Value.agg #[.int .i64 (W (a.tdiv (gcd2 (gcd2 a (W (-b))) (W (-c))))), .int .i64 (W (b.tdiv (gcd2 (gcd2 a (W (-b))) (W (-c))))), .int .i64 (W (c.tdiv (gcd2 (gcd2 a (W (-b))) (W (-c))))), .int .i64 (W (d.tdiv (gcd2 (gcd2 a (W (-b))) (W (-c)))))])) rfl ?_
      rw [hg, flo_neg h']
    · have hg : gcd2 (gcd2 a (W (-b))) c = g3 a b c := by simp only [nl, nr, nc, g3]
      have h' : d.tmod (gcd2 (gcd2 a (W (-b))) c) < 0 := h
      rw [hg] at h'
      refine Eq.trans (b := some (Value.agg #[.int .i64 (W (a.tdiv (gcd2 (gcd2 a (W (-b))) c))), .int .i64 (W (b.tdiv (gcd2 (gcd2 a (W (-b))) c))), .int .i64 (W (c.tdiv (gcd2 (gcd2 a (W (-b))) c))), .int .i64 (W (W (d.tdiv (gcd2 (gcd2 a (W (-b))) c)) - 1))])) rfl ?_
      rw [hg, flo_pos h']
    · have hg : gcd2 (gcd2 a (W (-b))) c = g3 a b c := by simp only [nl, nr, nc, g3]
      have h' : 0 ≤ d.tmod (gcd2 (gcd2 a (W (-b))) c) := h
      rw [hg] at h'
      refine Eq.trans (b := some (Value.agg #[.int .i64 (W (a.tdiv (gcd2 (gcd2 a (W (-b))) c))), .int .i64 (W (b.tdiv (gcd2 (gcd2 a (W (-b))) c))), .int .i64 (W (c.tdiv (gcd2 (gcd2 a (W (-b))) c))), .int .i64 (W (d.tdiv (gcd2 (gcd2 a (W (-b))) c)))])) rfl ?_
      rw [hg, flo_neg h']
    · have hg : gcd2 (gcd2 a b) (W (-c)) = g3 a b c := by simp only [nl, nr, nc, g3]
      have h' : d.tmod (gcd2 (gcd2 a b) (W (-c))) < 0 := h
      rw [hg] at h'
      refine Eq.trans (b := some (Value.agg #[.int .i64 (W (a.tdiv (gcd2 (gcd2 a b) (W (-c))))), .int .i64 (W (b.tdiv (gcd2 (gcd2 a b) (W (-c))))), .int .i64 (W (c.tdiv (gcd2 (gcd2 a b) (W (-c))))), .int .i64 (W (W (d.tdiv (gcd2 (gcd2 a b) (W (-c)))) - 1))])) rfl ?_
      rw [hg, flo_pos h']
    · have hg : gcd2 (gcd2 a b) (W (-c)) = g3 a b c := by simp only [nl, nr, nc, g3]
      have h' : 0 ≤ d.tmod (gcd2 (gcd2 a b) (W (-c))) := h
      rw [hg] at h'
      refine Eq.trans (b := some (Value.agg #[.int .i64 (W (a.tdiv (gcd2 (gcd2 a b) (W (-c))))), .int .i64 (W (b.tdiv (gcd2 (gcd2 a b) (W (-c))))), .int .i64 (W (c.tdiv (gcd2 (gcd2 a b) (W (-c))))), .int .i64 (W (d.tdiv (gcd2 (gcd2 a b) (W (-c)))))])) rfl ?_
      rw [hg, flo_neg h']
    · have hg : gcd2 (gcd2 a b) c = g3 a b c := by simp only [nl, nr, nc, g3]
      have h' : d.tmod (gcd2 (gcd2 a b) c) < 0 := h
      rw [hg] at h'
      refine Eq.trans (b := some (Value.agg #[.int .i64 (W (a.tdiv (gcd2 (gcd2 a b) c))), .int .i64 (W (b.tdiv (gcd2 (gcd2 a b) c))), .int .i64 (W (c.tdiv (gcd2 (gcd2 a b) c))), .int .i64 (W (W (d.tdiv (gcd2 (gcd2 a b) c)) - 1))])) rfl ?_
      rw [hg, flo_pos h']
    · have hg : gcd2 (gcd2 a b) c = g3 a b c := by simp only [nl, nr, nc, g3]
      have h' : 0 ≤ d.tmod (gcd2 (gcd2 a b) c) := h
      rw [hg] at h'
      refine Eq.trans (b := some (Value.agg #[.int .i64 (W (a.tdiv (gcd2 (gcd2 a b) c))), .int .i64 (W (b.tdiv (gcd2 (gcd2 a b) c))), .int .i64 (W (c.tdiv (gcd2 (gcd2 a b) c))), .int .i64 (W (d.tdiv (gcd2 (gcd2 a b) c)))])) rfl ?_
      rw [hg, flo_neg h']

def plConsN : List Con := planeNormalC :: rNormalC :: plCons
theorem plConsN_ok (S : Val K64) (hf : S.fv = plF.fv) (hp : S.pv = plF.pv) : ∀ c ∈ plConsN, ConOK Try.prog S anyW c := by
  intro c hc
  simp only [plConsN, List.mem_cons] at hc
  rcases hc with rfl | rfl | hc
  · exact planeNormalC_ok hf hp
  · exact rNormalC_ok hf hp
  · exact plCons_ok S hf hp c (by simpa only [plCons, List.mem_cons, List.not_mem_nil, or_false] using hc)
end Go.Proofs.Ytopjcpdhfohccaa
