/- Layer 7 (plane): contracts of the hulls. -/
import Derived.Test.YtopjcpdhfohccaaPlA
namespace Go.Proofs.Ytopjcpdhfohccaa
open Go.RowKit Go.Ev
set_option linter.unusedSimpArgs false
set_option maxRecDepth 100000

def TrLeast : Tr :=
(.br (.lt (.lit .i64 0) (.v 0))
 (.leaf (.sy (.bin .mul .i64 (.v 0) (.bin .add .i64 (.v 1) (.lit .i64 1)))))
 (.leaf (.sy (.bin .mul .i64 (.v 0) (.bin .sub .i64 (.v 2) (.lit .i64 1))))))
def rLeastC : Con := ⟨51, [.i .i64, .i .i64, .i .i64], [.i 5], []⟩
theorem rLeastC_ok {S : Val K64} (hf : S.fv = plF.fv) (hp : S.pv = plF.pv) : ConOK Try.prog S anyW rLeastC := by
  refine con_of hf hp (by kernel_rfl) mixed (cons := []) (eqs := plEqs) (fun _ _ _ _ h => by cases h) plEqs_ok (n := 300) (args := [.sy (.v 0), .sy (.v 1), .sy (.v 2)]) (T := TrLeast) (fun S => by kernel_rfl) ?_ ?_
  · intro zs h hl
    obtain ⟨f, lo, hi, rfl⟩ := len3 hl
    rfl
  · intro zs h hl _
    obtain ⟨f, lo, hi, rfl⟩ := len3 hl
    unfold TrLeast
    refine br_val (fun h => ?_) (fun h => ?_)
    · simp only [at_lt_t, at_lt_f, at_eq_t, at_eq_f, tv, val64_vv, List.getD_cons_zero, List.getD_cons_succ] at h
      show some (Value.int .i64 (W (f * W (lo + 1)))) = some (Value.int .i64 (lst f lo hi))
      rw [lst, if_pos h]
    · simp only [at_lt_t, at_lt_f, at_eq_t, at_eq_f, tv, val64_vv, List.getD_cons_zero, List.getD_cons_succ] at h
      show some (Value.int .i64 (W (f * W (hi - 1)))) = some (Value.int .i64 (lst f lo hi))
      rw [lst, if_neg (by omega)]

def TrSpan : Tr :=
(.br (.lt (.v 0) (.lit .i64 0))
(.br (.lt (.bin .rem .i64 (.v 3) (.neg .i64 (.v 0))) (.lit .i64 0))
 (.leaf (.tup [(.sy (.bin .mn .i64 (.v 2) (.bin .mx .i64 (.v 1) (.neg .i64 (.bin .sub .i64 (.bin .quo .i64 (.v 3) (.neg .i64 (.v 0))) (.lit .i64 1)))))), (.sy (.v 2))]))
 (.leaf (.tup [(.sy (.bin .mn .i64 (.v 2) (.bin .mx .i64 (.v 1) (.neg .i64 (.bin .quo .i64 (.v 3) (.neg .i64 (.v 0))))))), (.sy (.v 2))])))
(.br (.eq (.v 0) (.lit .i64 0))
 (.leaf (.tup [(.sy (.v 1)), (.sy (.v 2))]))
 (.br (.lt (.lit .i64 0) (.v 0))
 (.br (.lt (.bin .rem .i64 (.v 3) (.v 0)) (.lit .i64 0))
 (.leaf (.tup [(.sy (.v 1)), (.sy (.bin .mx .i64 (.v 1) (.bin .mn .i64 (.v 2) (.bin .sub .i64 (.bin .quo .i64 (.v 3) (.v 0)) (.lit .i64 1)))))]))
 (.leaf (.tup [(.sy (.v 1)), (.sy (.bin .mx .i64 (.v 1) (.bin .mn .i64 (.v 2) (.bin .quo .i64 (.v 3) (.v 0)))))])))
 (.leaf (.clo (.bool true)))))
)
def rSpanC : Con := ⟨52, [.i .i64, .i .i64, .i .i64, .i .i64], [.i 6, .i 7], [.bd 0 .i64 (-1000) 1000]⟩
def bdA (i : Nat) : Path := [(.lt (.v i) (.lit .i64 (-1000)), false), (.lt (.lit .i64 1000) (.v i), false)]
theorem sat_bdA {S : Val K64} {i : Nat} {π : Path} (h : -1000 ≤ S.vv i ∧ S.vv i ≤ 1000) (hs : Sat S π) : Sat S (bdA i ++ π) :=
  sat_cons (at_lt_f.2 (by simp only [tv]; omega)) (sat_cons (at_lt_f.2 (by simp only [tv]; omega)) hs)
theorem W_mn {a b : Int} (ha : W a = a) (hb : W b = b) : W (mn2 a b) = mn2 a b := by unfold mn2; split <;> assumption
theorem W_mx {a b : Int} (ha : W a = a) (hb : W b = b) : W (mx2 a b) = mx2 a b := by unfold mx2; split <;> assumption
theorem flo_pos {r f : Int} (h : r.tmod f < 0) : flo r f = W (W (r.tdiv f) - 1) := by rw [flo, if_pos h]
theorem flo_neg {r f : Int} (h : 0 ≤ r.tmod f) : flo r f = W (r.tdiv f) := by rw [flo, if_neg (by omega)]
theorem flo_r (r f : Int) : W (flo r f) = flo r f := by unfold flo W; split <;> exact wrap_wrap _ _
theorem rSpanC_ok {S : Val K64} (hf : S.fv = plF.fv) (hp : S.pv = plF.pv) : ConOK Try.prog S anyW rSpanC := by
  refine con_from hf hp (by kernel_rfl) mixed (cons := []) (eqs := plEqs) (fun _ _ _ _ h => by cases h) plEqs_ok (n := 300) (args := [.sy (.v 0), .sy (.v 1), .sy (.v 2), .sy (.v 3)]) (T := TrSpan) (bdA 0) (fun S => by kernel_rfl) ?_ ?_
  · intro zs h hl
    obtain ⟨f, lo, hi, r, rfl⟩ := len4 hl
    rfl
  · intro zs h hl hpre
    obtain ⟨f, lo, hi, r, rfl⟩ := len4 hl
    have hb : -1000 ≤ f ∧ f ≤ 1000 := hpre (.bd 0 .i64 (-1000) 1000) (by simp [rSpanC])
    have wl : W lo = lo := wrap_R64.2 (h lo (by simp))
    have wh : W hi = hi := wrap_R64.2 (h hi (by simp))
    refine ⟨sat_bdA (i := 0) (π := []) hb sat_nil, ?_⟩
    unfold TrSpan
    show _ = some (Value.tuple #[.int .i64 (W (sp0 f lo hi r)), .int .i64 (W (sp1 f lo hi r))])
    repeat' ((with_reducible refine br_val ?_ ?_) <;> (intro h; simp only [at_lt_t, at_lt_f, at_eq_t, at_eq_f, at_p, tv, row, binV, val64_vv, val64_fv, val64_pv, fv0, fv1, fv2, fv3, fv4, fv5, fv6, fv7, fv8, fv10, fv11, fv12, fv13, fv14, fv15, fv16, fv20, fv21, fv22, fv23, pv0, pv1, List.getD_cons_zero, List.getD_cons_succ] at h))
    · rw [sp0, sp1, if_neg (by omega), if_neg (by omega), if_neg (by omega), if_neg (by omega), wh, W_mn wh (W_mx wl (wrap_wrap _ _)), flo_pos h]
      rfl
    · rw [sp0, sp1, if_neg (by omega), if_neg (by omega), if_neg (by omega), if_neg (by omega), wh, W_mn wh (W_mx wl (wrap_wrap _ _)), flo_neg h]
      rfl
    · rw [sp0, sp1, if_pos h, if_pos h, wl, wh]
      rfl
    · rename_i h3 h2 h1
      rw [sp0, sp1, if_neg h2, if_neg h2, if_pos h1, if_pos h1, wl, W_mx wl (W_mn wh (flo_r _ _)), flo_pos h]
      rfl
    · rename_i h3 h2 h1
      rw [sp0, sp1, if_neg h2, if_neg h2, if_pos h1, if_pos h1, wl, W_mx wl (W_mn wh (flo_r _ _)), flo_neg h]
      rfl
    · rename_i h3 h2 h1
      exfalso; omega

def okP : Path := [(.eq (.fn 0 (.cons (.v 0) (.cons (.v 1) (.cons (.v 2) (.cons (.v 3) .nil))))) (.lit .i64 0), true), (.eq (.fn 2 (.cons (.v 4) (.cons (.v 5) (.cons (.v 6) (.cons (.v 7) (.cons (.v 8) (.cons (.v 9) .nil))))))) (.lit .i64 0), true)]
def hullR : List RP := [.agg [10, 11, 12, 13, 14, 15], .i 16]
def planeHullC : Con := ⟨28, [s4, s6], hullR, okHB⟩
def TplaneHull : Tr :=
(.br (.lt (.lit .i64 0) (.v 0))
 (.br (.lt (.lit .i64 0) (.v 1))
 (.br (.lt (.lit .i64 0) (.v 2))
 (.br (.lt (.lit .i64 0) (.fn 4 (.cons (.v 0) (.cons (.v 1) (.cons (.v 2) (.cons (.v 3) (.cons (.v 4) (.cons (.v 5) (.cons (.v 6) (.cons (.bin .add .i64 (.v 4) (.lit .i64 1)) (.cons (.bin .add .i64 (.v 5) (.lit .i64 1)) (.cons (.bin .add .i64 (.v 6) (.lit .i64 1)) .nil))))))))))))
 (.leaf (.clo (.tuple ⟨[(.agg ⟨[(.int .i64 0), (.int .i64 0), (.int .i64 0), (.int .i64 0), (.int .i64 0), (.int .i64 0)]⟩), (.int .i64 9)]⟩)))
 (.leaf (.tup [(.agg [(.sy (.v 4)), (.sy (.v 5)), (.sy (.v 6)), (.sy (.bin .mn .i64 (.v 7) (.bin .sub .i64 (.bin .add .i64 (.v 4) (.lit .i64 1)) (.bin .quo .i64 (.fn 4 (.cons (.v 0) (.cons (.v 1) (.cons (.v 2) (.cons (.v 3) (.cons (.v 4) (.cons (.v 5) (.cons (.v 6) (.cons (.bin .add .i64 (.v 4) (.lit .i64 1)) (.cons (.bin .add .i64 (.v 5) (.lit .i64 1)) (.cons (.bin .add .i64 (.v 6) (.lit .i64 1)) .nil))))))))))) (.v 0))))), (.sy (.bin .mn .i64 (.v 8) (.bin .sub .i64 (.bin .add .i64 (.v 5) (.lit .i64 1)) (.bin .quo .i64 (.fn 4 (.cons (.v 0) (.cons (.v 1) (.cons (.v 2) (.cons (.v 3) (.cons (.v 4) (.cons (.v 5) (.cons (.v 6) (.cons (.bin .add .i64 (.v 4) (.lit .i64 1)) (.cons (.bin .add .i64 (.v 5) (.lit .i64 1)) (.cons (.bin .add .i64 (.v 6) (.lit .i64 1)) .nil))))))))))) (.v 1))))), (.sy (.bin .mn .i64 (.v 9) (.bin .sub .i64 (.bin .add .i64 (.v 6) (.lit .i64 1)) (.bin .quo .i64 (.fn 4 (.cons (.v 0) (.cons (.v 1) (.cons (.v 2) (.cons (.v 3) (.cons (.v 4) (.cons (.v 5) (.cons (.v 6) (.cons (.bin .add .i64 (.v 4) (.lit .i64 1)) (.cons (.bin .add .i64 (.v 5) (.lit .i64 1)) (.cons (.bin .add .i64 (.v 6) (.lit .i64 1)) .nil))))))))))) (.v 2)))))]), (.clo (.int .i64 0))])))
 (.br (.lt (.v 2) (.lit .i64 0))
 (.br (.lt (.lit .i64 0) (.fn 4 (.cons (.v 0) (.cons (.v 1) (.cons (.v 2) (.cons (.v 3) (.cons (.v 4) (.cons (.v 5) (.cons (.bin .sub .i64 (.v 9) (.lit .i64 1)) (.cons (.bin .add .i64 (.v 4) (.lit .i64 1)) (.cons (.bin .add .i64 (.v 5) (.lit .i64 1)) (.cons (.v 9) .nil))))))))))))
 (.leaf (.clo (.tuple ⟨[(.agg ⟨[(.int .i64 0), (.int .i64 0), (.int .i64 0), (.int .i64 0), (.int .i64 0), (.int .i64 0)]⟩), (.int .i64 9)]⟩)))
 (.leaf (.tup [(.agg [(.sy (.v 4)), (.sy (.v 5)), (.sy (.bin .mx .i64 (.v 6) (.bin .sub .i64 (.bin .sub .i64 (.v 9) (.lit .i64 1)) (.bin .quo .i64 (.fn 4 (.cons (.v 0) (.cons (.v 1) (.cons (.v 2) (.cons (.v 3) (.cons (.v 4) (.cons (.v 5) (.cons (.bin .sub .i64 (.v 9) (.lit .i64 1)) (.cons (.bin .add .i64 (.v 4) (.lit .i64 1)) (.cons (.bin .add .i64 (.v 5) (.lit .i64 1)) (.cons (.v 9) .nil))))))))))) (.v 2))))), (.sy (.bin .mn .i64 (.v 7) (.bin .sub .i64 (.bin .add .i64 (.v 4) (.lit .i64 1)) (.bin .quo .i64 (.fn 4 (.cons (.v 0) (.cons (.v 1) (.cons (.v 2) (.cons (.v 3) (.cons (.v 4) (.cons (.v 5) (.cons (.bin .sub .i64 (.v 9) (.lit .i64 1)) (.cons (.bin .add .i64 (.v 4) (.lit .i64 1)) (.cons (.bin .add .i64 (.v 5) (.lit .i64 1)) (.cons (.v 9) .nil))))))))))) (.v 0))))), (.sy (.bin .mn .i64 (.v 8) (.bin .sub .i64 (.bin .add .i64 (.v 5) (.lit .i64 1)) (.bin .quo .i64 (.fn 4 (.cons (.v 0) (.cons (.v 1) (.cons (.v 2) (.cons (.v 3) (.cons (.v 4) (.cons (.v 5) (.cons (.bin .sub .i64 (.v 9) (.lit .i64 1)) (.cons (.bin .add .i64 (.v 4) (.lit .i64 1)) (.cons (.bin .add .i64 (.v 5) (.lit .i64 1)) (.cons (.v 9) .nil))))))))))) (.v 1))))), (.sy (.v 9))]), (.clo (.int .i64 0))])))
 (.br (.lt (.lit .i64 0) (.fn 4 (.cons (.v 0) (.cons (.v 1) (.cons (.v 2) (.cons (.v 3) (.cons (.v 4) (.cons (.v 5) (.cons (.v 6) (.cons (.bin .add .i64 (.v 4) (.lit .i64 1)) (.cons (.bin .add .i64 (.v 5) (.lit .i64 1)) (.cons (.v 9) .nil))))))))))))
 (.leaf (.clo (.tuple ⟨[(.agg ⟨[(.int .i64 0), (.int .i64 0), (.int .i64 0), (.int .i64 0), (.int .i64 0), (.int .i64 0)]⟩), (.int .i64 9)]⟩)))
 (.leaf (.tup [(.agg [(.sy (.v 4)), (.sy (.v 5)), (.sy (.v 6)), (.sy (.bin .mn .i64 (.v 7) (.bin .sub .i64 (.bin .add .i64 (.v 4) (.lit .i64 1)) (.bin .quo .i64 (.fn 4 (.cons (.v 0) (.cons (.v 1) (.cons (.v 2) (.cons (.v 3) (.cons (.v 4) (.cons (.v 5) (.cons (.v 6) (.cons (.bin .add .i64 (.v 4) (.lit .i64 1)) (.cons (.bin .add .i64 (.v 5) (.lit .i64 1)) (.cons (.v 9) .nil))))))))))) (.v 0))))), (.sy (.bin .mn .i64 (.v 8) (.bin .sub .i64 (.bin .add .i64 (.v 5) (.lit .i64 1)) (.bin .quo .i64 (.fn 4 (.cons (.v 0) (.cons (.v 1) (.cons (.v 2) (.cons (.v 3) (.cons (.v 4) (.cons (.v 5) (.cons (.v 6) (.cons (.bin .add .i64 (.v 4) (.lit .i64 1)) (.cons (.bin .add .i64 (.v 5) (.lit .i64 1)) (.cons (.v 9) .nil))))))))))) (.v 1))))), (.sy (.v 9))]), (.clo (.int .i64 0))])))))
 (.br (.lt (.v 1) (.lit .i64 0))
 (.br (.lt (.lit .i64 0) (.v 2))
 (.br (.lt (.lit .i64 0) (.fn 4 (.cons (.v 0) (.cons (.v 1) (.cons (.v 2) (.cons (.v 3) (.cons (.v 4) (.cons (.bin .sub .i64 (.v 8) (.lit .i64 1)) (.cons (.v 6) (.cons (.bin .add .i64 (.v 4) (.lit .i64 1)) (.cons (.v 8) (.cons (.bin .add .i64 (.v 6) (.lit .i64 1)) .nil))))))))))))
 (.leaf (.clo (.tuple ⟨[(.agg ⟨[(.int .i64 0), (.int .i64 0), (.int .i64 0), (.int .i64 0), (.int .i64 0), (.int .i64 0)]⟩), (.int .i64 9)]⟩)))
 (.leaf (.tup [(.agg [(.sy (.v 4)), (.sy (.bin .mx .i64 (.v 5) (.bin .sub .i64 (.bin .sub .i64 (.v 8) (.lit .i64 1)) (.bin .quo .i64 (.fn 4 (.cons (.v 0) (.cons (.v 1) (.cons (.v 2) (.cons (.v 3) (.cons (.v 4) (.cons (.bin .sub .i64 (.v 8) (.lit .i64 1)) (.cons (.v 6) (.cons (.bin .add .i64 (.v 4) (.lit .i64 1)) (.cons (.v 8) (.cons (.bin .add .i64 (.v 6) (.lit .i64 1)) .nil))))))))))) (.v 1))))), (.sy (.v 6)), (.sy (.bin .mn .i64 (.v 7) (.bin .sub .i64 (.bin .add .i64 (.v 4) (.lit .i64 1)) (.bin .quo .i64 (.fn 4 (.cons (.v 0) (.cons (.v 1) (.cons (.v 2) (.cons (.v 3) (.cons (.v 4) (.cons (.bin .sub .i64 (.v 8) (.lit .i64 1)) (.cons (.v 6) (.cons (.bin .add .i64 (.v 4) (.lit .i64 1)) (.cons (.v 8) (.cons (.bin .add .i64 (.v 6) (.lit .i64 1)) .nil))))))))))) (.v 0))))), (.sy (.v 8)), (.sy (.bin .mn .i64 (.v 9) (.bin .sub .i64 (.bin .add .i64 (.v 6) (.lit .i64 1)) (.bin .quo .i64 (.fn 4 (.cons (.v 0) (.cons (.v 1) (.cons (.v 2) (.cons (.v 3) (.cons (.v 4) (.cons (.bin .sub .i64 (.v 8) (.lit .i64 1)) (.cons (.v 6) (.cons (.bin .add .i64 (.v 4) (.lit .i64 1)) (.cons (.v 8) (.cons (.bin .add .i64 (.v 6) (.lit .i64 1)) .nil))))))))))) (.v 2)))))]), (.clo (.int .i64 0))])))
 (.br (.lt (.v 2) (.lit .i64 0))
 (.br (.lt (.lit .i64 0) (.fn 4 (.cons (.v 0) (.cons (.v 1) (.cons (.v 2) (.cons (.v 3) (.cons (.v 4) (.cons (.bin .sub .i64 (.v 8) (.lit .i64 1)) (.cons (.bin .sub .i64 (.v 9) (.lit .i64 1)) (.cons (.bin .add .i64 (.v 4) (.lit .i64 1)) (.cons (.v 8) (.cons (.v 9) .nil))))))))))))
 (.leaf (.clo (.tuple ⟨[(.agg ⟨[(.int .i64 0), (.int .i64 0), (.int .i64 0), (.int .i64 0), (.int .i64 0), (.int .i64 0)]⟩), (.int .i64 9)]⟩)))
 (.leaf (.tup [(.agg [(.sy (.v 4)), (.sy (.bin .mx .i64 (.v 5) (.bin .sub .i64 (.bin .sub .i64 (.v 8) (.lit .i64 1)) (.bin .quo .i64 (.fn 4 (.cons (.v 0) (.cons (.v 1) (.cons (.v 2) (.cons (.v 3) (.cons (.v 4) (.cons (.bin .sub .i64 (.v 8) (.lit .i64 1)) (.cons (.bin .sub .i64 (.v 9) (.lit .i64 1)) (.cons (.bin .add .i64 (.v 4) (.lit .i64 1)) (.cons (.v 8) (.cons (.v 9) .nil))))))))))) (.v 1))))), (.sy (.bin .mx .i64 (.v 6) (.bin .sub .i64 (.bin .sub .i64 (.v 9) (.lit .i64 1)) (.bin .quo .i64 (.fn 4 (.cons (.v 0) (.cons (.v 1) (.cons (.v 2) (.cons (.v 3) (.cons (.v 4) (.cons (.bin .sub .i64 (.v 8) (.lit .i64 1)) (.cons (.bin .sub .i64 (.v 9) (.lit .i64 1)) (.cons (.bin .add .i64 (.v 4) (.lit .i64 1)) (.cons (.v 8) (.cons (.v 9) .nil))))))))))) (.v 2))))), (.sy (.bin .mn .i64 (.v 7) (.bin .sub .i64 (.bin .add .i64 (.v 4) (.lit .i64 1)) (.bin .quo .i64 (.fn 4 (.cons (.v 0) (.cons (.v 1) (.cons (.v 2) (.cons (.v 3) (.cons (.v 4) (.cons (.bin .sub .i64 (.v 8) (.lit .i64 1)) (.cons (.bin .sub .i64 (.v 9) (.lit .i64 1)) (.cons (.bin .add .i64 (.v 4) (.lit .i64 1)) (.cons (.v 8) (.cons (.v 9) .nil))))))))))) (.v 0))))), (.sy (.v 8)), (.sy (.v 9))]), (.clo (.int .i64 0))])))
 (.br (.lt (.lit .i64 0) (.fn 4 (.cons (.v 0) (.cons (.v 1) (.cons (.v 2) (.cons (.v 3) (.cons (.v 4) (.cons (.bin .sub .i64 (.v 8) (.lit .i64 1)) (.cons (.v 6) (.cons (.bin .add .i64 (.v 4) (.lit .i64 1)) (.cons (.v 8) (.cons (.v 9) .nil))))))))))))
 (.leaf (.clo (.tuple ⟨[(.agg ⟨[(.int .i64 0), (.int .i64 0), (.int .i64 0), (.int .i64 0), (.int .i64 0), (.int .i64 0)]⟩), (.int .i64 9)]⟩)))
 (.leaf (.tup [(.agg [(.sy (.v 4)), (.sy (.bin .mx .i64 (.v 5) (.bin .sub .i64 (.bin .sub .i64 (.v 8) (.lit .i64 1)) (.bin .quo .i64 (.fn 4 (.cons (.v 0) (.cons (.v 1) (.cons (.v 2) (.cons (.v 3) (.cons (.v 4) (.cons (.bin .sub .i64 (.v 8) (.lit .i64 1)) (.cons (.v 6) (.cons (.bin .add .i64 (.v 4) (.lit .i64 1)) (.cons (.v 8) (.cons (.v 9) .nil))))))))))) (.v 1))))), (.sy (.v 6)), (.sy (.bin .mn .i64 (.v 7) (.bin .sub .i64 (.bin .add .i64 (.v 4) (.lit .i64 1)) (.bin .quo .i64 (.fn 4 (.cons (.v 0) (.cons (.v 1) (.cons (.v 2) (.cons (.v 3) (.cons (.v 4) (.cons (.bin .sub .i64 (.v 8) (.lit .i64 1)) (.cons (.v 6) (.cons (.bin .add .i64 (.v 4) (.lit .i64 1)) (.cons (.v 8) (.cons (.v 9) .nil))))))))))) (.v 0))))), (.sy (.v 8)), (.sy (.v 9))]), (.clo (.int .i64 0))])))))
 (.br (.lt (.lit .i64 0) (.v 2))
 (.br (.lt (.lit .i64 0) (.fn 4 (.cons (.v 0) (.cons (.v 1) (.cons (.v 2) (.cons (.v 3) (.cons (.v 4) (.cons (.v 5) (.cons (.v 6) (.cons (.bin .add .i64 (.v 4) (.lit .i64 1)) (.cons (.v 8) (.cons (.bin .add .i64 (.v 6) (.lit .i64 1)) .nil))))))))))))
 (.leaf (.clo (.tuple ⟨[(.agg ⟨[(.int .i64 0), (.int .i64 0), (.int .i64 0), (.int .i64 0), (.int .i64 0), (.int .i64 0)]⟩), (.int .i64 9)]⟩)))
 (.leaf (.tup [(.agg [(.sy (.v 4)), (.sy (.v 5)), (.sy (.v 6)), (.sy (.bin .mn .i64 (.v 7) (.bin .sub .i64 (.bin .add .i64 (.v 4) (.lit .i64 1)) (.bin .quo .i64 (.fn 4 (.cons (.v 0) (.cons (.v 1) (.cons (.v 2) (.cons (.v 3) (.cons (.v 4) (.cons (.v 5) (.cons (.v 6) (.cons (.bin .add .i64 (.v 4) (.lit .i64 1)) (.cons (.v 8) (.cons (.bin .add .i64 (.v 6) (.lit .i64 1)) .nil))))))))))) (.v 0))))), (.sy (.v 8)), (.sy (.bin .mn .i64 (.v 9) (.bin .sub .i64 (.bin .add .i64 (.v 6) (.lit .i64 1)) (.bin .quo .i64 (.fn 4 (.cons (.v 0) (.cons (.v 1) (.cons (.v 2) (.cons (.v 3) (.cons (.v 4) (.cons (.v 5) (.cons (.v 6) (.cons (.bin .add .i64 (.v 4) (.lit .i64 1)) (.cons (.v 8) (.cons (.bin .add .i64 (.v 6) (.lit .i64 1)) .nil))))))))))) (.v 2)))))]), (.clo (.int .i64 0))])))
 (.br (.lt (.v 2) (.lit .i64 0))
 (.br (.lt (.lit .i64 0) (.fn 4 (.cons (.v 0) (.cons (.v 1) (.cons (.v 2) (.cons (.v 3) (.cons (.v 4) (.cons (.v 5) (.cons (.bin .sub .i64 (.v 9) (.lit .i64 1)) (.cons (.bin .add .i64 (.v 4) (.lit .i64 1)) (.cons (.v 8) (.cons (.v 9) .nil))))))))))))
 (.leaf (.clo (.tuple ⟨[(.agg ⟨[(.int .i64 0), (.int .i64 0), (.int .i64 0), (.int .i64 0), (.int .i64 0), (.int .i64 0)]⟩), (.int .i64 9)]⟩)))
 (.leaf (.tup [(.agg [(.sy (.v 4)), (.sy (.v 5)), (.sy (.bin .mx .i64 (.v 6) (.bin .sub .i64 (.bin .sub .i64 (.v 9) (.lit .i64 1)) (.bin .quo .i64 (.fn 4 (.cons (.v 0) (.cons (.v 1) (.cons (.v 2) (.cons (.v 3) (.cons (.v 4) (.cons (.v 5) (.cons (.bin .sub .i64 (.v 9) (.lit .i64 1)) (.cons (.bin .add .i64 (.v 4) (.lit .i64 1)) (.cons (.v 8) (.cons (.v 9) .nil))))))))))) (.v 2))))), (.sy (.bin .mn .i64 (.v 7) (.bin .sub .i64 (.bin .add .i64 (.v 4) (.lit .i64 1)) (.bin .quo .i64 (.fn 4 (.cons (.v 0) (.cons (.v 1) (.cons (.v 2) (.cons (.v 3) (.cons (.v 4) (.cons (.v 5) (.cons (.bin .sub .i64 (.v 9) (.lit .i64 1)) (.cons (.bin .add .i64 (.v 4) (.lit .i64 1)) (.cons (.v 8) (.cons (.v 9) .nil))))))))))) (.v 0))))), (.sy (.v 8)), (.sy (.v 9))]), (.clo (.int .i64 0))])))
 (.br (.lt (.lit .i64 0) (.fn 4 (.cons (.v 0) (.cons (.v 1) (.cons (.v 2) (.cons (.v 3) (.cons (.v 4) (.cons (.v 5) (.cons (.v 6) (.cons (.bin .add .i64 (.v 4) (.lit .i64 1)) (.cons (.v 8) (.cons (.v 9) .nil))))))))))))
 (.leaf (.clo (.tuple ⟨[(.agg ⟨[(.int .i64 0), (.int .i64 0), (.int .i64 0), (.int .i64 0), (.int .i64 0), (.int .i64 0)]⟩), (.int .i64 9)]⟩)))
 (.leaf (.tup [(.agg [(.sy (.v 4)), (.sy (.v 5)), (.sy (.v 6)), (.sy (.bin .mn .i64 (.v 7) (.bin .sub .i64 (.bin .add .i64 (.v 4) (.lit .i64 1)) (.bin .quo .i64 (.fn 4 (.cons (.v 0) (.cons (.v 1) (.cons (.v 2) (.cons (.v 3) (.cons (.v 4) (.cons (.v 5) (.cons (.v 6) (.cons (.bin .add .i64 (.v 4) (.lit .i64 1)) (.cons (.v 8) (.cons (.v 9) .nil))))))))))) (.v 0))))), (.sy (.v 8)), (.sy (.v 9))]), (.clo (.int .i64 0))])))))))
 (.br (.lt (.v 0) (.lit .i64 0))
 (.br (.lt (.lit .i64 0) (.v 1))
 (.br (.lt (.lit .i64 0) (.v 2))
 (.br (.lt (.lit .i64 0) (.fn 4 (.cons (.v 0) (.cons (.v 1) (.cons (.v 2) (.cons (.v 3) (.cons (.bin .sub .i64 (.v 7) (.lit .i64 1)) (.cons (.v 5) (.cons (.v 6) (.cons (.v 7) (.cons (.bin .add .i64 (.v 5) (.lit .i64 1)) (.cons (.bin .add .i64 (.v 6) (.lit .i64 1)) .nil))))))))))))
 (.leaf (.clo (.tuple ⟨[(.agg ⟨[(.int .i64 0), (.int .i64 0), (.int .i64 0), (.int .i64 0), (.int .i64 0), (.int .i64 0)]⟩), (.int .i64 9)]⟩)))
 (.leaf (.tup [(.agg [(.sy (.bin .mx .i64 (.v 4) (.bin .sub .i64 (.bin .sub .i64 (.v 7) (.lit .i64 1)) (.bin .quo .i64 (.fn 4 (.cons (.v 0) (.cons (.v 1) (.cons (.v 2) (.cons (.v 3) (.cons (.bin .sub .i64 (.v 7) (.lit .i64 1)) (.cons (.v 5) (.cons (.v 6) (.cons (.v 7) (.cons (.bin .add .i64 (.v 5) (.lit .i64 1)) (.cons (.bin .add .i64 (.v 6) (.lit .i64 1)) .nil))))))))))) (.v 0))))), (.sy (.v 5)), (.sy (.v 6)), (.sy (.v 7)), (.sy (.bin .mn .i64 (.v 8) (.bin .sub .i64 (.bin .add .i64 (.v 5) (.lit .i64 1)) (.bin .quo .i64 (.fn 4 (.cons (.v 0) (.cons (.v 1) (.cons (.v 2) (.cons (.v 3) (.cons (.bin .sub .i64 (.v 7) (.lit .i64 1)) (.cons (.v 5) (.cons (.v 6) (.cons (.v 7) (.cons (.bin .add .i64 (.v 5) (.lit .i64 1)) (.cons (.bin .add .i64 (.v 6) (.lit .i64 1)) .nil))))))))))) (.v 1))))), (.sy (.bin .mn .i64 (.v 9) (.bin .sub .i64 (.bin .add .i64 (.v 6) (.lit .i64 1)) (.bin .quo .i64 (.fn 4 (.cons (.v 0) (.cons (.v 1) (.cons (.v 2) (.cons (.v 3) (.cons (.bin .sub .i64 (.v 7) (.lit .i64 1)) (.cons (.v 5) (.cons (.v 6) (.cons (.v 7) (.cons (.bin .add .i64 (.v 5) (.lit .i64 1)) (.cons (.bin .add .i64 (.v 6) (.lit .i64 1)) .nil))))))))))) (.v 2)))))]), (.clo (.int .i64 0))])))
 (.br (.lt (.v 2) (.lit .i64 0))
 (.br (.lt (.lit .i64 0) (.fn 4 (.cons (.v 0) (.cons (.v 1) (.cons (.v 2) (.cons (.v 3) (.cons (.bin .sub .i64 (.v 7) (.lit .i64 1)) (.cons (.v 5) (.cons (.bin .sub .i64 (.v 9) (.lit .i64 1)) (.cons (.v 7) (.cons (.bin .add .i64 (.v 5) (.lit .i64 1)) (.cons (.v 9) .nil))))))))))))
 (.leaf (.clo (.tuple ⟨[(.agg ⟨[(.int .i64 0), (.int .i64 0), (.int .i64 0), (.int .i64 0), (.int .i64 0), (.int .i64 0)]⟩), (.int .i64 9)]⟩)))
 (.leaf (.tup [(.agg [(.sy (.bin .mx .i64 (.v 4) (.bin .sub .i64 (.bin .sub .i64 (.v 7) (.lit .i64 1)) (.bin .quo .i64 (.fn 4 (.cons (.v 0) (.cons (.v 1) (.cons (.v 2) (.cons (.v 3) (.cons (.bin .sub .i64 (.v 7) (.lit .i64 1)) (.cons (.v 5) (.cons (.bin .sub .i64 (.v 9) (.lit .i64 1)) (.cons (.v 7) (.cons (.bin .add .i64 (.v 5) (.lit .i64 1)) (.cons (.v 9) .nil))))))))))) (.v 0))))), (.sy (.v 5)), (.sy (.bin .mx .i64 (.v 6) (.bin .sub .i64 (.bin .sub .i64 (.v 9) (.lit .i64 1)) (.bin .quo .i64 (.fn 4 (.cons (.v 0) (.cons (.v 1) (.cons (.v 2) (.cons (.v 3) (.cons (.bin .sub .i64 (.v 7) (.lit .i64 1)) (.cons (.v 5) (.cons (.bin .sub .i64 (.v 9) (.lit .i64 1)) (.cons (.v 7) (.cons (.bin .add .i64 (.v 5) (.lit .i64 1)) (.cons (.v 9) .nil))))))))))) (.v 2))))), (.sy (.v 7)), (.sy (.bin .mn .i64 (.v 8) (.bin .sub .i64 (.bin .add .i64 (.v 5) (.lit .i64 1)) (.bin .quo .i64 (.fn 4 (.cons (.v 0) (.cons (.v 1) (.cons (.v 2) (.cons (.v 3) (.cons (.bin .sub .i64 (.v 7) (.lit .i64 1)) (.cons (.v 5) (.cons (.bin .sub .i64 (.v 9) (.lit .i64 1)) (.cons (.v 7) (.cons (.bin .add .i64 (.v 5) (.lit .i64 1)) (.cons (.v 9) .nil))))))))))) (.v 1))))), (.sy (.v 9))]), (.clo (.int .i64 0))])))
 (.br (.lt (.lit .i64 0) (.fn 4 (.cons (.v 0) (.cons (.v 1) (.cons (.v 2) (.cons (.v 3) (.cons (.bin .sub .i64 (.v 7) (.lit .i64 1)) (.cons (.v 5) (.cons (.v 6) (.cons (.v 7) (.cons (.bin .add .i64 (.v 5) (.lit .i64 1)) (.cons (.v 9) .nil))))))))))))
 (.leaf (.clo (.tuple ⟨[(.agg ⟨[(.int .i64 0), (.int .i64 0), (.int .i64 0), (.int .i64 0), (.int .i64 0), (.int .i64 0)]⟩), (.int .i64 9)]⟩)))
 (.leaf (.tup [(.agg [(.sy (.bin .mx .i64 (.v 4) (.bin .sub .i64 (.bin .sub .i64 (.v 7) (.lit .i64 1)) (.bin .quo .i64 (.fn 4 (.cons (.v 0) (.cons (.v 1) (.cons (.v 2) (.cons (.v 3) (.cons (.bin .sub .i64 (.v 7) (.lit .i64 1)) (.cons (.v 5) (.cons (.v 6) (.cons (.v 7) (.cons (.bin .add .i64 (.v 5) (.lit .i64 1)) (.cons (.v 9) .nil))))))))))) (.v 0))))), (.sy (.v 5)), (.sy (.v 6)), (.sy (.v 7)), (.sy (.bin .mn .i64 (.v 8) (.bin .sub .i64 (.bin .add .i64 (.v 5) (.lit .i64 1)) (.bin .quo .i64 (.fn 4 (.cons (.v 0) (.cons (.v 1) (.cons (.v 2) (.cons (.v 3) (.cons (.bin .sub .i64 (.v 7) (.lit .i64 1)) (.cons (.v 5) (.cons (.v 6) (.cons (.v 7) (.cons (.bin .add .i64 (.v 5) (.lit .i64 1)) (.cons (.v 9) .nil))))))))))) (.v 1))))), (.sy (.v 9))]), (.clo (.int .i64 0))])))))
 (.br (.lt (.v 1) (.lit .i64 0))
 (.br (.lt (.lit .i64 0) (.v 2))
 (.br (.lt (.lit .i64 0) (.fn 4 (.cons (.v 0) (.cons (.v 1) (.cons (.v 2) (.cons (.v 3) (.cons (.bin .sub .i64 (.v 7) (.lit .i64 1)) (.cons (.bin .sub .i64 (.v 8) (.lit .i64 1)) (.cons (.v 6) (.cons (.v 7) (.cons (.v 8) (.cons (.bin .add .i64 (.v 6) (.lit .i64 1)) .nil))))))))))))
 (.leaf (.clo (.tuple ⟨[(.agg ⟨[(.int .i64 0), (.int .i64 0), (.int .i64 0), (.int .i64 0), (.int .i64 0), (.int .i64 0)]⟩), (.int .i64 9)]⟩)))
 (.leaf (.tup [(.agg [(.sy (.bin .mx .i64 (.v 4) (.bin .sub .i64 (.bin .sub .i64 (.v 7) (.lit .i64 1)) (.bin .quo .i64 (.fn 4 (.cons (.v 0) (.cons (.v 1) (.cons (.v 2) (.cons (.v 3) (.cons (.bin .sub .i64 (.v 7) (.lit .i64 1)) (.cons (.bin .sub .i64 (.v 8) (.lit .i64 1)) (.cons (.v 6) (.cons (.v 7) (.cons (.v 8) (.cons (.bin .add .i64 (.v 6) (.lit .i64 1)) .nil))))))))))) (.v 0))))), (.sy (.bin .mx .i64 (.v 5) (.bin .sub .i64 (.bin .sub .i64 (.v 8) (.lit .i64 1)) (.bin .quo .i64 (.fn 4 (.cons (.v 0) (.cons (.v 1) (.cons (.v 2) (.cons (.v 3) (.cons (.bin .sub .i64 (.v 7) (.lit .i64 1)) (.cons (.bin .sub .i64 (.v 8) (.lit .i64 1)) (.cons (.v 6) (.cons (.v 7) (.cons (.v 8) (.cons (.bin .add .i64 (.v 6) (.lit .i64 1)) .nil))))))))))) (.v 1))))), (.sy (.v 6)), (.sy (.v 7)), (.sy (.v 8)), (.sy (.bin .mn .i64 (.v 9) (.bin .sub .i64 (.bin .add .i64 (.v 6) (.lit .i64 1)) (.bin .quo .i64 (.fn 4 (.cons (.v 0) (.cons (.v 1) (.cons (.v 2) (.cons (.v 3) (.cons (.bin .sub .i64 (.v 7) (.lit .i64 1)) (.cons (.bin .sub .i64 (.v 8) (.lit .i64 1)) (.cons (.v 6) (.cons (.v 7) (.cons (.v 8) (.cons (.bin .add .i64 (.v 6) (.lit .i64 1)) .nil))))))))))) (.v 2)))))]), (.clo (.int .i64 0))])))
 (.br (.lt (.v 2) (.lit .i64 0))
 (.br (.lt (.lit .i64 0) (.fn 4 (.cons (.v 0) (.cons (.v 1) (.cons (.v 2) (.cons (.v 3) (.cons (.bin .sub .i64 (.v 7) (.lit .i64 1)) (.cons (.bin .sub .i64 (.v 8) (.lit .i64 1)) (.cons (.bin .sub .i64 (.v 9) (.lit .i64 1)) (.cons (.v 7) (.cons (.v 8) (.cons (.v 9) .nil))))))))))))
 (.leaf (.clo (.tuple ⟨[(.agg ⟨[(.int .i64 0), (.int .i64 0), (.int .i64 0), (.int .i64 0), (.int .i64 0), (.int .i64 0)]⟩), (.int .i64 9)]⟩)))
 (.leaf (.tup [(.agg [(.sy (.bin .mx .i64 (.v 4) (.bin .sub .i64 (.bin .sub .i64 (.v 7) (.lit .i64 1)) (.bin .quo .i64 (.fn 4 (.cons (.v 0) (.cons (.v 1) (.cons (.v 2) (.cons (.v 3) (.cons (.bin .sub .i64 (.v 7) (.lit .i64 1)) (.cons (.bin .sub .i64 (.v 8) (.lit .i64 1)) (.cons (.bin .sub .i64 (.v 9) (.lit .i64 1)) (.cons (.v 7) (.cons (.v 8) (.cons (.v 9) .nil))))))))))) (.v 0))))), (.sy (.bin .mx .i64 (.v 5) (.bin .sub .i64 (.bin .sub .i64 (.v 8) (.lit .i64 1)) (.bin .quo .i64 (.fn 4 (.cons (.v 0) (.cons (.v 1) (.cons (.v 2) (.cons (.v 3) (.cons (.bin .sub .i64 (.v 7) (.lit .i64 1)) (.cons (.bin .sub .i64 (.v 8) (.lit .i64 1)) (.cons (.bin .sub .i64 (.v 9) (.lit .i64 1)) (.cons (.v 7) (.cons (.v 8) (.cons (.v 9) .nil))))))))))) (.v 1))))), (.sy (.bin .mx .i64 (.v 6) (.bin .sub .i64 (.bin .sub .i64 (.v 9) (.lit .i64 1)) (.bin .quo .i64 (.fn 4 (.cons (.v 0) (.cons (.v 1) (.cons (.v 2) (.cons (.v 3) (.cons (.bin .sub .i64 (.v 7) (.lit .i64 1)) (.cons (.bin .sub .i64 (.v 8) (.lit .i64 1)) (.cons (.bin .sub .i64 (.v 9) (.lit .i64 1)) (.cons (.v 7) (.cons (.v 8) (.cons (.v 9) .nil))))))))))) (.v 2))))), (.sy (.v 7)), (.sy (.v 8)), (.sy (.v 9))]), (.clo (.int .i64 0))])))
 (.br (.lt (.lit .i64 0) (.fn 4 (.cons (.v 0) (.cons (.v 1) (.cons (.v 2) (.cons (.v 3) (.cons (.bin .sub .i64 (.v 7) (.lit .i64 1)) (.cons (.bin .sub .i64 (.v 8) (.lit .i64 1)) (.cons (.v 6) (.cons (.v 7) (.cons (.v 8) (.cons (.v 9) .nil))))))))))))
 (.leaf (.clo (.tuple ⟨[(.agg ⟨[(.int .i64 0), (.int .i64 0), (.int .i64 0), (.int .i64 0), (.int .i64 0), (.int .i64 0)]⟩), (.int .i64 9)]⟩)))
 (.leaf (.tup [(.agg [(.sy (.bin .mx .i64 (.v 4) (.bin .sub .i64 (.bin .sub .i64 (.v 7) (.lit .i64 1)) (.bin .quo .i64 (.fn 4 (.cons (.v 0) (.cons (.v 1) (.cons (.v 2) (.cons (.v 3) (.cons (.bin .sub .i64 (.v 7) (.lit .i64 1)) (.cons (.bin .sub .i64 (.v 8) (.lit .i64 1)) (.cons (.v 6) (.cons (.v 7) (.cons (.v 8) (.cons (.v 9) .nil))))))))))) (.v 0))))), (.sy (.bin .mx .i64 (.v 5) (.bin .sub .i64 (.bin .sub .i64 (.v 8) (.lit .i64 1)) (.bin .quo .i64 (.fn 4 (.cons (.v 0) (.cons (.v 1) (.cons (.v 2) (.cons (.v 3) (.cons (.bin .sub .i64 (.v 7) (.lit .i64 1)) (.cons (.bin .sub .i64 (.v 8) (.lit .i64 1)) (.cons (.v 6) (.cons (.v 7) (.cons (.v 8) (.cons (.v 9) .nil))))))))))) (.v 1))))), (.sy (.v 6)), (.sy (.v 7)), (.sy (.v 8)), (.sy (.v 9))]), (.clo (.int .i64 0))])))))
 (.br (.lt (.lit .i64 0) (.v 2))
 (.br (.lt (.lit .i64 0) (.fn 4 (.cons (.v 0) (.cons (.v 1) (.cons (.v 2) (.cons (.v 3) (.cons (.bin .sub .i64 (.v 7) (.lit .i64 1)) (.cons (.v 5) (.cons (.v 6) (.cons (.v 7) (.cons (.v 8) (.cons (.bin .add .i64 (.v 6) (.lit .i64 1)) .nil))))))))))))
 (.leaf (.clo (.tuple ⟨[(.agg ⟨[(.int .i64 0), (.int .i64 0), (.int .i64 0), (.int .i64 0), (.int .i64 0), (.int .i64 0)]⟩), (.int .i64 9)]⟩)))
 (.leaf (.tup [(.agg [(.sy (.bin .mx .i64 (.v 4) (.bin .sub .i64 (.bin .sub .i64 (.v 7) (.lit .i64 1)) (.bin .quo .i64 (.fn 4 (.cons (.v 0) (.cons (.v 1) (.cons (.v 2) (.cons (.v 3) (.cons (.bin .sub .i64 (.v 7) (.lit .i64 1)) (.cons (.v 5) (.cons (.v 6) (.cons (.v 7) (.cons (.v 8) (.cons (.bin .add .i64 (.v 6) (.lit .i64 1)) .nil))))))))))) (.v 0))))), (.sy (.v 5)), (.sy (.v 6)), (.sy (.v 7)), (.sy (.v 8)), (.sy (.bin .mn .i64 (.v 9) (.bin .sub .i64 (.bin .add .i64 (.v 6) (.lit .i64 1)) (.bin .quo .i64 (.fn 4 (.cons (.v 0) (.cons (.v 1) (.cons (.v 2) (.cons (.v 3) (.cons (.bin .sub .i64 (.v 7) (.lit .i64 1)) (.cons (.v 5) (.cons (.v 6) (.cons (.v 7) (.cons (.v 8) (.cons (.bin .add .i64 (.v 6) (.lit .i64 1)) .nil))))))))))) (.v 2)))))]), (.clo (.int .i64 0))])))
 (.br (.lt (.v 2) (.lit .i64 0))
 (.br (.lt (.lit .i64 0) (.fn 4 (.cons (.v 0) (.cons (.v 1) (.cons (.v 2) (.cons (.v 3) (.cons (.bin .sub .i64 (.v 7) (.lit .i64 1)) (.cons (.v 5) (.cons (.bin .sub .i64 (.v 9) (.lit .i64 1)) (.cons (.v 7) (.cons (.v 8) (.cons (.v 9) .nil))))))))))))
 (.leaf (.clo (.tuple ⟨[(.agg ⟨[(.int .i64 0), (.int .i64 0), (.int .i64 0), (.int .i64 0), (.int .i64 0), (.int .i64 0)]⟩), (.int .i64 9)]⟩)))
 (.leaf (.tup [(.agg [(.sy (.bin .mx .i64 (.v 4) (.bin .sub .i64 (.bin .sub .i64 (.v 7) (.lit .i64 1)) (.bin .quo .i64 (.fn 4 (.cons (.v 0) (.cons (.v 1) (.cons (.v 2) (.cons (.v 3) (.cons (.bin .sub .i64 (.v 7) (.lit .i64 1)) (.cons (.v 5) (.cons (.bin .sub .i64 (.v 9) (.lit .i64 1)) (.cons (.v 7) (.cons (.v 8) (.cons (.v 9) .nil))))))))))) (.v 0))))), (.sy (.v 5)), (.sy (.bin .mx .i64 (.v 6) (.bin .sub .i64 (.bin .sub .i64 (.v 9) (.lit .i64 1)) (.bin .quo .i64 (.fn 4 (.cons (.v 0) (.cons (.v 1) (.cons (.v 2) (.cons (.v 3) (.cons (.bin .sub .i64 (.v 7) (.lit .i64 1)) (.cons (.v 5) (.cons (.bin .sub .i64 (.v 9) (.lit .i64 1)) (.cons (.v 7) (.cons (.v 8) (.cons (.v 9) .nil))))))))))) (.v 2))))), (.sy (.v 7)), (.sy (.v 8)), (.sy (.v 9))]), (.clo (.int .i64 0))])))
 (.br (.lt (.lit .i64 0) (.fn 4 (.cons (.v 0) (.cons (.v 1) (.cons (.v 2) (.cons (.v 3) (.cons (.bin .sub .i64 (.v 7) (.lit .i64 1)) (.cons (.v 5) (.cons (.v 6) (.cons (.v 7) (.cons (.v 8) (.cons (.v 9) .nil))))))))))))
 (.leaf (.clo (.tuple ⟨[(.agg ⟨[(.int .i64 0), (.int .i64 0), (.int .i64 0), (.int .i64 0), (.int .i64 0), (.int .i64 0)]⟩), (.int .i64 9)]⟩)))
 (.leaf (.tup [(.agg [(.sy (.bin .mx .i64 (.v 4) (.bin .sub .i64 (.bin .sub .i64 (.v 7) (.lit .i64 1)) (.bin .quo .i64 (.fn 4 (.cons (.v 0) (.cons (.v 1) (.cons (.v 2) (.cons (.v 3) (.cons (.bin .sub .i64 (.v 7) (.lit .i64 1)) (.cons (.v 5) (.cons (.v 6) (.cons (.v 7) (.cons (.v 8) (.cons (.v 9) .nil))))))))))) (.v 0))))), (.sy (.v 5)), (.sy (.v 6)), (.sy (.v 7)), (.sy (.v 8)), (.sy (.v 9))]), (.clo (.int .i64 0))])))))))
 (.br (.lt (.lit .i64 0) (.v 1))
 (.br (.lt (.lit .i64 0) (.v 2))
 (.br (.lt (.lit .i64 0) (.fn 4 (.cons (.v 0) (.cons (.v 1) (.cons (.v 2) (.cons (.v 3) (.cons (.v 4) (.cons (.v 5) (.cons (.v 6) (.cons (.v 7) (.cons (.bin .add .i64 (.v 5) (.lit .i64 1)) (.cons (.bin .add .i64 (.v 6) (.lit .i64 1)) .nil))))))))))))
 (.leaf (.clo (.tuple ⟨[(.agg ⟨[(.int .i64 0), (.int .i64 0), (.int .i64 0), (.int .i64 0), (.int .i64 0), (.int .i64 0)]⟩), (.int .i64 9)]⟩)))
 (.leaf (.tup [(.agg [(.sy (.v 4)), (.sy (.v 5)), (.sy (.v 6)), (.sy (.v 7)), (.sy (.bin .mn .i64 (.v 8) (.bin .sub .i64 (.bin .add .i64 (.v 5) (.lit .i64 1)) (.bin .quo .i64 (.fn 4 (.cons (.v 0) (.cons (.v 1) (.cons (.v 2) (.cons (.v 3) (.cons (.v 4) (.cons (.v 5) (.cons (.v 6) (.cons (.v 7) (.cons (.bin .add .i64 (.v 5) (.lit .i64 1)) (.cons (.bin .add .i64 (.v 6) (.lit .i64 1)) .nil))))))))))) (.v 1))))), (.sy (.bin .mn .i64 (.v 9) (.bin .sub .i64 (.bin .add .i64 (.v 6) (.lit .i64 1)) (.bin .quo .i64 (.fn 4 (.cons (.v 0) (.cons (.v 1) (.cons (.v 2) (.cons (.v 3) (.cons (.v 4) (.cons (.v 5) (.cons (.v 6) (.cons (.v 7) (.cons (.bin .add .i64 (.v 5) (.lit .i64 1)) (.cons (.bin .add .i64 (.v 6) (.lit .i64 1)) .nil))))))))))) (.v 2)))))]), (.clo (.int .i64 0))])))
 (.br (.lt (.v 2) (.lit .i64 0))
 (.br (.lt (.lit .i64 0) (.fn 4 (.cons (.v 0) (.cons (.v 1) (.cons (.v 2) (.cons (.v 3) (.cons (.v 4) (.cons (.v 5) (.cons (.bin .sub .i64 (.v 9) (.lit .i64 1)) (.cons (.v 7) (.cons (.bin .add .i64 (.v 5) (.lit .i64 1)) (.cons (.v 9) .nil))))))))))))
 (.leaf (.clo (.tuple ⟨[(.agg ⟨[(.int .i64 0), (.int .i64 0), (.int .i64 0), (.int .i64 0), (.int .i64 0), (.int .i64 0)]⟩), (.int .i64 9)]⟩)))
 (.leaf (.tup [(.agg [(.sy (.v 4)), (.sy (.v 5)), (.sy (.bin .mx .i64 (.v 6) (.bin .sub .i64 (.bin .sub .i64 (.v 9) (.lit .i64 1)) (.bin .quo .i64 (.fn 4 (.cons (.v 0) (.cons (.v 1) (.cons (.v 2) (.cons (.v 3) (.cons (.v 4) (.cons (.v 5) (.cons (.bin .sub .i64 (.v 9) (.lit .i64 1)) (.cons (.v 7) (.cons (.bin .add .i64 (.v 5) (.lit .i64 1)) (.cons (.v 9) .nil))))))))))) (.v 2))))), (.sy (.v 7)), (.sy (.bin .mn .i64 (.v 8) (.bin .sub .i64 (.bin .add .i64 (.v 5) (.lit .i64 1)) (.bin .quo .i64 (.fn 4 (.cons (.v 0) (.cons (.v 1) (.cons (.v 2) (.cons (.v 3) (.cons (.v 4) (.cons (.v 5) (.cons (.bin .sub .i64 (.v 9) (.lit .i64 1)) (.cons (.v 7) (.cons (.bin .add .i64 (.v 5) (.lit .i64 1)) (.cons (.v 9) .nil))))))))))) (.v 1))))), (.sy (.v 9))]), (.clo (.int .i64 0))])))
 (.br (.lt (.lit .i64 0) (.fn 4 (.cons (.v 0) (.cons (.v 1) (.cons (.v 2) (.cons (.v 3) (.cons (.v 4) (.cons (.v 5) (.cons (.v 6) (.cons (.v 7) (.cons (.bin .add .i64 (.v 5) (.lit .i64 1)) (.cons (.v 9) .nil))))))))))))
 (.leaf (.clo (.tuple ⟨[(.agg ⟨[(.int .i64 0), (.int .i64 0), (.int .i64 0), (.int .i64 0), (.int .i64 0), (.int .i64 0)]⟩), (.int .i64 9)]⟩)))
 (.leaf (.tup [(.agg [(.sy (.v 4)), (.sy (.v 5)), (.sy (.v 6)), (.sy (.v 7)), (.sy (.bin .mn .i64 (.v 8) (.bin .sub .i64 (.bin .add .i64 (.v 5) (.lit .i64 1)) (.bin .quo .i64 (.fn 4 (.cons (.v 0) (.cons (.v 1) (.cons (.v 2) (.cons (.v 3) (.cons (.v 4) (.cons (.v 5) (.cons (.v 6) (.cons (.v 7) (.cons (.bin .add .i64 (.v 5) (.lit .i64 1)) (.cons (.v 9) .nil))))))))))) (.v 1))))), (.sy (.v 9))]), (.clo (.int .i64 0))])))))
 (.br (.lt (.v 1) (.lit .i64 0))
 (.br (.lt (.lit .i64 0) (.v 2))
 (.br (.lt (.lit .i64 0) (.fn 4 (.cons (.v 0) (.cons (.v 1) (.cons (.v 2) (.cons (.v 3) (.cons (.v 4) (.cons (.bin .sub .i64 (.v 8) (.lit .i64 1)) (.cons (.v 6) (.cons (.v 7) (.cons (.v 8) (.cons (.bin .add .i64 (.v 6) (.lit .i64 1)) .nil))))))))))))
 (.leaf (.clo (.tuple ⟨[(.agg ⟨[(.int .i64 0), (.int .i64 0), (.int .i64 0), (.int .i64 0), (.int .i64 0), (.int .i64 0)]⟩), (.int .i64 9)]⟩)))
 (.leaf (.tup [(.agg [(.sy (.v 4)), (.sy (.bin .mx .i64 (.v 5) (.bin .sub .i64 (.bin .sub .i64 (.v 8) (.lit .i64 1)) (.bin .quo .i64 (.fn 4 (.cons (.v 0) (.cons (.v 1) (.cons (.v 2) (.cons (.v 3) (.cons (.v 4) (.cons (.bin .sub .i64 (.v 8) (.lit .i64 1)) (.cons (.v 6) (.cons (.v 7) (.cons (.v 8) (.cons (.bin .add .i64 (.v 6) (.lit .i64 1)) .nil))))))))))) (.v 1))))), (.sy (.v 6)), (.sy (.v 7)), (.sy (.v 8)), (.sy (.bin .mn .i64 (.v 9) (.bin .sub .i64 (.bin .add .i64 (.v 6) (.lit .i64 1)) (.bin .quo .i64 (.fn 4 (.cons (.v 0) (.cons (.v 1) (.cons (.v 2) (.cons (.v 3) (.cons (.v 4) (.cons (.bin .sub .i64 (.v 8) (.lit .i64 1)) (.cons (.v 6) (.cons (.v 7) (.cons (.v 8) (.cons (.bin .add .i64 (.v 6) (.lit .i64 1)) .nil))))))))))) (.v 2)))))]), (.clo (.int .i64 0))])))
 (.br (.lt (.v 2) (.lit .i64 0))
 (.br (.lt (.lit .i64 0) (.fn 4 (.cons (.v 0) (.cons (.v 1) (.cons (.v 2) (.cons (.v 3) (.cons (.v 4) (.cons (.bin .sub .i64 (.v 8) (.lit .i64 1)) (.cons (.bin .sub .i64 (.v 9) (.lit .i64 1)) (.cons (.v 7) (.cons (.v 8) (.cons (.v 9) .nil))))))))))))
 (.leaf (.clo (.tuple ⟨[(.agg ⟨[(.int .i64 0), (.int .i64 0), (.int .i64 0), (.int .i64 0), (.int .i64 0), (.int .i64 0)]⟩), (.int .i64 9)]⟩)))
 (.leaf (.tup [(.agg [(.sy (.v 4)), (.sy (.bin .mx .i64 (.v 5) (.bin .sub .i64 (.bin .sub .i64 (.v 8) (.lit .i64 1)) (.bin .quo .i64 (.fn 4 (.cons (.v 0) (.cons (.v 1) (.cons (.v 2) (.cons (.v 3) (.cons (.v 4) (.cons (.bin .sub .i64 (.v 8) (.lit .i64 1)) (.cons (.bin .sub .i64 (.v 9) (.lit .i64 1)) (.cons (.v 7) (.cons (.v 8) (.cons (.v 9) .nil))))))))))) (.v 1))))), (.sy (.bin .mx .i64 (.v 6) (.bin .sub .i64 (.bin .sub .i64 (.v 9) (.lit .i64 1)) (.bin .quo .i64 (.fn 4 (.cons (.v 0) (.cons (.v 1) (.cons (.v 2) (.cons (.v 3) (.cons (.v 4) (.cons (.bin .sub .i64 (.v 8) (.lit .i64 1)) (.cons (.bin .sub .i64 (.v 9) (.lit .i64 1)) (.cons (.v 7) (.cons (.v 8) (.cons (.v 9) .nil))))))))))) (.v 2))))), (.sy (.v 7)), (.sy (.v 8)), (.sy (.v 9))]), (.clo (.int .i64 0))])))
 (.br (.lt (.lit .i64 0) (.fn 4 (.cons (.v 0) (.cons (.v 1) (.cons (.v 2) (.cons (.v 3) (.cons (.v 4) (.cons (.bin .sub .i64 (.v 8) (.lit .i64 1)) (.cons (.v 6) (.cons (.v 7) (.cons (.v 8) (.cons (.v 9) .nil))))))))))))
 (.leaf (.clo (.tuple ⟨[(.agg ⟨[(.int .i64 0), (.int .i64 0), (.int .i64 0), (.int .i64 0), (.int .i64 0), (.int .i64 0)]⟩), (.int .i64 9)]⟩)))
 (.leaf (.tup [(.agg [(.sy (.v 4)), (.sy (.bin .mx .i64 (.v 5) (.bin .sub .i64 (.bin .sub .i64 (.v 8) (.lit .i64 1)) (.bin .quo .i64 (.fn 4 (.cons (.v 0) (.cons (.v 1) (.cons (.v 2) (.cons (.v 3) (.cons (.v 4) (.cons (.bin .sub .i64 (.v 8) (.lit .i64 1)) (.cons (.v 6) (.cons (.v 7) (.cons (.v 8) (.cons (.v 9) .nil))))))))))) (.v 1))))), (.sy (.v 6)), (.sy (.v 7)), (.sy (.v 8)), (.sy (.v 9))]), (.clo (.int .i64 0))])))))
 (.br (.lt (.lit .i64 0) (.v 2))
 (.br (.lt (.lit .i64 0) (.fn 4 (.cons (.v 0) (.cons (.v 1) (.cons (.v 2) (.cons (.v 3) (.cons (.v 4) (.cons (.v 5) (.cons (.v 6) (.cons (.v 7) (.cons (.v 8) (.cons (.bin .add .i64 (.v 6) (.lit .i64 1)) .nil))))))))))))
 (.leaf (.clo (.tuple ⟨[(.agg ⟨[(.int .i64 0), (.int .i64 0), (.int .i64 0), (.int .i64 0), (.int .i64 0), (.int .i64 0)]⟩), (.int .i64 9)]⟩)))
 (.leaf (.tup [(.agg [(.sy (.v 4)), (.sy (.v 5)), (.sy (.v 6)), (.sy (.v 7)), (.sy (.v 8)), (.sy (.bin .mn .i64 (.v 9) (.bin .sub .i64 (.bin .add .i64 (.v 6) (.lit .i64 1)) (.bin .quo .i64 (.fn 4 (.cons (.v 0) (.cons (.v 1) (.cons (.v 2) (.cons (.v 3) (.cons (.v 4) (.cons (.v 5) (.cons (.v 6) (.cons (.v 7) (.cons (.v 8) (.cons (.bin .add .i64 (.v 6) (.lit .i64 1)) .nil))))))))))) (.v 2)))))]), (.clo (.int .i64 0))])))
 (.br (.lt (.v 2) (.lit .i64 0))
 (.br (.lt (.lit .i64 0) (.fn 4 (.cons (.v 0) (.cons (.v 1) (.cons (.v 2) (.cons (.v 3) (.cons (.v 4) (.cons (.v 5) (.cons (.bin .sub .i64 (.v 9) (.lit .i64 1)) (.cons (.v 7) (.cons (.v 8) (.cons (.v 9) .nil))))))))))))
 (.leaf (.clo (.tuple ⟨[(.agg ⟨[(.int .i64 0), (.int .i64 0), (.int .i64 0), (.int .i64 0), (.int .i64 0), (.int .i64 0)]⟩), (.int .i64 9)]⟩)))
 (.leaf (.tup [(.agg [(.sy (.v 4)), (.sy (.v 5)), (.sy (.bin .mx .i64 (.v 6) (.bin .sub .i64 (.bin .sub .i64 (.v 9) (.lit .i64 1)) (.bin .quo .i64 (.fn 4 (.cons (.v 0) (.cons (.v 1) (.cons (.v 2) (.cons (.v 3) (.cons (.v 4) (.cons (.v 5) (.cons (.bin .sub .i64 (.v 9) (.lit .i64 1)) (.cons (.v 7) (.cons (.v 8) (.cons (.v 9) .nil))))))))))) (.v 2))))), (.sy (.v 7)), (.sy (.v 8)), (.sy (.v 9))]), (.clo (.int .i64 0))])))
 (.br (.lt (.lit .i64 0) (.fn 4 (.cons (.v 0) (.cons (.v 1) (.cons (.v 2) (.cons (.v 3) (.cons (.v 4) (.cons (.v 5) (.cons (.v 6) (.cons (.v 7) (.cons (.v 8) (.cons (.v 9) .nil))))))))))))
 (.leaf (.clo (.tuple ⟨[(.agg ⟨[(.int .i64 0), (.int .i64 0), (.int .i64 0), (.int .i64 0), (.int .i64 0), (.int .i64 0)]⟩), (.int .i64 9)]⟩)))
 (.leaf (.tup [(.agg [(.sy (.v 4)), (.sy (.v 5)), (.sy (.v 6)), (.sy (.v 7)), (.sy (.v 8)), (.sy (.v 9))]), (.clo (.int .i64 0))])))))))))
theorem W_hPt {G n : Int} (h : W n = n) : W (hPt G n) = hPt G n := hPt_r h
theorem hFr_r {f lo hi G : Int} (hl : W lo = lo) : W (hFr f lo hi G) = hFr f lo hi G := by
  unfold hFr
  split
  · exact hl
  · split
    · exact W_mx hl (wrap_wrap _ _)
    · exact hl
theorem hTo_r {f lo hi G : Int} (hl : W hi = hi) : W (hTo f lo hi G) = hTo f lo hi G := by
  unfold hTo
  split
  · exact W_mn hl (wrap_wrap _ _)
  · exact hl
/-- The hull's result, as a value. -/
def hullV (a b c d x y z u v w : Int) : Value :=
  let G := hG a b c d x y z u v w
  .tuple #[.agg #[.int .i64 (hPt G (hFr a x u G)), .int .i64 (hPt G (hFr b y v G)), .int .i64 (hPt G (hFr c z w G)), .int .i64 (hPt G (hTo a x u G)), .int .i64 (hPt G (hTo b y v G)), .int .i64 (hPt G (hTo c z w G))], .int .i64 (hErr G)]
theorem hullV_eq {F : Fn64} {a b c d x y z u v w : Int} (hF : F = plF) {h : ∀ q ∈ [a, b, c, d, x, y, z, u, v, w], R64 q} : resV (val64 F [a, b, c, d, x, y, z, u, v, w] h) [a, b, c, d, x, y, z, u, v, w] hullR = hullV a b c d x y z u v w := by
  subst hF
  have wx : W x = x := wrap_R64.2 (h x (by simp))
  have wy : W y = y := wrap_R64.2 (h y (by simp))
  have wz : W z = z := wrap_R64.2 (h z (by simp))
  have wu : W u = u := wrap_R64.2 (h u (by simp))
  have wv : W v = v := wrap_R64.2 (h v (by simp))
  have ww : W w = w := wrap_R64.2 (h w (by simp))
  show Value.tuple #[.agg #[.int .i64 (W (hPt (hG a b c d x y z u v w) (hFr a x u (hG a b c d x y z u v w)))), .int .i64 (W (hPt (hG a b c d x y z u v w) (hFr b y v (hG a b c d x y z u v w)))), .int .i64 (W (hPt (hG a b c d x y z u v w) (hFr c z w (hG a b c d x y z u v w)))), .int .i64 (W (hPt (hG a b c d x y z u v w) (hTo a x u (hG a b c d x y z u v w)))), .int .i64 (W (hPt (hG a b c d x y z u v w) (hTo b y v (hG a b c d x y z u v w)))), .int .i64 (W (hPt (hG a b c d x y z u v w) (hTo c z w (hG a b c d x y z u v w))))], .int .i64 (hErr (hG a b c d x y z u v w))] = _
  rw [W_hPt (hFr_r wx), W_hPt (hFr_r wy), W_hPt (hFr_r wz), W_hPt (hTo_r wu), W_hPt (hTo_r wv), W_hPt (hTo_r ww)]
  rfl
theorem sat_okP {a b c d x y z u v w : Int} {h : ∀ q ∈ [a, b, c, d, x, y, z, u, v, w], R64 q} (h1 : chkH a b c d = 0) (h2 : chkB x y z u v w = 0) : Sat (val64 plF [a, b, c, d, x, y, z, u, v, w] h) okP :=
  sat_cons (at_eq_t.2 h1) (sat_cons (at_eq_t.2 h2) sat_nil)
set_option maxHeartbeats 4000000 in
theorem planeHull_val {a b c d x y z u v w : Int} {h : ∀ q ∈ [a, b, c, d, x, y, z, u, v, w], R64 q} : trV (val64 plF [a, b, c, d, x, y, z, u, v, w] h) TplaneHull = some (hullV a b c d x y z u v w) := by
  unfold TplaneHull hullV hG frA toA hFr hTo hPt hErr
  repeat' ((with_reducible refine br_val ?_ ?_) <;> (intro h; simp only [at_lt_t, at_lt_f, at_eq_t, at_eq_f, at_p, tv, row, binV, val64_vv, val64_fv, val64_pv, fv0, fv1, fv2, fv3, fv4, fv5, fv6, fv7, fv8, fv10, fv11, fv12, fv13, fv14, fv15, fv16, fv20, fv21, fv22, fv23, pv0, pv1, List.getD_cons_zero, List.getD_cons_succ] at h))
  all_goals simp only [*, if_true, if_false, if_pos, if_neg, not_false_eq_true, Int.not_lt_of_ge]
  all_goals rfl
theorem planeHullC_ok {S : Val K64} (hf : S.fv = plF.fv) (hp : S.pv = plF.pv) : ConOK Try.prog S anyW planeHullC := by
  refine con_from hf hp (by kernel_rfl) mixed (cons := plCons) (eqs := plEqs) plCons_ok plEqs_ok (n := 300) (args := [a4 0, a6 4]) (T := TplaneHull) okP (fun S => by kernel_rfl) ?_ ?_
  · intro zs h hl
    obtain ⟨a, b, c, d, x, y, z, u, v, w, rfl⟩ := len10 hl
    rfl
  · intro zs h hl hpre
    obtain ⟨a, b, c, d, x, y, z, u, v, w, rfl⟩ := len10 hl
    obtain ⟨h1, h2⟩ := okHB_of hpre
    refine ⟨sat_okP h1 h2, ?_⟩
    rw [show (planeHullC.rp) = hullR from rfl, hullV_eq rfl]
    exact planeHull_val

def rHullC : Con := ⟨29, [s4, s6], [.agg [10, 11, 12, 13, 14, 15], .b 1], okHB⟩
def TrHull : Tr :=
(.br (.lt (.v 3) (.bin .add .i64 (.bin .add .i64 (.fn 5 (.cons (.v 0) (.cons (.v 4) (.cons (.v 7) .nil)))) (.fn 5 (.cons (.v 1) (.cons (.v 5) (.cons (.v 8) .nil))))) (.fn 5 (.cons (.v 2) (.cons (.v 6) (.cons (.v 9) .nil))))))
 (.leaf (.clo (.tuple ⟨[(.agg ⟨[(.int .i64 0), (.int .i64 0), (.int .i64 0), (.int .i64 0), (.int .i64 0), (.int .i64 0)]⟩), (.bool false)]⟩)))
 (.leaf (.tup [(.agg [(.sy (.fn 6 (.cons (.v 0) (.cons (.v 4) (.cons (.v 7) (.cons (.bin .sub .i64 (.bin .sub .i64 (.v 3) (.fn 5 (.cons (.v 1) (.cons (.v 5) (.cons (.v 8) .nil))))) (.fn 5 (.cons (.v 2) (.cons (.v 6) (.cons (.v 9) .nil))))) .nil)))))), (.sy (.fn 6 (.cons (.v 1) (.cons (.v 5) (.cons (.v 8) (.cons (.bin .sub .i64 (.bin .sub .i64 (.v 3) (.fn 5 (.cons (.v 0) (.cons (.v 4) (.cons (.v 7) .nil))))) (.fn 5 (.cons (.v 2) (.cons (.v 6) (.cons (.v 9) .nil))))) .nil)))))), (.sy (.fn 6 (.cons (.v 2) (.cons (.v 6) (.cons (.v 9) (.cons (.bin .sub .i64 (.bin .sub .i64 (.v 3) (.fn 5 (.cons (.v 0) (.cons (.v 4) (.cons (.v 7) .nil))))) (.fn 5 (.cons (.v 1) (.cons (.v 5) (.cons (.v 8) .nil))))) .nil)))))), (.sy (.fn 7 (.cons (.v 0) (.cons (.v 4) (.cons (.v 7) (.cons (.bin .sub .i64 (.bin .sub .i64 (.v 3) (.fn 5 (.cons (.v 1) (.cons (.v 5) (.cons (.v 8) .nil))))) (.fn 5 (.cons (.v 2) (.cons (.v 6) (.cons (.v 9) .nil))))) .nil)))))), (.sy (.fn 7 (.cons (.v 1) (.cons (.v 5) (.cons (.v 8) (.cons (.bin .sub .i64 (.bin .sub .i64 (.v 3) (.fn 5 (.cons (.v 0) (.cons (.v 4) (.cons (.v 7) .nil))))) (.fn 5 (.cons (.v 2) (.cons (.v 6) (.cons (.v 9) .nil))))) .nil)))))), (.sy (.fn 7 (.cons (.v 2) (.cons (.v 6) (.cons (.v 9) (.cons (.bin .sub .i64 (.bin .sub .i64 (.v 3) (.fn 5 (.cons (.v 0) (.cons (.v 4) (.cons (.v 7) .nil))))) (.fn 5 (.cons (.v 1) (.cons (.v 5) (.cons (.v 8) .nil))))) .nil))))))]), (.clo (.bool true))])))
def hullCons : List Con := rLeastC :: rSpanC :: plCons
theorem hullCons_ok (S : Val K64) (hf : S.fv = plF.fv) (hp : S.pv = plF.pv) : ∀ c ∈ hullCons, ConOK Try.prog S anyW c := by
  intro c hc
  simp only [hullCons, List.mem_cons] at hc
  rcases hc with rfl | rfl | hc
  · exact rLeastC_ok hf hp
  · exact rSpanC_ok hf hp
  · exact plCons_ok S hf hp c (by simpa only [plCons, List.mem_cons, List.not_mem_nil, or_false] using hc)
theorem rHullC_ok {S : Val K64} (hf : S.fv = plF.fv) (hp : S.pv = plF.pv) : ConOK Try.prog S anyW rHullC := by
  refine con_from hf hp (by kernel_rfl) mixed (cons := hullCons) (eqs := plEqs) hullCons_ok plEqs_ok (n := 300) (args := [a4 0, a6 4]) (T := TrHull) (bdA 0 ++ (bdA 1 ++ (bdA 2 ++ []))) (fun S => by kernel_rfl) ?_ ?_
  · intro zs h hl
    obtain ⟨a, b, c, d, x, y, z, u, v, w, rfl⟩ := len10 hl
    rfl
  · intro zs h hl hpre
    obtain ⟨a, b, c, d, x, y, z, u, v, w, rfl⟩ := len10 hl
    obtain ⟨hH, hB⟩ := okHB_of hpre
    obtain ⟨ha, hb, hc, hd, hne⟩ := chkH_ok.1 hH
    obtain ⟨hx, hy, hz⟩ := chkB_ok.1 hB
    refine ⟨sat_bdA (i := 0) ha (sat_bdA (i := 1) hb (sat_bdA (i := 2) hc sat_nil)), ?_⟩
    have wx : W x = x := wrap_R64.2 (h x (by simp))
    have wy : W y = y := wrap_R64.2 (h y (by simp))
    have wz : W z = z := wrap_R64.2 (h z (by simp))
    have wu : W u = u := wrap_R64.2 (h u (by simp))
    have wv : W v = v := wrap_R64.2 (h v (by simp))
    have ww : W w = w := wrap_R64.2 (h w (by simp))
    have hGe := hG_eq ha hb hc hd hx hy hz
    have lx := (lst_eq ha hx).2
    have ly := (lst_eq hb hy).2
    have lz := (lst_eq hc hz).2
    show trV _ TrHull = some (Value.tuple #[.agg #[.int .i64 (W (hPt (hG a b c d x y z u v w) (hFr a x u (hG a b c d x y z u v w)))), .int .i64 (W (hPt (hG a b c d x y z u v w) (hFr b y v (hG a b c d x y z u v w)))), .int .i64 (W (hPt (hG a b c d x y z u v w) (hFr c z w (hG a b c d x y z u v w)))), .int .i64 (W (hPt (hG a b c d x y z u v w) (hTo a x u (hG a b c d x y z u v w)))), .int .i64 (W (hPt (hG a b c d x y z u v w) (hTo b y v (hG a b c d x y z u v w)))), .int .i64 (W (hPt (hG a b c d x y z u v w) (hTo c z w (hG a b c d x y z u v w))))], .bool (hNeg (hG a b c d x y z u v w))])
    rw [W_hPt (hFr_r wx), W_hPt (hFr_r wy), W_hPt (hFr_r wz), W_hPt (hTo_r wu), W_hPt (hTo_r wv), W_hPt (hTo_r ww)]
    generalize hG a b c d x y z u v w = G at *
    unfold TrHull
    refine br_val ?_ ?_ <;> (intro h; simp only [at_lt_t, at_lt_f, at_eq_t, at_eq_f, at_p, tv, row, binV, val64_vv, val64_fv, val64_pv, fv0, fv1, fv2, fv3, fv4, fv5, fv6, fv7, fv8, fv10, fv11, fv12, fv13, fv14, fv15, fv16, fv20, fv21, fv22, fv23, pv0, pv1, List.getD_cons_zero, List.getD_cons_succ] at h)
    · rw [wrap64 (lst a x u + lst b y v) (by omega), wrap64 (lst a x u + lst b y v + lst c z w) (by omega)] at h
      have hp : 0 < G := by omega
      simp only [hPt, if_pos hp, hNeg_f.2 hp]
      rfl
    · rw [wrap64 (lst a x u + lst b y v) (by omega), wrap64 (lst a x u + lst b y v + lst c z w) (by omega)] at h
      have hp : ¬ 0 < G := by omega
      obtain ⟨a1, a2⟩ := axis_eq (G := G) (rest := d - lst b y v - lst c z w) ha hx (by omega) (by omega)
      obtain ⟨b1, b2⟩ := axis_eq (G := G) (rest := d - lst a x u - lst c z w) hb hy (by omega) (by omega)
      obtain ⟨c1, c2⟩ := axis_eq (G := G) (rest := d - lst a x u - lst b y v) hc hz (by omega) (by omega)
      simp only [hPt, if_neg hp, hNeg_t.2 hp]
      refine Eq.trans (b := some (Value.tuple #[.agg #[.int .i64 (W (sp0 a x u (W (W (d - lst b y v) - lst c z w)))), .int .i64 (W (sp0 b y v (W (W (d - lst a x u) - lst c z w)))), .int .i64 (W (sp0 c z w (W (W (d - lst a x u) - lst b y v)))), .int .i64 (W (sp1 a x u (W (W (d - lst b y v) - lst c z w)))), .int .i64 (W (sp1 b y v (W (W (d - lst a x u) - lst c z w)))), .int .i64 (W (sp1 c z w (W (W (d - lst a x u) - lst b y v))))], .bool true])) rfl ?_
      unfold W
      rw [wrap64 (d - lst b y v) (by omega), wrap64 (d - lst a x u) (by omega), wrap64 (d - lst b y v - lst c z w) (by omega), wrap64 (d - lst a x u - lst c z w) (by omega), wrap64 (d - lst a x u - lst b y v) (by omega), ← a1, ← a2, ← b1, ← b2, ← c1, ← c2]
      rw [show IntKind.i64.wrap (hFr a x u G) = _ from hFr_r wx, show IntKind.i64.wrap (hFr b y v G) = _ from hFr_r wy, show IntKind.i64.wrap (hFr c z w G) = _ from hFr_r wz, show IntKind.i64.wrap (hTo a x u G) = _ from hTo_r wu, show IntKind.i64.wrap (hTo b y v G) = _ from hTo_r wv, show IntKind.i64.wrap (hTo c z w G) = _ from hTo_r ww]

def plConsH : List Con := planeHullC :: rHullC :: plCons
theorem plConsH_ok (S : Val K64) (hf : S.fv = plF.fv) (hp : S.pv = plF.pv) : ∀ c ∈ plConsH, ConOK Try.prog S anyW c := by
  intro c hc
  simp only [plConsH, List.mem_cons] at hc
  rcases hc with rfl | rfl | hc
  · exact planeHullC_ok hf hp
  · exact rHullC_ok hf hp
  · exact plCons_ok S hf hp c (by simpa only [plCons, List.mem_cons, List.not_mem_nil, or_false] using hc)
end Go.Proofs.Ytopjcpdhfohccaa
