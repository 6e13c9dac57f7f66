/- Layer 7 (plane): contracts of the checks, by trees of cases. -/
import Derived.Test.YtopjcpdhfohccaaPlM
import Derived.Test.YtopjcpdhfohccaaProg
namespace Go.Proofs.Ytopjcpdhfohccaa
open Go.RowKit Go.Ev
set_option linter.unusedSimpArgs false

def plEqs : FlatTab := [(25, [.i64, .i64, .i64]), (23, [.i64, .i64, .i64, .i64]), (35, [.i64, .i64, .i64, .i64, .i64, .i64])]
theorem plEqs_ok : flatTabOK Try.prog plEqs = true := by kernel_rfl
theorem mixed : Try.prog.follows .mixedOrders = true := by kernel_rfl
def s3 : Sh := .agg [.i64, .i64, .i64]
def s4 : Sh := .agg [.i64, .i64, .i64, .i64]
def s6 : Sh := .agg [.i64, .i64, .i64, .i64, .i64, .i64]
def a3 (i : Nat) : CV := .agg [.sy (.v i), .sy (.v (i + 1)), .sy (.v (i + 2))]
def a4 (i : Nat) : CV := .agg [.sy (.v i), .sy (.v (i + 1)), .sy (.v (i + 2)), .sy (.v (i + 3))]
def a6 (i : Nat) : CV := .agg [.sy (.v i), .sy (.v (i + 1)), .sy (.v (i + 2)), .sy (.v (i + 3)), .sy (.v (i + 4)), .sy (.v (i + 5))]

set_option maxRecDepth 100000

def TplaneCheck : Tr :=
(.br (.lt (.v 0) (.lit .i64 (-1000)))
 (.leaf (.clo (.int .i64 6)))
 (.br (.lt (.lit .i64 1000) (.v 0))
 (.leaf (.clo (.int .i64 6)))
 (.br (.lt (.v 1) (.lit .i64 (-1000)))
 (.leaf (.clo (.int .i64 6)))
 (.br (.lt (.lit .i64 1000) (.v 1))
 (.leaf (.clo (.int .i64 6)))
 (.br (.lt (.v 2) (.lit .i64 (-1000)))
 (.leaf (.clo (.int .i64 6)))
 (.br (.lt (.lit .i64 1000) (.v 2))
 (.leaf (.clo (.int .i64 6)))
 (.br (.lt (.v 3) (.lit .i64 (-4000000000)))
 (.leaf (.clo (.int .i64 6)))
 (.br (.lt (.lit .i64 4000000000) (.v 3))
 (.leaf (.clo (.int .i64 6)))
 (.br (.eq (.v 0) (.lit .i64 0))
 (.br (.eq (.v 1) (.lit .i64 0))
 (.br (.eq (.v 2) (.lit .i64 0))
 (.leaf (.clo (.int .i64 1)))
 (.leaf (.clo (.int .i64 0))))
 (.leaf (.clo (.int .i64 0))))
 (.leaf (.clo (.int .i64 0))))))))))))
def planeCheckC : Con := ⟨14, [s4], [.i 0], []⟩
theorem planeCheckC_ok {S : Val K64} (hf : S.fv = plF.fv) (hp : S.pv = plF.pv) : ConOK Try.prog S anyW planeCheckC := by
  refine con_of hf hp (by kernel_rfl) mixed (cons := []) (eqs := plEqs) (fun _ _ _ _ h => by cases h) plEqs_ok (n := 300) (args := [a4 0]) (T := TplaneCheck) (fun S => by kernel_rfl) ?_ ?_
  · intro zs h hl
    obtain ⟨a, b, c, d, rfl⟩ := len4 hl
    rfl
  · intro zs h hl _
    obtain ⟨a, b, c, d, rfl⟩ := len4 hl
    unfold TplaneCheck
    repeat' ((with_reducible refine br_val ?_ ?_) <;> (intro h; simp only [at_lt_t, at_lt_f, at_eq_t, at_eq_f, tv, val64_vv, List.getD_cons_zero, List.getD_cons_succ] at h))
    all_goals
      show some (Value.int IntKind.i64 _) = some (Value.int IntKind.i64 (chkH a b c d))
      congr 2
      unfold chkH
      repeat' split
      all_goals omega

def TrPlaneCheck : Tr :=
(.br (.lt (.v 0) (.lit .i64 (-1000)))
 (.leaf (.clo (.int .i64 6)))
 (.br (.lt (.lit .i64 1000) (.v 0))
 (.leaf (.clo (.int .i64 6)))
 (.br (.lt (.v 1) (.lit .i64 (-1000)))
 (.leaf (.clo (.int .i64 6)))
 (.br (.lt (.lit .i64 1000) (.v 1))
 (.leaf (.clo (.int .i64 6)))
 (.br (.lt (.v 2) (.lit .i64 (-1000)))
 (.leaf (.clo (.int .i64 6)))
 (.br (.lt (.lit .i64 1000) (.v 2))
 (.leaf (.clo (.int .i64 6)))
 (.br (.lt (.v 3) (.lit .i64 (-4000000000)))
 (.leaf (.clo (.int .i64 6)))
 (.br (.lt (.lit .i64 4000000000) (.v 3))
 (.leaf (.clo (.int .i64 6)))
 (.br (.eq (.v 0) (.lit .i64 0))
 (.br (.eq (.v 1) (.lit .i64 0))
 (.br (.eq (.v 2) (.lit .i64 0))
 (.leaf (.clo (.int .i64 1)))
 (.leaf (.clo (.int .i64 0))))
 (.leaf (.clo (.int .i64 0))))
 (.leaf (.clo (.int .i64 0))))))))))))
def rPlaneCheckC : Con := ⟨15, [s4], [.i 0], []⟩
theorem rPlaneCheckC_ok {S : Val K64} (hf : S.fv = plF.fv) (hp : S.pv = plF.pv) : ConOK Try.prog S anyW rPlaneCheckC := by
  refine con_of hf hp (by kernel_rfl) mixed (cons := []) (eqs := plEqs) (fun _ _ _ _ h => by cases h) plEqs_ok (n := 300) (args := [a4 0]) (T := TrPlaneCheck) (fun S => by kernel_rfl) ?_ ?_
  · intro zs h hl
    obtain ⟨a, b, c, d, rfl⟩ := len4 hl
    rfl
  · intro zs h hl _
    obtain ⟨a, b, c, d, rfl⟩ := len4 hl
    unfold TrPlaneCheck
    repeat' ((with_reducible refine br_val ?_ ?_) <;> (intro h; simp only [at_lt_t, at_lt_f, at_eq_t, at_eq_f, tv, val64_vv, List.getD_cons_zero, List.getD_cons_succ] at h))
    all_goals
      show some (Value.int IntKind.i64 _) = some (Value.int IntKind.i64 (chkH a b c d))
      congr 2
      unfold chkH
      repeat' split
      all_goals omega

def TvecCheck : Tr :=
(.br (.lt (.v 0) (.lit .i64 (-1000000)))
 (.leaf (.clo (.int .i64 6)))
 (.br (.lt (.lit .i64 1000000) (.v 0))
 (.leaf (.clo (.int .i64 6)))
 (.br (.lt (.v 1) (.lit .i64 (-1000000)))
 (.leaf (.clo (.int .i64 6)))
 (.br (.lt (.lit .i64 1000000) (.v 1))
 (.leaf (.clo (.int .i64 6)))
 (.br (.lt (.v 2) (.lit .i64 (-1000000)))
 (.leaf (.clo (.int .i64 6)))
 (.br (.lt (.lit .i64 1000000) (.v 2))
 (.leaf (.clo (.int .i64 6)))
 (.leaf (.clo (.int .i64 0)))))))))
def vecCheckC : Con := ⟨34, [s3], [.i 1], []⟩
theorem vecCheckC_ok {S : Val K64} (hf : S.fv = plF.fv) (hp : S.pv = plF.pv) : ConOK Try.prog S anyW vecCheckC := by
  refine con_of hf hp (by kernel_rfl) mixed (cons := []) (eqs := plEqs) (fun _ _ _ _ h => by cases h) plEqs_ok (n := 300) (args := [a3 0]) (T := TvecCheck) (fun S => by kernel_rfl) ?_ ?_
  · intro zs h hl
    obtain ⟨a, b, c, rfl⟩ := len3 hl
    rfl
  · intro zs h hl _
    obtain ⟨a, b, c, rfl⟩ := len3 hl
    unfold TvecCheck
    repeat' ((with_reducible refine br_val ?_ ?_) <;> (intro h; simp only [at_lt_t, at_lt_f, at_eq_t, at_eq_f, tv, val64_vv, List.getD_cons_zero, List.getD_cons_succ] at h))
    all_goals
      show some (Value.int IntKind.i64 _) = some (Value.int IntKind.i64 (chkV a b c))
      congr 2
      unfold chkV
      repeat' split
      all_goals omega

def TrIn : Tr :=
(.br (.lt (.v 0) (.lit .i64 (-1000000)))
 (.leaf (.clo (.bool false)))
 (.br (.lt (.lit .i64 1000000) (.v 0))
 (.leaf (.clo (.bool false)))
 (.br (.lt (.v 1) (.lit .i64 (-1000000)))
 (.leaf (.clo (.bool false)))
 (.br (.lt (.lit .i64 1000000) (.v 1))
 (.leaf (.clo (.bool false)))
 (.br (.lt (.v 2) (.lit .i64 (-1000000)))
 (.leaf (.clo (.bool false)))
 (.br (.lt (.lit .i64 1000000) (.v 2))
 (.leaf (.clo (.bool false)))
 (.leaf (.clo (.bool true)))))))))
def rInC : Con := ⟨16, [s3], [.b 0], []⟩
theorem rInC_ok {S : Val K64} (hf : S.fv = plF.fv) (hp : S.pv = plF.pv) : ConOK Try.prog S anyW rInC := by
  refine con_of hf hp (by kernel_rfl) mixed (cons := []) (eqs := plEqs) (fun _ _ _ _ h => by cases h) plEqs_ok (n := 300) (args := [a3 0]) (T := TrIn) (fun S => by kernel_rfl) ?_ ?_
  · intro zs h hl
    obtain ⟨a, b, c, rfl⟩ := len3 hl
    rfl
  · intro zs h hl _
    obtain ⟨a, b, c, rfl⟩ := len3 hl
    unfold TrIn
    repeat' ((with_reducible refine br_val ?_ ?_) <;> (intro h; simp only [at_lt_t, at_lt_f, at_eq_t, at_eq_f, tv, val64_vv, List.getD_cons_zero, List.getD_cons_succ] at h))
    all_goals
      show some (Value.bool _) = some (Value.bool (inVec a b c))
      congr 2
      first
      | (symm; unfold inVec; exact decide_eq_false (fun e => by have := chkV_ok.1 e; omega))
      | (symm; unfold inVec; exact decide_eq_true (chkV_ok.2 (by omega)))

def TboxCheck : Tr :=
(.br (.lt (.v 0) (.lit .i64 (-1000000)))
 (.leaf (.clo (.int .i64 6)))
 (.br (.lt (.lit .i64 1000000) (.v 0))
 (.leaf (.clo (.int .i64 6)))
 (.br (.lt (.v 1) (.lit .i64 (-1000000)))
 (.leaf (.clo (.int .i64 6)))
 (.br (.lt (.lit .i64 1000000) (.v 1))
 (.leaf (.clo (.int .i64 6)))
 (.br (.lt (.v 2) (.lit .i64 (-1000000)))
 (.leaf (.clo (.int .i64 6)))
 (.br (.lt (.lit .i64 1000000) (.v 2))
 (.leaf (.clo (.int .i64 6)))
 (.br (.lt (.v 3) (.lit .i64 (-1000000)))
 (.leaf (.clo (.int .i64 6)))
 (.br (.lt (.lit .i64 1000000) (.v 3))
 (.leaf (.clo (.int .i64 6)))
 (.br (.lt (.v 4) (.lit .i64 (-1000000)))
 (.leaf (.clo (.int .i64 6)))
 (.br (.lt (.lit .i64 1000000) (.v 4))
 (.leaf (.clo (.int .i64 6)))
 (.br (.lt (.v 5) (.lit .i64 (-1000000)))
 (.leaf (.clo (.int .i64 6)))
 (.br (.lt (.lit .i64 1000000) (.v 5))
 (.leaf (.clo (.int .i64 6)))
 (.br (.lt (.v 0) (.v 3))
 (.br (.lt (.v 1) (.v 4))
 (.br (.lt (.v 2) (.v 5))
 (.leaf (.clo (.int .i64 0)))
 (.leaf (.clo (.int .i64 1))))
 (.leaf (.clo (.int .i64 1))))
 (.leaf (.clo (.int .i64 1))))))))))))))))
def boxCheckC : Con := ⟨40, [s6], [.i 2], []⟩
theorem boxCheckC_ok {S : Val K64} (hf : S.fv = plF.fv) (hp : S.pv = plF.pv) : ConOK Try.prog S anyW boxCheckC := by
  refine con_of hf hp (by kernel_rfl) mixed (cons := []) (eqs := plEqs) (fun _ _ _ _ h => by cases h) plEqs_ok (n := 300) (args := [a6 0]) (T := TboxCheck) (fun S => by kernel_rfl) ?_ ?_
  · intro zs h hl
    obtain ⟨a, b, c, d, e, f, rfl⟩ := len6 hl
    rfl
  · intro zs h hl _
    obtain ⟨a, b, c, d, e, f, rfl⟩ := len6 hl
    unfold TboxCheck
    repeat' ((with_reducible refine br_val ?_ ?_) <;> (intro h; simp only [at_lt_t, at_lt_f, at_eq_t, at_eq_f, tv, val64_vv, List.getD_cons_zero, List.getD_cons_succ] at h))
    all_goals
      show some (Value.int IntKind.i64 _) = some (Value.int IntKind.i64 (chkB a b c d e f))
      congr 2
      unfold chkB
      repeat' split
      all_goals omega

def TrBoxCheck : Tr :=
(.br (.lt (.v 0) (.lit .i64 (-1000000)))
 (.leaf (.clo (.int .i64 6)))
 (.br (.lt (.lit .i64 1000000) (.v 0))
 (.leaf (.clo (.int .i64 6)))
 (.br (.lt (.v 3) (.lit .i64 (-1000000)))
 (.leaf (.clo (.int .i64 6)))
 (.br (.lt (.lit .i64 1000000) (.v 3))
 (.leaf (.clo (.int .i64 6)))
 (.br (.lt (.v 1) (.lit .i64 (-1000000)))
 (.leaf (.clo (.int .i64 6)))
 (.br (.lt (.lit .i64 1000000) (.v 1))
 (.leaf (.clo (.int .i64 6)))
 (.br (.lt (.v 4) (.lit .i64 (-1000000)))
 (.leaf (.clo (.int .i64 6)))
 (.br (.lt (.lit .i64 1000000) (.v 4))
 (.leaf (.clo (.int .i64 6)))
 (.br (.lt (.v 2) (.lit .i64 (-1000000)))
 (.leaf (.clo (.int .i64 6)))
 (.br (.lt (.lit .i64 1000000) (.v 2))
 (.leaf (.clo (.int .i64 6)))
 (.br (.lt (.v 5) (.lit .i64 (-1000000)))
 (.leaf (.clo (.int .i64 6)))
 (.br (.lt (.lit .i64 1000000) (.v 5))
 (.leaf (.clo (.int .i64 6)))
 (.br (.lt (.v 0) (.v 3))
 (.br (.lt (.v 1) (.v 4))
 (.br (.lt (.v 2) (.v 5))
 (.leaf (.clo (.int .i64 0)))
 (.leaf (.clo (.int .i64 1))))
 (.leaf (.clo (.int .i64 1))))
 (.leaf (.clo (.int .i64 1))))))))))))))))
def rBoxCheckC : Con := ⟨41, [s6], [.i 2], []⟩
theorem rBoxCheckC_ok {S : Val K64} (hf : S.fv = plF.fv) (hp : S.pv = plF.pv) : ConOK Try.prog S anyW rBoxCheckC := by
  refine con_of hf hp (by kernel_rfl) mixed (cons := []) (eqs := plEqs) (fun _ _ _ _ h => by cases h) plEqs_ok (n := 300) (args := [a6 0]) (T := TrBoxCheck) (fun S => by kernel_rfl) ?_ ?_
  · intro zs h hl
    obtain ⟨a, b, c, d, e, f, rfl⟩ := len6 hl
    rfl
  · intro zs h hl _
    obtain ⟨a, b, c, d, e, f, rfl⟩ := len6 hl
    unfold TrBoxCheck
    repeat' ((with_reducible refine br_val ?_ ?_) <;> (intro h; simp only [at_lt_t, at_lt_f, at_eq_t, at_eq_f, tv, val64_vv, List.getD_cons_zero, List.getD_cons_succ] at h))
    all_goals
      show some (Value.int IntKind.i64 _) = some (Value.int IntKind.i64 (chkB a b c d e f))
      congr 2
      unfold chkB
      repeat' split
      all_goals omega

def Textremes : Tr :=
(.leaf (.tup [(.sy (.bin .add .i64 (.bin .add .i64 (.bin .add .i64 (.neg .i64 (.v 3)) (.bin .mn .i64 (.bin .mul .i64 (.v 0) (.v 4)) (.bin .mul .i64 (.v 0) (.v 7)))) (.bin .mn .i64 (.bin .mul .i64 (.v 1) (.v 5)) (.bin .mul .i64 (.v 1) (.v 8)))) (.bin .mn .i64 (.bin .mul .i64 (.v 2) (.v 6)) (.bin .mul .i64 (.v 2) (.v 9))))), (.sy (.bin .add .i64 (.bin .add .i64 (.bin .add .i64 (.neg .i64 (.v 3)) (.bin .mx .i64 (.bin .mul .i64 (.v 0) (.v 4)) (.bin .mul .i64 (.v 0) (.v 7)))) (.bin .mx .i64 (.bin .mul .i64 (.v 1) (.v 5)) (.bin .mul .i64 (.v 1) (.v 8)))) (.bin .mx .i64 (.bin .mul .i64 (.v 2) (.v 6)) (.bin .mul .i64 (.v 2) (.v 9)))))]))
def extremesC : Con := ⟨35, [s4, s6], [.i 3, .i 4], []⟩
theorem extremesC_ok {S : Val K64} (hf : S.fv = plF.fv) (hp : S.pv = plF.pv) : ConOK Try.prog S anyW extremesC := by
  refine con_of hf hp (by kernel_rfl) mixed (cons := []) (eqs := plEqs) (fun _ _ _ _ h => by cases h) plEqs_ok (n := 300) (args := [a4 0, a6 4]) (T := Textremes) (fun S => by kernel_rfl) ?_ ?_
  · intro zs h hl
    obtain ⟨a, b, c, d, x, y, z, u, v, w, rfl⟩ := len10 hl
    rfl
  · intro zs h hl _
    obtain ⟨a, b, c, d, x, y, z, u, v, w, rfl⟩ := len10 hl
    rfl
/-- The conditions: a half-space and a box without an error. -/
def okHB : List Pre := [.fn 0 0 4 .i64 0, .fn 2 4 6 .i64 0]
theorem okHB_of {a b c d x y z u v w : Int} (h : ∀ p ∈ okHB, preV plF.fv [a, b, c, d, x, y, z, u, v, w] p) : chkH a b c d = 0 ∧ chkB x y z u v w = 0 :=
  ⟨h (.fn 0 0 4 .i64 0) (by simp [okHB]), h (.fn 2 4 6 .i64 0) (by simp [okHB])⟩
def TrExtremes : Tr :=
(.leaf (.tup [(.sy (.bin .mn .i64 (.bin .mn .i64 (.bin .mn .i64 (.bin .mn .i64 (.bin .mn .i64 (.bin .mn .i64 (.bin .mn .i64 (.bin .sub .i64 (.bin .add .i64 (.bin .add .i64 (.bin .mul .i64 (.v 0) (.v 4)) (.bin .mul .i64 (.v 1) (.v 5))) (.bin .mul .i64 (.v 2) (.v 6))) (.v 3)) (.bin .sub .i64 (.bin .add .i64 (.bin .add .i64 (.bin .mul .i64 (.v 0) (.v 7)) (.bin .mul .i64 (.v 1) (.v 5))) (.bin .mul .i64 (.v 2) (.v 6))) (.v 3))) (.bin .sub .i64 (.bin .add .i64 (.bin .add .i64 (.bin .mul .i64 (.v 0) (.v 4)) (.bin .mul .i64 (.v 1) (.v 8))) (.bin .mul .i64 (.v 2) (.v 6))) (.v 3))) (.bin .sub .i64 (.bin .add .i64 (.bin .add .i64 (.bin .mul .i64 (.v 0) (.v 7)) (.bin .mul .i64 (.v 1) (.v 8))) (.bin .mul .i64 (.v 2) (.v 6))) (.v 3))) (.bin .sub .i64 (.bin .add .i64 (.bin .add .i64 (.bin .mul .i64 (.v 0) (.v 4)) (.bin .mul .i64 (.v 1) (.v 5))) (.bin .mul .i64 (.v 2) (.v 9))) (.v 3))) (.bin .sub .i64 (.bin .add .i64 (.bin .add .i64 (.bin .mul .i64 (.v 0) (.v 7)) (.bin .mul .i64 (.v 1) (.v 5))) (.bin .mul .i64 (.v 2) (.v 9))) (.v 3))) (.bin .sub .i64 (.bin .add .i64 (.bin .add .i64 (.bin .mul .i64 (.v 0) (.v 4)) (.bin .mul .i64 (.v 1) (.v 8))) (.bin .mul .i64 (.v 2) (.v 9))) (.v 3))) (.bin .sub .i64 (.bin .add .i64 (.bin .add .i64 (.bin .mul .i64 (.v 0) (.v 7)) (.bin .mul .i64 (.v 1) (.v 8))) (.bin .mul .i64 (.v 2) (.v 9))) (.v 3)))), (.sy (.bin .mx .i64 (.bin .mx .i64 (.bin .mx .i64 (.bin .mx .i64 (.bin .mx .i64 (.bin .mx .i64 (.bin .mx .i64 (.bin .sub .i64 (.bin .add .i64 (.bin .add .i64 (.bin .mul .i64 (.v 0) (.v 4)) (.bin .mul .i64 (.v 1) (.v 5))) (.bin .mul .i64 (.v 2) (.v 6))) (.v 3)) (.bin .sub .i64 (.bin .add .i64 (.bin .add .i64 (.bin .mul .i64 (.v 0) (.v 7)) (.bin .mul .i64 (.v 1) (.v 5))) (.bin .mul .i64 (.v 2) (.v 6))) (.v 3))) (.bin .sub .i64 (.bin .add .i64 (.bin .add .i64 (.bin .mul .i64 (.v 0) (.v 4)) (.bin .mul .i64 (.v 1) (.v 8))) (.bin .mul .i64 (.v 2) (.v 6))) (.v 3))) (.bin .sub .i64 (.bin .add .i64 (.bin .add .i64 (.bin .mul .i64 (.v 0) (.v 7)) (.bin .mul .i64 (.v 1) (.v 8))) (.bin .mul .i64 (.v 2) (.v 6))) (.v 3))) (.bin .sub .i64 (.bin .add .i64 (.bin .add .i64 (.bin .mul .i64 (.v 0) (.v 4)) (.bin .mul .i64 (.v 1) (.v 5))) (.bin .mul .i64 (.v 2) (.v 9))) (.v 3))) (.bin .sub .i64 (.bin .add .i64 (.bin .add .i64 (.bin .mul .i64 (.v 0) (.v 7)) (.bin .mul .i64 (.v 1) (.v 5))) (.bin .mul .i64 (.v 2) (.v 9))) (.v 3))) (.bin .sub .i64 (.bin .add .i64 (.bin .add .i64 (.bin .mul .i64 (.v 0) (.v 4)) (.bin .mul .i64 (.v 1) (.v 8))) (.bin .mul .i64 (.v 2) (.v 9))) (.v 3))) (.bin .sub .i64 (.bin .add .i64 (.bin .add .i64 (.bin .mul .i64 (.v 0) (.v 7)) (.bin .mul .i64 (.v 1) (.v 8))) (.bin .mul .i64 (.v 2) (.v 9))) (.v 3))))]))
def rExtremesC : Con := ⟨21, [s4, s6], [.i 3, .i 4], okHB⟩
theorem rExtremesC_ok {S : Val K64} (hf : S.fv = plF.fv) (hp : S.pv = plF.pv) : ConOK Try.prog S anyW rExtremesC := by
  refine con_of hf hp (by kernel_rfl) mixed (cons := []) (eqs := plEqs) (fun _ _ _ _ h => by cases h) plEqs_ok (n := 300) (args := [a4 0, a6 4]) (T := TrExtremes) (fun S => by kernel_rfl) ?_ ?_
  · intro zs h hl
    obtain ⟨a, b, c, d, x, y, z, u, v, w, rfl⟩ := len10 hl
    rfl
  · intro zs h hl hpre
    obtain ⟨a, b, c, d, x, y, z, u, v, w, rfl⟩ := len10 hl
    obtain ⟨hH, hB⟩ := okHB_of hpre
    have hH := chkH_ok.1 hH
    have hB := chkB_ok.1 hB
    obtain ⟨ha, hb, hc, hd, _⟩ := hH
    obtain ⟨hx, hy, hz⟩ := hB
    have e1 := exLo_eq ha hb hc hd (x := x) (y := y) (z := z) (u := u) (v := v) (w := w) (by omega) (by omega) (by omega) (by omega) (by omega) (by omega)
    have e2 := exHi_eq ha hb hc hd (x := x) (y := y) (z := z) (u := u) (v := v) (w := w) (by omega) (by omega) (by omega) (by omega) (by omega) (by omega)
    rw [← sum8n] at e1
    rw [← sum8x] at e2
    refine Eq.trans (b := some (Value.tuple #[.int .i64 (mn2 (mn2 (mn2 (mn2 (mn2 (mn2 (mn2 (val a b c d x y z) (val a b c d u y z)) (val a b c d x v z)) (val a b c d u v z)) (val a b c d x y w)) (val a b c d u y w)) (val a b c d x v w)) (val a b c d u v w)), .int .i64 (mx2 (mx2 (mx2 (mx2 (mx2 (mx2 (mx2 (val a b c d x y z) (val a b c d u y z)) (val a b c d x v z)) (val a b c d u v z)) (val a b c d x y w)) (val a b c d u y w)) (val a b c d x v w)) (val a b c d u v w))])) (by kernel_rfl) ?_
    show _ = some (Value.tuple #[.int .i64 (exLo a b c d x y z u v w), .int .i64 (exHi a b c d x y z u v w)])
    rw [e1, e2]
    simp only [val_eq ha hb hc hd (x := x) (y := y) (z := z) (by omega) (by omega) (by omega), val_eq ha hb hc hd (x := u) (y := y) (z := z) (by omega) (by omega) (by omega), val_eq ha hb hc hd (x := x) (y := v) (z := z) (by omega) (by omega) (by omega), val_eq ha hb hc hd (x := u) (y := v) (z := z) (by omega) (by omega) (by omega), val_eq ha hb hc hd (x := x) (y := y) (z := w) (by omega) (by omega) (by omega), val_eq ha hb hc hd (x := u) (y := y) (z := w) (by omega) (by omega) (by omega), val_eq ha hb hc hd (x := x) (y := v) (z := w) (by omega) (by omega) (by omega), val_eq ha hb hc hd (x := u) (y := v) (z := w) (by omega) (by omega) (by omega)]

def awakeC : Con := ⟨12, [], [.c (.bool true)], []⟩
theorem awake_any (w : World) : Calls Try.prog 12 #[] w fun e w' => e = .returned (.bool true) ∧ Below w.heap.size w w' :=
  calls_closed (by kernel_rfl) (n := 300) (args := []) (by kernel_rfl) w
theorem awakeC_ok (S : Val K64) : ConOK Try.prog S anyW awakeC := by
  intro zs hz _ w _
  exact awake_any w
def plCons : List Con := [awakeC, planeCheckC, rPlaneCheckC, vecCheckC, rInC, boxCheckC, rBoxCheckC, extremesC, rExtremesC]
theorem plCons_ok (S : Val K64) (hf : S.fv = plF.fv) (hp : S.pv = plF.pv) : ∀ c ∈ plCons, ConOK Try.prog S anyW c := by
  intro c hc
  simp only [plCons, List.mem_cons, List.not_mem_nil, or_false] at hc
  rcases hc with rfl | rfl | rfl | rfl | rfl | rfl | rfl | rfl | rfl
  · exact awakeC_ok S
  · exact planeCheckC_ok hf hp
  · exact rPlaneCheckC_ok hf hp
  · exact vecCheckC_ok hf hp
  · exact rInC_ok hf hp
  · exact boxCheckC_ok hf hp
  · exact rBoxCheckC_ok hf hp
  · exact extremesC_ok hf hp
  · exact rExtremesC_ok hf hp
end Go.Proofs.Ytopjcpdhfohccaa
