/- Layer 6 (box): contracts by trees of cases. -/
import Derived.Test.YtonhlfaddfgpaaaBoM
import Derived.Test.YtonhlfaddfgpaaaProg
namespace Go.Proofs.Ytonhlfaddfgpaaa
open Go.RowKit Go.Ev
set_option linter.unusedSimpArgs false

def boEqs : FlatTab := [(23, [.i64, .i64, .i64]), (25, [.i64, .i64, .i64, .i64, .i64, .i64])]
theorem boEqs_ok : flatTabOK Try.prog boEqs = true := by kernel_rfl
theorem mixed : Try.prog.follows .mixedOrders = true := by kernel_rfl
def s3 : Sh := .agg [.i64, .i64, .i64]
def s6 : Sh := .agg [.i64, .i64, .i64, .i64, .i64, .i64]
def a3 (i : Nat) : CV := .agg [.sy (.v i), .sy (.v (i + 1)), .sy (.v (i + 2))]
def a6 (i : Nat) : CV := .agg [.sy (.v i), .sy (.v (i + 1)), .sy (.v (i + 2)), .sy (.v (i + 3)), .sy (.v (i + 4)), .sy (.v (i + 5))]

set_option maxRecDepth 100000

def TCheck : Tr :=
(.br (.lt (.v 0) (.lit .i64 (-1000000)))
 (.leaf (.clo (.int .i64 6)))
 (.br (.lt (.lit .i64 1000000) (.v 0))
 (.leaf (.clo (.int .i64 6)))
 (.br (.lt (.v 1) (.lit .i64 (-1000000)))
 (.leaf (.clo (.int .i64 6)))
 (.br (.lt (.lit .i64 1000000) (.v 1))
 (.leaf (.clo (.int .i64 6)))
 (.br (.lt (.v 2) (.lit .i64 (-1000000)))
 (.leaf (.clo (.int .i64 6)))
 (.br (.lt (.lit .i64 1000000) (.v 2))
 (.leaf (.clo (.int .i64 6)))
 (.br (.lt (.v 3) (.lit .i64 (-1000000)))
 (.leaf (.clo (.int .i64 6)))
 (.br (.lt (.lit .i64 1000000) (.v 3))
 (.leaf (.clo (.int .i64 6)))
 (.br (.lt (.v 4) (.lit .i64 (-1000000)))
 (.leaf (.clo (.int .i64 6)))
 (.br (.lt (.lit .i64 1000000) (.v 4))
 (.leaf (.clo (.int .i64 6)))
 (.br (.lt (.v 5) (.lit .i64 (-1000000)))
 (.leaf (.clo (.int .i64 6)))
 (.br (.lt (.lit .i64 1000000) (.v 5))
 (.leaf (.clo (.int .i64 6)))
 (.br (.lt (.v 0) (.v 3))
 (.br (.lt (.v 1) (.v 4))
 (.br (.lt (.v 2) (.v 5))
 (.leaf (.clo (.int .i64 0)))
 (.leaf (.clo (.int .i64 1))))
 (.leaf (.clo (.int .i64 1))))
 (.leaf (.clo (.int .i64 1))))))))))))))))
def CheckC : Con := ⟨15, [s6], [.i 0], []⟩
theorem CheckC_ok {S : Val K64} (hf : S.fv = boF.fv) (hp : S.pv = boF.pv) : ConOK Try.prog S anyW CheckC := by
  refine con_of hf hp (by kernel_rfl) mixed (cons := []) (eqs := boEqs) (fun _ _ _ _ h => by cases h) boEqs_ok (n := 300) (args := [a6 0]) (T := TCheck) (fun S => by kernel_rfl) ?_ ?_
  · intro zs hz hl
    obtain ⟨a, b, c, d, e, f, rfl⟩ := len6 hl
    rfl
  · intro zs hz hl _
    obtain ⟨a, b, c, d, e, f, rfl⟩ := len6 hl
    unfold TCheck
    repeat' ((with_reducible refine br_val ?_ ?_) <;> (intro hh; simp only [at_lt_t, at_lt_f, at_eq_t, at_eq_f, tv, bV_add, bV_sub, bV_mul, bV_mn, bV_mx, val64_vv, List.getD_cons_zero, List.getD_cons_succ] at hh))
    all_goals
      show some (Value.int IntKind.i64 _) = some (Value.int IntKind.i64 (chkB a b c d e f))
      congr 2
      unfold chkB
      repeat' split
      all_goals omega

def TrCheck : Tr :=
(.br (.lt (.v 0) (.lit .i64 (-1000000)))
 (.leaf (.clo (.int .i64 6)))
 (.br (.lt (.lit .i64 1000000) (.v 0))
 (.leaf (.clo (.int .i64 6)))
 (.br (.lt (.v 3) (.lit .i64 (-1000000)))
 (.leaf (.clo (.int .i64 6)))
 (.br (.lt (.lit .i64 1000000) (.v 3))
 (.leaf (.clo (.int .i64 6)))
 (.br (.lt (.v 1) (.lit .i64 (-1000000)))
 (.leaf (.clo (.int .i64 6)))
 (.br (.lt (.lit .i64 1000000) (.v 1))
 (.leaf (.clo (.int .i64 6)))
 (.br (.lt (.v 4) (.lit .i64 (-1000000)))
 (.leaf (.clo (.int .i64 6)))
 (.br (.lt (.lit .i64 1000000) (.v 4))
 (.leaf (.clo (.int .i64 6)))
 (.br (.lt (.v 2) (.lit .i64 (-1000000)))
 (.leaf (.clo (.int .i64 6)))
 (.br (.lt (.lit .i64 1000000) (.v 2))
 (.leaf (.clo (.int .i64 6)))
 (.br (.lt (.v 5) (.lit .i64 (-1000000)))
 (.leaf (.clo (.int .i64 6)))
 (.br (.lt (.lit .i64 1000000) (.v 5))
 (.leaf (.clo (.int .i64 6)))
 (.br (.lt (.v 0) (.v 3))
 (.br (.lt (.v 1) (.v 4))
 (.br (.lt (.v 2) (.v 5))
 (.leaf (.clo (.int .i64 0)))
 (.leaf (.clo (.int .i64 1))))
 (.leaf (.clo (.int .i64 1))))
 (.leaf (.clo (.int .i64 1))))))))))))))))
def rCheckC : Con := ⟨12, [s6], [.i 0], []⟩
theorem rCheckC_ok {S : Val K64} (hf : S.fv = boF.fv) (hp : S.pv = boF.pv) : ConOK Try.prog S anyW rCheckC := by
  refine con_of hf hp (by kernel_rfl) mixed (cons := []) (eqs := boEqs) (fun _ _ _ _ h => by cases h) boEqs_ok (n := 300) (args := [a6 0]) (T := TrCheck) (fun S => by kernel_rfl) ?_ ?_
  · intro zs hz hl
    obtain ⟨a, b, c, d, e, f, rfl⟩ := len6 hl
    rfl
  · intro zs hz hl _
    obtain ⟨a, b, c, d, e, f, rfl⟩ := len6 hl
    unfold TrCheck
    repeat' ((with_reducible refine br_val ?_ ?_) <;> (intro hh; simp only [at_lt_t, at_lt_f, at_eq_t, at_eq_f, tv, bV_add, bV_sub, bV_mul, bV_mn, bV_mx, val64_vv, List.getD_cons_zero, List.getD_cons_succ] at hh))
    all_goals
      show some (Value.int IntKind.i64 _) = some (Value.int IntKind.i64 (chkB a b c d e f))
      congr 2
      unfold chkB
      repeat' split
      all_goals omega

def Tvolume : Tr :=
(.leaf (.sy (.bin .mul .i64 (.bin .mul .i64 (.bin .sub .i64 (.v 3) (.v 0)) (.bin .sub .i64 (.v 4) (.v 1))) (.bin .sub .i64 (.v 5) (.v 2)))))
def volumeC : Con := ⟨49, [s6], [.i 1], []⟩
theorem volumeC_ok {S : Val K64} (hf : S.fv = boF.fv) (hp : S.pv = boF.pv) : ConOK Try.prog S anyW volumeC := by
  refine con_of hf hp (by kernel_rfl) mixed (cons := []) (eqs := boEqs) (fun _ _ _ _ h => by cases h) boEqs_ok (n := 300) (args := [a6 0]) (T := Tvolume) (fun S => by kernel_rfl) ?_ ?_
  · intro zs hz hl
    obtain ⟨a, b, c, d, e, f, rfl⟩ := len6 hl
    rfl
  · intro zs hz hl _
    obtain ⟨a, b, c, d, e, f, rfl⟩ := len6 hl
    unfold Tvolume
    rfl

def TrVolume : Tr :=
(.leaf (.sy (.bin .mul .i64 (.bin .mul .i64 (.bin .sub .i64 (.v 3) (.v 0)) (.bin .sub .i64 (.v 4) (.v 1))) (.bin .sub .i64 (.v 5) (.v 2)))))
def rVolumeC : Con := ⟨19, [s6], [.i 1], []⟩
theorem rVolumeC_ok {S : Val K64} (hf : S.fv = boF.fv) (hp : S.pv = boF.pv) : ConOK Try.prog S anyW rVolumeC := by
  refine con_of hf hp (by kernel_rfl) mixed (cons := []) (eqs := boEqs) (fun _ _ _ _ h => by cases h) boEqs_ok (n := 300) (args := [a6 0]) (T := TrVolume) (fun S => by kernel_rfl) ?_ ?_
  · intro zs hz hl
    obtain ⟨a, b, c, d, e, f, rfl⟩ := len6 hl
    rfl
  · intro zs hz hl _
    obtain ⟨a, b, c, d, e, f, rfl⟩ := len6 hl
    unfold TrVolume
    rfl

def THas : Tr :=
(.br (.lt (.v 6) (.v 0))
 (.leaf (.clo (.bool false)))
 (.br (.lt (.v 7) (.v 1))
 (.leaf (.clo (.bool false)))
 (.br (.lt (.v 8) (.v 2))
 (.leaf (.clo (.bool false)))
 (.br (.lt (.v 6) (.v 3))
 (.br (.lt (.v 7) (.v 4))
 (.br (.lt (.v 8) (.v 5))
 (.leaf (.clo (.bool true)))
 (.leaf (.clo (.bool false))))
 (.leaf (.clo (.bool false))))
 (.leaf (.clo (.bool false)))))))
def HasC : Con := ⟨25, [s6, s3], [.b 1], []⟩
theorem HasC_ok {S : Val K64} (hf : S.fv = boF.fv) (hp : S.pv = boF.pv) : ConOK Try.prog S anyW HasC := by
  refine con_of hf hp (by kernel_rfl) mixed (cons := []) (eqs := boEqs) (fun _ _ _ _ h => by cases h) boEqs_ok (n := 300) (args := [a6 0, a3 6]) (T := THas) (fun S => by kernel_rfl) ?_ ?_
  · intro zs hz hl
    obtain ⟨a, b, c, d, e, f, g, h, i, rfl⟩ := len9 hl
    rfl
  · intro zs hz hl _
    obtain ⟨a, b, c, d, e, f, g, h, i, rfl⟩ := len9 hl
    unfold THas
    repeat' ((with_reducible refine br_val ?_ ?_) <;> (intro hh; simp only [at_lt_t, at_lt_f, at_eq_t, at_eq_f, tv, bV_add, bV_sub, bV_mul, bV_mn, bV_mx, val64_vv, List.getD_cons_zero, List.getD_cons_succ] at hh))
    all_goals
      show some (Value.bool _) = some (Value.bool (hasB a b c d e f g h i))
      congr 2
      first
      | (symm; exact hasB_f.2 (by omega))
      | (symm; exact hasB_t.2 (by omega))

def TrHas : Tr :=
(.br (.lt (.v 6) (.v 0))
 (.leaf (.clo (.bool false)))
 (.br (.lt (.v 6) (.v 3))
 (.br (.lt (.v 7) (.v 1))
 (.leaf (.clo (.bool false)))
 (.br (.lt (.v 7) (.v 4))
 (.br (.lt (.v 8) (.v 2))
 (.leaf (.clo (.bool false)))
 (.br (.lt (.v 8) (.v 5))
 (.leaf (.clo (.bool true)))
 (.leaf (.clo (.bool false)))))
 (.leaf (.clo (.bool false)))))
 (.leaf (.clo (.bool false)))))
def rHasC : Con := ⟨26, [s6, s3], [.b 1], []⟩
theorem rHasC_ok {S : Val K64} (hf : S.fv = boF.fv) (hp : S.pv = boF.pv) : ConOK Try.prog S anyW rHasC := by
  refine con_of hf hp (by kernel_rfl) mixed (cons := []) (eqs := boEqs) (fun _ _ _ _ h => by cases h) boEqs_ok (n := 300) (args := [a6 0, a3 6]) (T := TrHas) (fun S => by kernel_rfl) ?_ ?_
  · intro zs hz hl
    obtain ⟨a, b, c, d, e, f, g, h, i, rfl⟩ := len9 hl
    rfl
  · intro zs hz hl _
    obtain ⟨a, b, c, d, e, f, g, h, i, rfl⟩ := len9 hl
    unfold TrHas
    repeat' ((with_reducible refine br_val ?_ ?_) <;> (intro hh; simp only [at_lt_t, at_lt_f, at_eq_t, at_eq_f, tv, bV_add, bV_sub, bV_mul, bV_mn, bV_mx, val64_vv, List.getD_cons_zero, List.getD_cons_succ] at hh))
    all_goals
      show some (Value.bool _) = some (Value.bool (hasB a b c d e f g h i))
      congr 2
      first
      | (symm; exact hasB_f.2 (by omega))
      | (symm; exact hasB_t.2 (by omega))

def TInside : Tr :=
(.br (.lt (.v 0) (.v 6))
 (.leaf (.clo (.bool false)))
 (.br (.lt (.v 1) (.v 7))
 (.leaf (.clo (.bool false)))
 (.br (.lt (.v 2) (.v 8))
 (.leaf (.clo (.bool false)))
 (.br (.lt (.v 9) (.v 3))
 (.leaf (.clo (.bool false)))
 (.br (.lt (.v 10) (.v 4))
 (.leaf (.clo (.bool false)))
 (.br (.lt (.v 11) (.v 5))
 (.leaf (.clo (.bool false)))
 (.leaf (.clo (.bool true)))))))))
def InsideC : Con := ⟨27, [s6, s6], [.b 2], []⟩
theorem InsideC_ok {S : Val K64} (hf : S.fv = boF.fv) (hp : S.pv = boF.pv) : ConOK Try.prog S anyW InsideC := by
  refine con_of hf hp (by kernel_rfl) mixed (cons := []) (eqs := boEqs) (fun _ _ _ _ h => by cases h) boEqs_ok (n := 300) (args := [a6 0, a6 6]) (T := TInside) (fun S => by kernel_rfl) ?_ ?_
  · intro zs hz hl
    obtain ⟨a, b, c, d, e, f, g, h, i, j, k, l, rfl⟩ := len12 hl
    rfl
  · intro zs hz hl _
    obtain ⟨a, b, c, d, e, f, g, h, i, j, k, l, rfl⟩ := len12 hl
    unfold TInside
    repeat' ((with_reducible refine br_val ?_ ?_) <;> (intro hh; simp only [at_lt_t, at_lt_f, at_eq_t, at_eq_f, tv, bV_add, bV_sub, bV_mul, bV_mn, bV_mx, val64_vv, List.getD_cons_zero, List.getD_cons_succ] at hh))
    all_goals
      show some (Value.bool _) = some (Value.bool (insB a b c d e f g h i j k l))
      congr 2
      first
      | (symm; exact insB_f.2 (by omega))
      | (symm; exact insB_t.2 (by omega))

def TrInside : Tr :=
(.br (.lt (.v 0) (.v 6))
 (.leaf (.clo (.bool false)))
 (.br (.lt (.v 9) (.v 3))
 (.leaf (.clo (.bool false)))
 (.br (.lt (.v 1) (.v 7))
 (.leaf (.clo (.bool false)))
 (.br (.lt (.v 10) (.v 4))
 (.leaf (.clo (.bool false)))
 (.br (.lt (.v 2) (.v 8))
 (.leaf (.clo (.bool false)))
 (.br (.lt (.v 11) (.v 5))
 (.leaf (.clo (.bool false)))
 (.leaf (.clo (.bool true)))))))))
def rInsideC : Con := ⟨28, [s6, s6], [.b 2], []⟩
theorem rInsideC_ok {S : Val K64} (hf : S.fv = boF.fv) (hp : S.pv = boF.pv) : ConOK Try.prog S anyW rInsideC := by
  refine con_of hf hp (by kernel_rfl) mixed (cons := []) (eqs := boEqs) (fun _ _ _ _ h => by cases h) boEqs_ok (n := 300) (args := [a6 0, a6 6]) (T := TrInside) (fun S => by kernel_rfl) ?_ ?_
  · intro zs hz hl
    obtain ⟨a, b, c, d, e, f, g, h, i, j, k, l, rfl⟩ := len12 hl
    rfl
  · intro zs hz hl _
    obtain ⟨a, b, c, d, e, f, g, h, i, j, k, l, rfl⟩ := len12 hl
    unfold TrInside
    repeat' ((with_reducible refine br_val ?_ ?_) <;> (intro hh; simp only [at_lt_t, at_lt_f, at_eq_t, at_eq_f, tv, bV_add, bV_sub, bV_mul, bV_mn, bV_mx, val64_vv, List.getD_cons_zero, List.getD_cons_succ] at hh))
    all_goals
      show some (Value.bool _) = some (Value.bool (insB a b c d e f g h i j k l))
      congr 2
      first
      | (symm; exact insB_f.2 (by omega))
      | (symm; exact insB_t.2 (by omega))

def TOverlap : Tr :=
(.br (.lt (.bin .mx .i64 (.v 0) (.v 6)) (.bin .mn .i64 (.v 3) (.v 9)))
 (.br (.lt (.bin .mx .i64 (.v 1) (.v 7)) (.bin .mn .i64 (.v 4) (.v 10)))
 (.br (.lt (.bin .mx .i64 (.v 2) (.v 8)) (.bin .mn .i64 (.v 5) (.v 11)))
 (.leaf (.clo (.bool true)))
 (.leaf (.clo (.bool false))))
 (.leaf (.clo (.bool false))))
 (.leaf (.clo (.bool false))))
def OverlapC : Con := ⟨29, [s6, s6], [.b 0], []⟩
theorem OverlapC_ok {S : Val K64} (hf : S.fv = boF.fv) (hp : S.pv = boF.pv) : ConOK Try.prog S anyW OverlapC := by
  refine con_of hf hp (by kernel_rfl) mixed (cons := []) (eqs := boEqs) (fun _ _ _ _ h => by cases h) boEqs_ok (n := 300) (args := [a6 0, a6 6]) (T := TOverlap) (fun S => by kernel_rfl) ?_ ?_
  · intro zs hz hl
    obtain ⟨a, b, c, d, e, f, g, h, i, j, k, l, rfl⟩ := len12 hl
    rfl
  · intro zs hz hl _
    obtain ⟨a, b, c, d, e, f, g, h, i, j, k, l, rfl⟩ := len12 hl
    unfold TOverlap
    repeat' ((with_reducible refine br_val ?_ ?_) <;> (intro hh; simp only [at_lt_t, at_lt_f, at_eq_t, at_eq_f, tv, bV_add, bV_sub, bV_mul, bV_mn, bV_mx, val64_vv, List.getD_cons_zero, List.getD_cons_succ] at hh))
    all_goals
      show some (Value.bool _) = some (Value.bool (ovl a d g j && ovl b e h k && ovl c f i l))
      unfold ovl
      congr 2
      symm
      simp only [Bool.and_eq_true, Bool.and_eq_false_iff, decide_eq_true_eq, decide_eq_false_iff_not]
      first
      | exact ⟨⟨by omega, by omega⟩, by omega⟩
      | exact .inr (by omega)
      | exact .inl (.inr (by omega))
      | exact .inl (.inl (by omega))

def TrOverlap : Tr :=
(.br (.lt (.bin .mx .i64 (.v 0) (.v 6)) (.bin .mn .i64 (.v 3) (.v 9)))
 (.br (.lt (.bin .mx .i64 (.v 1) (.v 7)) (.bin .mn .i64 (.v 4) (.v 10)))
 (.br (.lt (.bin .mx .i64 (.v 2) (.v 8)) (.bin .mn .i64 (.v 5) (.v 11)))
 (.leaf (.clo (.bool true)))
 (.leaf (.clo (.bool false))))
 (.leaf (.clo (.bool false))))
 (.leaf (.clo (.bool false))))
def rOverlapC : Con := ⟨30, [s6, s6], [.b 0], []⟩
theorem rOverlapC_ok {S : Val K64} (hf : S.fv = boF.fv) (hp : S.pv = boF.pv) : ConOK Try.prog S anyW rOverlapC := by
  refine con_of hf hp (by kernel_rfl) mixed (cons := []) (eqs := boEqs) (fun _ _ _ _ h => by cases h) boEqs_ok (n := 300) (args := [a6 0, a6 6]) (T := TrOverlap) (fun S => by kernel_rfl) ?_ ?_
  · intro zs hz hl
    obtain ⟨a, b, c, d, e, f, g, h, i, j, k, l, rfl⟩ := len12 hl
    rfl
  · intro zs hz hl _
    obtain ⟨a, b, c, d, e, f, g, h, i, j, k, l, rfl⟩ := len12 hl
    unfold TrOverlap
    repeat' ((with_reducible refine br_val ?_ ?_) <;> (intro hh; simp only [at_lt_t, at_lt_f, at_eq_t, at_eq_f, tv, bV_add, bV_sub, bV_mul, bV_mn, bV_mx, val64_vv, List.getD_cons_zero, List.getD_cons_succ] at hh))
    all_goals
      show some (Value.bool _) = some (Value.bool (ovl a d g j && ovl b e h k && ovl c f i l))
      unfold ovl
      congr 2
      symm
      simp only [Bool.and_eq_true, Bool.and_eq_false_iff, decide_eq_true_eq, decide_eq_false_iff_not]
      first
      | exact ⟨⟨by omega, by omega⟩, by omega⟩
      | exact .inr (by omega)
      | exact .inl (.inr (by omega))
      | exact .inl (.inl (by omega))

def boCons0 : List Con := [CheckC, rCheckC, volumeC, rVolumeC, HasC, rHasC, InsideC, rInsideC, OverlapC, rOverlapC]
theorem boCons0_ok (S : Val K64) (hf : S.fv = boF.fv) (hp : S.pv = boF.pv) : ∀ c ∈ boCons0, ConOK Try.prog S anyW c := by
  intro c hc
  simp only [boCons0, List.mem_cons, List.not_mem_nil, or_false] at hc
  rcases hc with rfl | rfl | rfl | rfl | rfl | rfl | rfl | rfl | rfl | rfl
  · exact CheckC_ok hf hp
  · exact rCheckC_ok hf hp
  · exact volumeC_ok hf hp
  · exact rVolumeC_ok hf hp
  · exact HasC_ok hf hp
  · exact rHasC_ok hf hp
  · exact InsideC_ok hf hp
  · exact rInsideC_ok hf hp
  · exact OverlapC_ok hf hp
  · exact rOverlapC_ok hf hp
end Go.Proofs.Ytonhlfaddfgpaaa
