/- Contracts of layer 3: Compare. -/
import Derived.Test.YtdbcflgacjgdoaaVeU
import Derived.Test.YtdbcflgacjgdoaaVeP
import Derived.Deep.RegionHeld3
namespace Go.Proofs.Ytdbcflgacjgdoaa
open Go.RowKit

theorem hDrew (W : World) (g : Nat) (x : Option Obj) (h : W.heap[g]? = x) : W.drew.heap[g]? = x := h
def cmpV (a b : V3) : Int := if a.1 = b.1 then (if a.2.1 = b.2.1 then cmpI a.2.2 b.2.2 else cmpI a.2.1 b.2.1) else cmpI a.1 b.1

set_option maxRecDepth 20000 in
set_option maxHeartbeats 8000000 in
theorem compare_ne (x y z x' y' z' : Int) (hne : ¬ (x = x' ∧ y = y' ∧ z = z')) (w : World) : Calls Try.prog 10 #[.agg #[.int .i64 x, .int .i64 y, .int .i64 z], .agg #[.int .i64 x', .int .i64 y', .int .i64 z']] w fun e w' => e = .returned (.int .i64 (cmpV (x, y, z) (x', y', z'))) ∧ Below w.heap.size w w' := by
  have q1 := fun W => eqlVec x y z x' y' z' W
  rw [decide_eq_false hne] at q1
  have HNE := Lib.hid hne
  clear hne
  have HR : Hid (cmpV (x, y, z) (x', y', z') = if x = x' then (if y = y' then cmpI z z' else cmpI y y') else cmpI x x') := rfl
  generalize cmpV (x, y, z) (x', y', z') = r at HR ⊢
  have HK := Lib.hid (fun a b c W => coordsE a b c W)
  have H64 := Lib.hid (fun m n W => cmp64 m n W)
  go_enter Try.func10, Try.ntmps10
  go_wp2_with fail
  clear q1
  obtain ⟨m1, m2, m3, m4⟩ := made2 w (.cells #[.int .i64 x, .int .i64 y, .int .i64 z] 23) (.cells #[.int .i64 x', .int .i64 y', .int .i64 z'] 23)
  generalize (w.alloc (.cells #[.int .i64 x, .int .i64 y, .int .i64 z] 23)).alloc (.cells #[.int .i64 x', .int .i64 y', .int .i64 z'] 23) = w1 at m1 m2 m3 m4 ⊢
  have HM : Hid (∀ w', Below w1.heap.size w1 w' → w'.cell? ⟨w.heap.size, 0, none⟩ = some (.int .i64 x) ∧ w'.cell? ⟨w.heap.size, 1, none⟩ = some (.int .i64 y) ∧ w'.cell? ⟨w.heap.size, 2, none⟩ = some (.int .i64 z) ∧ w'.cell? ⟨w.heap.size + 1, 0, none⟩ = some (.int .i64 x') ∧ w'.cell? ⟨w.heap.size + 1, 1, none⟩ = some (.int .i64 y') ∧ w'.cell? ⟨w.heap.size + 1, 2, none⟩ = some (.int .i64 z') ∧ Below w1.heap.size w1 w') := fun w' hB =>
    ⟨(hB.cell (p := ⟨_, 0, none⟩) (by show w.heap.size < _; omega)).trans (own3 m1).1, (hB.cell (p := ⟨_, 1, none⟩) (by show w.heap.size < _; omega)).trans (own3 m1).2.1, (hB.cell (p := ⟨_, 2, none⟩) (by show w.heap.size < _; omega)).trans (own3 m1).2.2.1,
      (hB.cell (p := ⟨_, 0, none⟩) (by show w.heap.size + 1 < _; omega)).trans (own3 m2).1, (hB.cell (p := ⟨_, 1, none⟩) (by show w.heap.size + 1 < _; omega)).trans (own3 m2).2.1, (hB.cell (p := ⟨_, 2, none⟩) (by show w.heap.size + 1 < _; omega)).trans (own3 m2).2.2.1, hB⟩
  have H3 := Lib.hid m3
  clear m3
  have hz1 : w.heap.size < w1.heap.size := by omega
  have hz2 : w.heap.size + 1 < w1.heap.size := by omega
  obtain ⟨s1, s2, s3, _, _, _⟩ := own3 m1
  obtain ⟨s4, s5, s6, _, _, _⟩ := own3 m2
  clear m1 m2 m4
  go_cut [5, 6] (fun s5 s6 wx => ∃ g h, s5 = .pointer (some ⟨g, 0, none⟩) ∧ s6 = .pointer (some ⟨h, 0, none⟩) ∧ wx.heap[g]? = some (.cells #[.int .i64 x, .int .i64 y, .int .i64 z] 43 (0, 0)) ∧ wx.heap[h]? = some (.cells #[.int .i64 x', .int .i64 y', .int .i64 z'] 43 (0, 0)) ∧ Below w1.heap.size w1 wx)
  case first =>
    go_region_held3 (fun w' => w'.cell? ⟨w.heap.size, 0, none⟩ = some (.int .i64 x) ∧ w'.cell? ⟨w.heap.size, 1, none⟩ = some (.int .i64 y) ∧ w'.cell? ⟨w.heap.size, 2, none⟩ = some (.int .i64 z) ∧ w'.cell? ⟨w.heap.size + 1, 0, none⟩ = some (.int .i64 x') ∧ w'.cell? ⟨w.heap.size + 1, 1, none⟩ = some (.int .i64 y') ∧ w'.cell? ⟨w.heap.size + 1, 2, none⟩ = some (.int .i64 z') ∧ Below w1.heap.size w1 w')
      ((refine HM.out _ ?_; repeat (first | exact Below.refl _ _ | refine bAl ?_ | refine Below.drew ?_)))
      (first | (go_at_call 26; refine (HK.out _ _ _ _).mono ?_; rintro e w' ⟨rfl, rfl⟩))
    all_goals rename_i hH
    all_goals have HB := Lib.hid hH.2.2.2.2.2.2
    all_goals clear hH HK H64 HR HNE HM s1 s2 s3 s4 s5 s6
    all_goals go_wp2_with fail
    all_goals go_meet
    all_goals refine ⟨_, _, rfl, rfl, ?_, ?_, HB.out⟩
    all_goals (repeat (first | (refine hDrew _ _ _ ?_) | (refine hNew _ _ _ ?_; simp only [szA]; done) | (refine hOld _ _ _ _ ?_ ?_; (simp only [szA]; omega))))
  case rest =>
    obtain ⟨g, h, rfl, rfl, hg, hh, hB⟩ := hcut
    obtain ⟨g1, g2, g3, _, _, _⟩ := own3 hg
    obtain ⟨h1, h2, h3, _, _, _⟩ := own3 hh
    have HB := Lib.hid (H3.out.trans (hB.mono H3.out.size))
    clear hB hg hh HM HK H3
    have hne := HNE.out
    clear HNE
    by_cases e1 : x = x'
    · subst e1
      by_cases e2 : y = y'
      · subst e2
        have e3 : ¬ z = z' := fun h => hne ⟨rfl, rfl, h⟩
        have e3' : (z == z') = false := by simp [e3]
        have hr : r = cmpI z z' := by have := HR.out; simpa using this
        have HR' := Lib.hid hr
        clear hne hr HR e3
        go_wp2_with fail
        refine wp_loop_rounds 3 ?_
        iterate 2 (rw [rounds_succ]; go_wp2_with fail; go_quiet (fail); go_wp2_with fail)
        rw [rounds_succ]
        go_wp2_with fail
        go_quiet (fail)
        go_wp2_with fail
        go_region_held3 (fun w' => w'.cell? ⟨g, 2, none⟩ = some (.int .i64 z) ∧ w'.cell? ⟨h, 2, none⟩ = some (.int .i64 z') ∧ Below w.heap.size w w') (first | exact ⟨g3, h3, (below_drewN (below_drewN HB.out _) _).drew⟩ | exact ⟨g3, h3, (below_drewN HB.out _).drew⟩ | assumption) (first | (go_at_call 27; refine (H64.out _ _ _).mono ?_; rintro e w' ⟨rfl, rfl⟩))
        rename_i hH
        have HF := Lib.hid hH.2.2
        clear hH
        go_wp2_with fail
        go_ret
        rw [HR'.out]
        exact ⟨rfl, HF.out⟩
      · have e2' : (y == y') = false := by simp [e2]
        have hr : r = cmpI y y' := by have := HR.out; simpa [e2] using this
        have HR' := Lib.hid hr
        clear hne hr HR e2
        go_wp2_with fail
        refine wp_loop_rounds 2 ?_
        iterate 1 (rw [rounds_succ]; go_wp2_with fail; go_quiet (fail); go_wp2_with fail)
        rw [rounds_succ]
        go_wp2_with fail
        go_quiet (fail)
        go_wp2_with fail
        go_region_held3 (fun w' => w'.cell? ⟨g, 1, none⟩ = some (.int .i64 y) ∧ w'.cell? ⟨h, 1, none⟩ = some (.int .i64 y') ∧ Below w.heap.size w w') (first | exact ⟨g2, h2, (below_drewN (below_drewN HB.out _) _).drew⟩ | exact ⟨g2, h2, (below_drewN HB.out _).drew⟩ | assumption) (first | (go_at_call 27; refine (H64.out _ _ _).mono ?_; rintro e w' ⟨rfl, rfl⟩))
        rename_i hH
        have HF := Lib.hid hH.2.2
        clear hH
        go_wp2_with fail
        go_ret
        rw [HR'.out]
        exact ⟨rfl, HF.out⟩
    · have e1' : (x == x') = false := by simp [e1]
      have hr : r = cmpI x x' := by have := HR.out; simpa [e1] using this
      have HR' := Lib.hid hr
      clear hne hr HR e1
      go_wp2_with fail
      refine wp_loop_rounds 1 ?_
      rw [rounds_succ]
      go_wp2_with fail
      go_quiet (fail)
      go_wp2_with fail
      go_region_held3 (fun w' => w'.cell? ⟨g, 0, none⟩ = some (.int .i64 x) ∧ w'.cell? ⟨h, 0, none⟩ = some (.int .i64 x') ∧ Below w.heap.size w w') (first | exact ⟨g1, h1, (below_drewN (below_drewN HB.out _) _).drew⟩ | exact ⟨g1, h1, (below_drewN HB.out _).drew⟩ | assumption) (first | (go_at_call 27; refine (H64.out _ _ _).mono ?_; rintro e w' ⟨rfl, rfl⟩))
      rename_i hH
      have HF := Lib.hid hH.2.2
      clear hH
      go_wp2_with fail
      go_ret
      rw [HR'.out]
      exact ⟨rfl, HF.out⟩

set_option maxRecDepth 20000 in
set_option maxHeartbeats 4000000 in
theorem compare_eq (x y z : Int) (w : World) : Calls Try.prog 10 #[.agg #[.int .i64 x, .int .i64 y, .int .i64 z], .agg #[.int .i64 x, .int .i64 y, .int .i64 z]] w fun e w' => e = .returned (.int .i64 0) ∧ Below w.heap.size w w' := by
  have q1 := fun W => eqlVec x y z x y z W
  rw [decide_eq_true ⟨rfl, rfl, rfl⟩] at q1
  go_enter Try.func10, Try.ntmps10
  go_wp2_with fail
  go_ret
  exact ⟨rfl, below2 _ _ _⟩
theorem cmpV_self (a : V3) : cmpV a a = 0 := by simp [cmpV, cmpI]
theorem compare_any (a b : V3) (w : World) : Calls Try.prog 10 #[vecV a, vecV b] w fun e w' => e = .returned (.int .i64 (cmpV a b)) ∧ Below w.heap.size w w' := by
  by_cases h : a = b
  · subst h
    rw [cmpV_self]
    exact compare_eq _ _ _ w
  · obtain ⟨x, y, z⟩ := a
    obtain ⟨x', y', z'⟩ := b
    exact compare_ne x y z x' y' z' (fun he => h (by obtain ⟨rfl, rfl, rfl⟩ := he; rfl)) w
end Go.Proofs.Ytdbcflgacjgdoaa
