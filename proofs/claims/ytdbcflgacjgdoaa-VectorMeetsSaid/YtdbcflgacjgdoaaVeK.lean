/- Contracts of layer 3: Meet of the reference. -/
import Derived.Test.YtdbcflgacjgdoaaVeY
namespace Go.Proofs.Ytdbcflgacjgdoaa
open Go.RowKit

set_option maxHeartbeats 1000000 in
theorem rBefore (a b : Pt) (w : World) : Calls Try.prog 35 #[ptV a, ptV b] w fun e w' => e = .returned (.bool (beforeR a b)) ∧ Below w.heap.size w w' := by
  obtain ⟨a1, a2⟩ := a
  obtain ⟨b1, b2⟩ := b
  have HR : Hid (beforeR (a1, a2) (b1, b2) = decide (a1 < b1 ∨ a1 = b1 ∧ a2 < b2)) := rfl
  generalize beforeR (a1, a2) (b1, b2) = r at HR ⊢
  by_cases h1 : a1 < b1
  · have hr : r = true := by rw [HR.out]; exact decide_eq_true (Or.inl h1)
    subst hr
    go_enter Try.func35, Try.ntmps35
    go_wp2_with fail
    go_ret
    exact ⟨ret_bool (by simp), below2 _ _ _⟩
  by_cases h2 : a1 = b1
  · subst h2
    by_cases h3 : a2 < b2
    · have hr : r = true := by rw [HR.out]; exact decide_eq_true (Or.inr ⟨rfl, h3⟩)
      subst hr
      go_enter Try.func35, Try.ntmps35
      go_wp2_with fail
      go_ret
      exact ⟨ret_bool (by simp), below2 _ _ _⟩
    · have hr : r = false := by rw [HR.out]; exact decide_eq_false (by omega)
      subst hr
      go_enter Try.func35, Try.ntmps35
      go_wp2_with fail
      go_ret
      exact ⟨ret_bool (by simp), below2 _ _ _⟩
  · have hr : r = false := by rw [HR.out]; exact decide_eq_false (by omega)
    have h2' : (a1 == b1) = false := by simp [h2]
    subst hr
    go_enter Try.func35, Try.ntmps35
    go_wp2_with fail
    go_ret
    exact ⟨ret_bool (by simp), below2 _ _ _⟩
set_option maxRecDepth 20000 in
set_option maxHeartbeats 4000000 in
theorem rSorted (a b : Pt) (w : World) : Calls Try.prog 34 #[ptV a, ptV b] w fun e w' => e = .returned (.tuple #[ptV (sortR a b).1, ptV (sortR a b).2]) ∧ Below w.heap.size w w' := by
  have hB := fun W => rBefore b a W
  have hR : sortR a b = if beforeR b a then (b, a) else (a, b) := rfl
  obtain ⟨a1, a2⟩ := a
  obtain ⟨b1, b2⟩ := b
  generalize sortR (a1, a2) (b1, b2) = r at hR ⊢
  have HM := Lib.hid (fun t => made4 w (.cells #[.int .i64 a1, .int .i64 a2] t) (.cells #[.int .i64 b1, .int .i64 b2] t) (.cells #[.int .i64 0, .int .i64 0] t) (.cells #[.int .i64 0, .int .i64 0] t))
  cases hb : beforeR (b1, b2) (a1, a2)
  all_goals
    rw [hb] at hB hR
    simp only [if_true, Bool.false_eq_true, if_false] at hR
    subst hR
    have HB0 := Lib.hid hB
    clear hB hb
    go_enter Try.func34, Try.ntmps34
    go_wp2_with fail
    refine (HB0.out _).mono ?_
    rintro e w1 ⟨rfl, hb⟩
    obtain ⟨m1, m2, m3, m4, m5, m6⟩ := HM.out 35
    obtain ⟨p1, p2, _, _⟩ := own2 ((hb.block _ (by rw [m6]; omega)).trans m1)
    obtain ⟨p3, p4, _, _⟩ := own2 ((hb.block _ (by rw [m6]; omega)).trans m2)
    obtain ⟨r1, r2, r3, r4⟩ := own2 ((hb.block _ (by rw [m6]; omega)).trans m3)
    obtain ⟨r5, r6, r7, r8⟩ := own2 ((hb.block _ (by rw [m6]; omega)).trans m4)
    have HB := Lib.hid (m5.trans (hb.mono (by rw [m6]; omega)))
    clear m1 m2 m3 m4 m5 m6 hb HM HB0
    go_wp2_with fail
    go_region
    all_goals go_wp2_with fail
    all_goals first
      | exact bodyPost_ret (v := .tuple #[.agg #[.int .i64 a1, .int .i64 a2], .agg #[.int .i64 b1, .int .i64 b2]]) (by simp [results, Try.results34, go_sem, r1, r2, r5, r6]) rfl ⟨rfl, ((((HB.out.drew.setCell (p := ⟨w.heap.size + 1 + 1, 0, none⟩) (by show w.heap.size ≤ w.heap.size + 1 + 1; omega) _).setCell (p := ⟨w.heap.size + 1 + 1, 1, none⟩) (by show w.heap.size ≤ w.heap.size + 1 + 1; omega) _).setCell (p := ⟨w.heap.size + 1 + 1 + 1, 0, none⟩) (by show w.heap.size ≤ w.heap.size + 1 + 1 + 1; omega) _).setCell (p := ⟨w.heap.size + 1 + 1 + 1, 1, none⟩) (by show w.heap.size ≤ w.heap.size + 1 + 1 + 1; omega) _)⟩
      | exact bodyPost_ret (v := .tuple #[.agg #[.int .i64 b1, .int .i64 b2], .agg #[.int .i64 a1, .int .i64 a2]]) (by simp [results, Try.results34, go_sem, r1, r2, r5, r6]) rfl ⟨rfl, ((((HB.out.drew.setCell (p := ⟨w.heap.size + 1 + 1, 0, none⟩) (by show w.heap.size ≤ w.heap.size + 1 + 1; omega) _).setCell (p := ⟨w.heap.size + 1 + 1, 1, none⟩) (by show w.heap.size ≤ w.heap.size + 1 + 1; omega) _).setCell (p := ⟨w.heap.size + 1 + 1 + 1, 0, none⟩) (by show w.heap.size ≤ w.heap.size + 1 + 1 + 1; omega) _).setCell (p := ⟨w.heap.size + 1 + 1 + 1, 1, none⟩) (by show w.heap.size ≤ w.heap.size + 1 + 1 + 1; omega) _)⟩
end Go.Proofs.Ytdbcflgacjgdoaa
