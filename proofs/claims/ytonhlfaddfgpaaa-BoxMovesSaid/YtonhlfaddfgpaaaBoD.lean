/- Layer 6 (box): plain maths of boxes that are moved, and of contact in both ways. -/
import Derived.Test.YtonhlfaddfgpaaaBoC
namespace Go.Proofs.Ytonhlfaddfgpaaa
open Go.RowKit Go.Ev
set_option linter.unusedSimpArgs false

theorem vol_shift (a b c d e f x y z : Int) : volB (a + x) (b + y) (c + z) (d + x) (e + y) (f + z) = volB a b c d e f := by
  unfold volB
  rw [show d + x - (a + x) = d - a by omega, show e + y - (b + y) = e - b by omega, show f + z - (c + z) = f - c by omega]
theorem ovl_shift (a d g j x : Int) : ovl (a + x) (d + x) (g + x) (j + x) = ovl a d g j := by
  rw [Bool.eq_iff_iff, ovl_t, ovl_t]
  omega
theorem ov_shift (a b c d e f g h i j k l x y z : Int) : ovB (a + x) (b + y) (c + z) (d + x) (e + y) (f + z) (g + x) (h + y) (i + z) (j + x) (k + y) (l + z) = ovB a b c d e f g h i j k l := by
  unfold ovB
  rw [ovl_shift, ovl_shift, ovl_shift]
theorem ovP_shift (a d g j x : Int) : ovP (a + x) (d + x) (g + x) (j + x) ↔ ovP a d g j := by
  unfold ovP
  omega
theorem eq_shift (g d x : Int) : g + x = d + x ↔ g = d := by omega
theorem rtch_shift (a b c d e f g h i j k l x y z : Int) : rtch (a + x) (b + y) (c + z) (d + x) (e + y) (f + z) (g + x) (h + y) (i + z) (j + x) (k + y) (l + z) = rtch a b c d e f g h i j k l := by
  unfold rtch
  simp only [ovP_shift, eq_shift]
theorem tchN_shift (a b c d e f g h i j k l x y z : Int) : tchN (a + x) (b + y) (c + z) (d + x) (e + y) (f + z) (g + x) (h + y) (i + z) (j + x) (k + y) (l + z) = tchN a b c d e f g h i j k l := by unfold tchN; rw [rtch_shift]
theorem tchE_shift (a b c d e f g h i j k l x y z : Int) : tchE (a + x) (b + y) (c + z) (d + x) (e + y) (f + z) (g + x) (h + y) (i + z) (j + x) (k + y) (l + z) = tchE a b c d e f g h i j k l := by unfold tchE; rw [rtch_shift]
theorem ovP_s {a d g j : Int} : ovP a d g j ↔ mx2 a g - mn2 d j < 0 := by rw [ovP_mm]; omega
theorem ovP_s' {a d g j : Int} : ovP g j a d ↔ mx2 a g - mn2 d j < 0 := by
  rw [← ovP_s]
  unfold ovP
  omega
theorem ax_s {a d g j : Int} (h1 : a < d) (h2 : g < j) : (g = d → ¬ mx2 a g - mn2 d j < 0) ∧ (j = a → ¬ mx2 a g - mn2 d j < 0) ∧ ¬ (g = d ∧ j = a) := by
  have := mn2_is d j
  have := mx2_is a g
  omega
theorem ovB_s {a b c d e f g h i j k l : Int} : ovB a b c d e f g h i j k l = true ↔ (mx2 a g - mn2 d j < 0 ∧ mx2 b h - mn2 e k < 0 ∧ mx2 c i - mn2 f l < 0) := by
  rw [ovB_t, ← ovP_s, ← ovP_s, ← ovP_s]
  rfl
set_option maxHeartbeats 2000000 in
theorem opp {a b c d e f g h i j k l : Int} (x1 : a < d ∧ b < e ∧ c < f) (x2 : g < j ∧ h < k ∧ i < l) : (rtch a b c d e f g h i j k l = -1 ∧ rtch g h i j k l a b c d e f = -1) ∨ (rtch a b c d e f g h i j k l = 0 ∧ rtch g h i j k l a b c d e f = 1 ∧ ovB a b c d e f g h i j k l = false) ∨ (rtch a b c d e f g h i j k l = 1 ∧ rtch g h i j k l a b c d e f = 0 ∧ ovB a b c d e f g h i j k l = false) ∨ (rtch a b c d e f g h i j k l = 2 ∧ rtch g h i j k l a b c d e f = 3 ∧ ovB a b c d e f g h i j k l = false) ∨ (rtch a b c d e f g h i j k l = 3 ∧ rtch g h i j k l a b c d e f = 2 ∧ ovB a b c d e f g h i j k l = false) ∨ (rtch a b c d e f g h i j k l = 4 ∧ rtch g h i j k l a b c d e f = 5 ∧ ovB a b c d e f g h i j k l = false) ∨ (rtch a b c d e f g h i j k l = 5 ∧ rtch g h i j k l a b c d e f = 4 ∧ ovB a b c d e f g h i j k l = false) := by
  have u1 := @ovP_s a d g j
  have u2 := @ovP_s b e h k
  have u3 := @ovP_s c f i l
  have v1 := @ovP_s' a d g j
  have v2 := @ovP_s' b e h k
  have v3 := @ovP_s' c f i l
  have w1 := ax_s x1.1 x2.1
  have w2 := ax_s x1.2.1 x2.2.1
  have w3 := ax_s x1.2.2 x2.2.2
  have o := @ovB_s a b c d e f g h i j k l
  generalize mx2 a g - mn2 d j = s1 at *
  generalize mx2 b h - mn2 e k = s2 at *
  generalize mx2 c i - mn2 f l = s3 at *
  by_cases c0 : (s2 < 0 ∧ s3 < 0) ∧ g = d
  · refine .inr (.inl (⟨rtch_split u1 u2 u3 ?_ ?_ ?_ ?_ ?_ ?_ ?_, rtch_split v1 v2 v3 ?_ ?_ ?_ ?_ ?_ ?_ ?_, Bool.eq_false_iff.2 (fun q => ?_)⟩))
    all_goals first
    | (intros; omega)
    | (have := o.1 q; omega)
  by_cases c1 : (s2 < 0 ∧ s3 < 0) ∧ j = a
  · refine .inr (.inr (.inl (⟨rtch_split u1 u2 u3 ?_ ?_ ?_ ?_ ?_ ?_ ?_, rtch_split v1 v2 v3 ?_ ?_ ?_ ?_ ?_ ?_ ?_, Bool.eq_false_iff.2 (fun q => ?_)⟩)))
    all_goals first
    | (intros; omega)
    | (have := o.1 q; omega)
  by_cases c2 : (s1 < 0 ∧ s3 < 0) ∧ h = e
  · refine .inr (.inr (.inr (.inl (⟨rtch_split u1 u2 u3 ?_ ?_ ?_ ?_ ?_ ?_ ?_, rtch_split v1 v2 v3 ?_ ?_ ?_ ?_ ?_ ?_ ?_, Bool.eq_false_iff.2 (fun q => ?_)⟩))))
    all_goals first
    | (intros; omega)
    | (have := o.1 q; omega)
  by_cases c3 : (s1 < 0 ∧ s3 < 0) ∧ k = b
  · refine .inr (.inr (.inr (.inr (.inl (⟨rtch_split u1 u2 u3 ?_ ?_ ?_ ?_ ?_ ?_ ?_, rtch_split v1 v2 v3 ?_ ?_ ?_ ?_ ?_ ?_ ?_, Bool.eq_false_iff.2 (fun q => ?_)⟩)))))
    all_goals first
    | (intros; omega)
    | (have := o.1 q; omega)
  by_cases c4 : (s1 < 0 ∧ s2 < 0) ∧ i = f
  · refine .inr (.inr (.inr (.inr (.inr (.inl (⟨rtch_split u1 u2 u3 ?_ ?_ ?_ ?_ ?_ ?_ ?_, rtch_split v1 v2 v3 ?_ ?_ ?_ ?_ ?_ ?_ ?_, Bool.eq_false_iff.2 (fun q => ?_)⟩))))))
    all_goals first
    | (intros; omega)
    | (have := o.1 q; omega)
  by_cases c5 : (s1 < 0 ∧ s2 < 0) ∧ l = c
  · refine .inr (.inr (.inr (.inr (.inr (.inr ((⟨rtch_split u1 u2 u3 ?_ ?_ ?_ ?_ ?_ ?_ ?_, rtch_split v1 v2 v3 ?_ ?_ ?_ ?_ ?_ ?_ ?_, Bool.eq_false_iff.2 (fun q => ?_)⟩)))))))
    all_goals first
    | (intros; omega)
    | (have := o.1 q; omega)
  · refine .inl ⟨rtch_split u1 u2 u3 ?_ ?_ ?_ ?_ ?_ ?_ ?_, rtch_split v1 v2 v3 ?_ ?_ ?_ ?_ ?_ ?_ ?_⟩
    all_goals (intros; omega)
theorem tch_opp {a b c d e f g h i j k l : Int} (x1 : a < d ∧ b < e ∧ c < f) (x2 : g < j ∧ h < k ∧ i < l) : (tchN a b c d e f g h i j k l = 0 ∧ tchE a b c d e f g h i j k l = 9 ∧ tchN g h i j k l a b c d e f = 0 ∧ tchE g h i j k l a b c d e f = 9) ∨ (tchN a b c d e f g h i j k l = 0 ∧ tchE a b c d e f g h i j k l = 0 ∧ tchN g h i j k l a b c d e f = 1 ∧ tchE g h i j k l a b c d e f = 0 ∧ ovB a b c d e f g h i j k l = false) ∨ (tchN a b c d e f g h i j k l = 1 ∧ tchE a b c d e f g h i j k l = 0 ∧ tchN g h i j k l a b c d e f = 0 ∧ tchE g h i j k l a b c d e f = 0 ∧ ovB a b c d e f g h i j k l = false) ∨ (tchN a b c d e f g h i j k l = 2 ∧ tchE a b c d e f g h i j k l = 0 ∧ tchN g h i j k l a b c d e f = 3 ∧ tchE g h i j k l a b c d e f = 0 ∧ ovB a b c d e f g h i j k l = false) ∨ (tchN a b c d e f g h i j k l = 3 ∧ tchE a b c d e f g h i j k l = 0 ∧ tchN g h i j k l a b c d e f = 2 ∧ tchE g h i j k l a b c d e f = 0 ∧ ovB a b c d e f g h i j k l = false) ∨ (tchN a b c d e f g h i j k l = 4 ∧ tchE a b c d e f g h i j k l = 0 ∧ tchN g h i j k l a b c d e f = 5 ∧ tchE g h i j k l a b c d e f = 0 ∧ ovB a b c d e f g h i j k l = false) ∨ (tchN a b c d e f g h i j k l = 5 ∧ tchE a b c d e f g h i j k l = 0 ∧ tchN g h i j k l a b c d e f = 4 ∧ tchE g h i j k l a b c d e f = 0 ∧ ovB a b c d e f g h i j k l = false) := by
  rcases opp x1 x2 with ⟨p, q⟩ | ⟨p, q, o⟩ | ⟨p, q, o⟩ | ⟨p, q, o⟩ | ⟨p, q, o⟩ | ⟨p, q, o⟩ | ⟨p, q, o⟩
  · have t1 := @tch_neg a b c d e f g h i j k l (by omega)
    have t2 := @tch_neg g h i j k l a b c d e f (by omega)
    exact .inl ⟨t1.1, t1.2, t2.1, t2.2⟩
  · have t1 := @tch_pos a b c d e f g h i j k l (by omega)
    have t2 := @tch_pos g h i j k l a b c d e f (by omega)
    rw [p] at t1
    rw [q] at t2
    exact .inr (.inl ⟨t1.1, t1.2, t2.1, t2.2, o⟩)
  · have t1 := @tch_pos a b c d e f g h i j k l (by omega)
    have t2 := @tch_pos g h i j k l a b c d e f (by omega)
    rw [p] at t1
    rw [q] at t2
    exact .inr (.inr (.inl ⟨t1.1, t1.2, t2.1, t2.2, o⟩))
  · have t1 := @tch_pos a b c d e f g h i j k l (by omega)
    have t2 := @tch_pos g h i j k l a b c d e f (by omega)
    rw [p] at t1
    rw [q] at t2
    exact .inr (.inr (.inr (.inl ⟨t1.1, t1.2, t2.1, t2.2, o⟩)))
  · have t1 := @tch_pos a b c d e f g h i j k l (by omega)
    have t2 := @tch_pos g h i j k l a b c d e f (by omega)
    rw [p] at t1
    rw [q] at t2
    exact .inr (.inr (.inr (.inr (.inl ⟨t1.1, t1.2, t2.1, t2.2, o⟩))))
  · have t1 := @tch_pos a b c d e f g h i j k l (by omega)
    have t2 := @tch_pos g h i j k l a b c d e f (by omega)
    rw [p] at t1
    rw [q] at t2
    exact .inr (.inr (.inr (.inr (.inr (.inl ⟨t1.1, t1.2, t2.1, t2.2, o⟩)))))
  · have t1 := @tch_pos a b c d e f g h i j k l (by omega)
    have t2 := @tch_pos g h i j k l a b c d e f (by omega)
    rw [p] at t1
    rw [q] at t2
    exact .inr (.inr (.inr (.inr (.inr (.inr (⟨t1.1, t1.2, t2.1, t2.2, o⟩))))))
end Go.Proofs.Ytonhlfaddfgpaaa
