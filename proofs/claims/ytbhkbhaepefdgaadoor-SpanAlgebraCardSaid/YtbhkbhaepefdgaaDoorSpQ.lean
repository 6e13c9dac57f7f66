/- Intersect of both, Add of the reference; the walk of SpanPairs. -/
import Derived.Test.YtbhkbhaepefdgaaDoorSpP
namespace Go.Proofs.YtbhkbhaepefdgaaDoor
open Go.RowKit

/-- The package's variable that stands for no common number. -/
def HasEmpty (w : World) : Prop := w.cell? ⟨0, 0, none⟩ = some (.int .i64 1) ∧ w.cell? ⟨0, 1, none⟩ = some (.int .i64 0)
theorem HasEmpty.lt {w : World} (h : HasEmpty w) : 0 < w.heap.size := World.block_lt_of_cell? w _ h.1
theorem HasEmpty.below {w w' : World} {B : Nat} (h : HasEmpty w) (hb : Below B w w') (hB : 0 < B) : HasEmpty w' := ⟨(hb.cell (p := ⟨0, 0, none⟩) hB).trans h.1, (hb.cell (p := ⟨0, 1, none⟩) hB).trans h.2⟩

set_option maxHeartbeats 2000000 in
theorem overlap_none (a b c d : Int) (w : World) (hE : HasEmpty w) (h : min b d < max a c) : Calls Tryd.prog 48 #[.agg #[.int .i64 a, .int .i64 b], .agg #[.int .i64 c, .int .i64 d]] w fun e w' => e = .returned (.agg #[.int .i64 1, .int .i64 0]) ∧ Below w.heap.size w w' := by
  have hlt := hE.lt
  obtain ⟨g1, g2⟩ := hE
  go_enter Tryd.func48, Tryd.ntmps48
  go_wp2_with fail
  exact bodyPost_ret (v := .agg #[.int .i64 1, .int .i64 0]) (by simp [results, Tryd.results48, go_sem]) rfl ⟨rfl, (((((Below.refl _ _).alloc (Nat.le_refl _) _).alloc (by simp) _).alloc (by simp; omega) _).alloc (by simp; omega) _)⟩

set_option maxHeartbeats 2000000 in
theorem overlap_some (a b c d : Int) (w : World) (h : max a c ≤ min b d) : Calls Tryd.prog 48 #[.agg #[.int .i64 a, .int .i64 b], .agg #[.int .i64 c, .int .i64 d]] w fun e w' => e = .returned (.agg #[.int .i64 (max a c), .int .i64 (min b d)]) ∧ Below w.heap.size w w' := by
  go_enter Tryd.func48, Tryd.ntmps48
  go_wp2_with fail
  exact bodyPost_ret (v := .agg #[.int .i64 (max a c), .int .i64 (min b d)]) (by simp [results, Tryd.results48, go_sem]) rfl ⟨rfl, (((((Below.refl _ _).alloc (Nat.le_refl _) _).alloc (by simp) _).alloc (by simp; omega) _).alloc (by simp; omega) _)⟩

set_option maxHeartbeats 2000000 in
theorem inter_none (a b c d : Int) (w : World) (hE : HasEmpty w) (h : min b d < max a c) (he : errAll [(a, b), (c, d)] = 0) : Calls Tryd.prog 15 #[.agg #[.int .i64 a, .int .i64 b], .agg #[.int .i64 c, .int .i64 d]] w (Gives (pairRes a b c d ((0, 0), 9)) w) := by
  rw [show pairRes a b c d ((0, 0), 9) = ((0, 0), 9) from if_pos he]
  have HE := Lib.hid he
  obtain ⟨x1, x2, x3⟩ := errAll_zero.1 he (a, b) (by simp)
  obtain ⟨y1, y2, y3⟩ := errAll_zero.1 he (c, d) (by simp)
  simp only at x1 x2 x3 y1 y2 y3
  clear he
  unfold Gives
  have hlt := hE.lt
  have HE0 := Lib.hid hE
  clear hE
  go_enter Tryd.func15, Tryd.ntmps15
  go_wp2_with fail
  refine (checkAll_any [(a, b), (c, d)] _ _ (w.heap.size + 1 + 1 + 1 + 1) _ (lies_two (((w.alloc _).alloc _).alloc _) (a, b) (c, d) _ _ (by simp)) (by simp) (by simp)).mono ?_
  rw [HE.out]
  rintro e w1 ⟨rfl, hb1⟩
  obtain ⟨hc1, hf1⟩ := bcell hb1
  have hz1 : w.heap.size + 3 < w1.heap.size := by have := hb1.size; simp at this; omega
  have hz3 : w.heap.size + 1 + 1 < w1.heap.size := by omega
  have hb1' : Below w.heap.size w w1 := (((((Below.refl _ _).alloc (Nat.le_refl _) _).alloc (by simp) _).alloc (by simp; omega) _).alloc (by simp; omega) _).trans (hb1.mono (by simp; omega))
  have hE1 := HE0.out.below hb1' hlt
  go_wp2_with fail
  refine (overlap_none a b c d _ hE1 h).mono ?_
  rintro e w2 ⟨rfl, hb2⟩
  have hE2 := hE1.below hb2 (by omega)
  obtain ⟨g1, g2⟩ := hE2
  have hc2 : ∀ o, w2.cell? ⟨w.heap.size + 2, o, none⟩ = w1.cell? ⟨w.heap.size + 2, o, none⟩ := fun o => hb2.cell (p := ⟨w.heap.size + 2, o, none⟩) (by show w.heap.size + 2 < _; omega)
  have hf2 : ∀ o, w2.frozen? ⟨w.heap.size + 2, o, none⟩ = w1.frozen? ⟨w.heap.size + 2, o, none⟩ := fun o => hb2.frozen (p := ⟨w.heap.size + 2, o, none⟩) (by show w.heap.size + 2 < _; omega)
  have hz2 : w.heap.size + 3 < w2.heap.size := by have := hb2.size; omega
  have heq := fun W => eqIv0 1 0 1 0 W
  have hlt2 : 0 < w2.heap.size := by omega
  have hz4 : w.heap.size + 1 + 1 < w2.heap.size := by omega
  rw [show decide ((1 : Int) = 1 ∧ (0 : Int) = 0) = true by decide] at heq
  go_wp2_with fail
  exact bodyPost_ret (v := .tuple #[.agg #[.int .i64 0, .int .i64 0], .int .i64 9]) (by simp [results, Tryd.results15, go_sem, hc2, hc1, hz4]) rfl ⟨rfl, (((hb1'.trans (hb2.mono hb1'.size)).setCell (p := ⟨w.heap.size + 1 + 1, _, none⟩) (by show w.heap.size ≤ w.heap.size + 1 + 1; omega) _).setCell (p := ⟨w.heap.size + 1 + 1, _, none⟩) (by show w.heap.size ≤ w.heap.size + 1 + 1; omega) _).alloc (by simp; omega) _⟩

set_option maxHeartbeats 2000000 in
theorem inter_some (a b c d : Int) (w : World) (hE : HasEmpty w) (h : max a c ≤ min b d) (he : errAll [(a, b), (c, d)] = 0) : Calls Tryd.prog 15 #[.agg #[.int .i64 a, .int .i64 b], .agg #[.int .i64 c, .int .i64 d]] w (Gives (pairRes a b c d ((max a c, min b d), 0)) w) := by
  rw [show pairRes a b c d ((max a c, min b d), 0) = ((max a c, min b d), 0) from if_pos he]
  have HE := Lib.hid he
  obtain ⟨x1, x2, x3⟩ := errAll_zero.1 he (a, b) (by simp)
  obtain ⟨y1, y2, y3⟩ := errAll_zero.1 he (c, d) (by simp)
  simp only at x1 x2 x3 y1 y2 y3
  clear he
  unfold Gives
  have hlt := hE.lt
  have HE0 := Lib.hid hE
  clear hE
  go_enter Tryd.func15, Tryd.ntmps15
  go_wp2_with fail
  refine (checkAll_any [(a, b), (c, d)] _ _ (w.heap.size + 1 + 1 + 1 + 1) _ (lies_two (((w.alloc _).alloc _).alloc _) (a, b) (c, d) _ _ (by simp)) (by simp) (by simp)).mono ?_
  rw [HE.out]
  rintro e w1 ⟨rfl, hb1⟩
  obtain ⟨hc1, hf1⟩ := bcell hb1
  have hz1 : w.heap.size + 3 < w1.heap.size := by have := hb1.size; simp at this; omega
  have hz3 : w.heap.size + 1 + 1 < w1.heap.size := by omega
  have hb1' : Below w.heap.size w w1 := (((((Below.refl _ _).alloc (Nat.le_refl _) _).alloc (by simp) _).alloc (by simp; omega) _).alloc (by simp; omega) _).trans (hb1.mono (by simp; omega))
  have hE1 := HE0.out.below hb1' hlt
  go_wp2_with fail
  refine (overlap_some a b c d _ h).mono ?_
  rintro e w2 ⟨rfl, hb2⟩
  have hE2 := hE1.below hb2 (by omega)
  obtain ⟨g1, g2⟩ := hE2
  have hc2 : ∀ o, w2.cell? ⟨w.heap.size + 2, o, none⟩ = w1.cell? ⟨w.heap.size + 2, o, none⟩ := fun o => hb2.cell (p := ⟨w.heap.size + 2, o, none⟩) (by show w.heap.size + 2 < _; omega)
  have hf2 : ∀ o, w2.frozen? ⟨w.heap.size + 2, o, none⟩ = w1.frozen? ⟨w.heap.size + 2, o, none⟩ := fun o => hb2.frozen (p := ⟨w.heap.size + 2, o, none⟩) (by show w.heap.size + 2 < _; omega)
  have hz2 : w.heap.size + 3 < w2.heap.size := by have := hb2.size; omega
  have heq := fun W => eqIv0 (max a c) (min b d) 1 0 W
  have hlt2 : 0 < w2.heap.size := by omega
  have hz4 : w.heap.size + 1 + 1 < w2.heap.size := by omega
  rw [decide_eq_false (show ¬ (max a c = 1 ∧ min b d = 0) by omega)] at heq
  go_wp2_with fail
  exact bodyPost_ret (v := .tuple #[.agg #[.int .i64 (max a c), .int .i64 (min b d)], .int .i64 0]) (by simp [results, Tryd.results15, go_sem, hc2, hc1, hz4]) rfl ⟨rfl, (((hb1'.trans (hb2.mono hb1'.size)).setCell (p := ⟨w.heap.size + 1 + 1, _, none⟩) (by show w.heap.size ≤ w.heap.size + 1 + 1; omega) _).setCell (p := ⟨w.heap.size + 1 + 1, _, none⟩) (by show w.heap.size ≤ w.heap.size + 1 + 1; omega) _).alloc (by simp; omega) _⟩

set_option maxHeartbeats 2000000 in
theorem refInter_none (a b c d : Int) (w : World) (h : min b d < max a c) (he : errAll [(a, b), (c, d)] = 0) : Calls Tryd.prog 19 #[.agg #[.int .i64 a, .int .i64 b], .agg #[.int .i64 c, .int .i64 d]] w (Gives (pairRes a b c d ((0, 0), 9)) w) := by
  rw [show pairRes a b c d ((0, 0), 9) = ((0, 0), 9) from if_pos he]
  have HE := Lib.hid he
  obtain ⟨x1, x2, x3⟩ := errAll_zero.1 he (a, b) (by simp)
  obtain ⟨y1, y2, y3⟩ := errAll_zero.1 he (c, d) (by simp)
  simp only at x1 x2 x3 y1 y2 y3
  clear he
  unfold Gives
  go_enter Tryd.func19, Tryd.ntmps19
  go_wp2_with fail
  refine (refAll_any [(a, b), (c, d)] _ _ (w.heap.size + 1 + 1 + 1 + 1) _ (lies_two (((w.alloc _).alloc _).alloc _) (a, b) (c, d) _ _ (by simp)) (by simp) (by simp)).mono ?_
  rw [HE.out]
  rintro e w1 ⟨rfl, hb1⟩
  obtain ⟨hc1, hf1⟩ := bcell hb1
  have hz1 : w.heap.size + 3 < w1.heap.size := by have := hb1.size; simp at this; omega
  have hz3 : w.heap.size + 1 + 1 < w1.heap.size := by omega
  have hb1' : Below w.heap.size w w1 := (((((Below.refl _ _).alloc (Nat.le_refl _) _).alloc (by simp) _).alloc (by simp; omega) _).alloc (by simp; omega) _).trans (hb1.mono (by simp; omega))
  go_wp2_with fail
  exact bodyPost_ret (v := .tuple #[.agg #[.int .i64 0, .int .i64 0], .int .i64 9]) (by simp [results, Tryd.results19, go_sem, hc1, hz3]) rfl ⟨rfl, ((hb1'.setCell (p := ⟨w.heap.size + 1 + 1, _, none⟩) (by show w.heap.size ≤ w.heap.size + 1 + 1; omega) _).setCell (p := ⟨w.heap.size + 1 + 1, _, none⟩) (by show w.heap.size ≤ w.heap.size + 1 + 1; omega) _).alloc (by simp; omega) _⟩

set_option maxHeartbeats 2000000 in
theorem refInter_some (a b c d : Int) (w : World) (h : max a c ≤ min b d) (he : errAll [(a, b), (c, d)] = 0) : Calls Tryd.prog 19 #[.agg #[.int .i64 a, .int .i64 b], .agg #[.int .i64 c, .int .i64 d]] w (Gives (pairRes a b c d ((max a c, min b d), 0)) w) := by
  rw [show pairRes a b c d ((max a c, min b d), 0) = ((max a c, min b d), 0) from if_pos he]
  have HE := Lib.hid he
  obtain ⟨x1, x2, x3⟩ := errAll_zero.1 he (a, b) (by simp)
  obtain ⟨y1, y2, y3⟩ := errAll_zero.1 he (c, d) (by simp)
  simp only at x1 x2 x3 y1 y2 y3
  clear he
  unfold Gives
  go_enter Tryd.func19, Tryd.ntmps19
  go_wp2_with fail
  refine (refAll_any [(a, b), (c, d)] _ _ (w.heap.size + 1 + 1 + 1 + 1) _ (lies_two (((w.alloc _).alloc _).alloc _) (a, b) (c, d) _ _ (by simp)) (by simp) (by simp)).mono ?_
  rw [HE.out]
  rintro e w1 ⟨rfl, hb1⟩
  obtain ⟨hc1, hf1⟩ := bcell hb1
  have hz1 : w.heap.size + 3 < w1.heap.size := by have := hb1.size; simp at this; omega
  have hz3 : w.heap.size + 1 + 1 < w1.heap.size := by omega
  have hb1' : Below w.heap.size w w1 := (((((Below.refl _ _).alloc (Nat.le_refl _) _).alloc (by simp) _).alloc (by simp; omega) _).alloc (by simp; omega) _).trans (hb1.mono (by simp; omega))
  go_wp2_with fail
  exact bodyPost_ret (v := .tuple #[.agg #[.int .i64 (max a c), .int .i64 (min b d)], .int .i64 0]) (by simp [results, Tryd.results19, go_sem, hc1, hz3]) rfl ⟨rfl, ((hb1'.setCell (p := ⟨w.heap.size + 1 + 1, _, none⟩) (by show w.heap.size ≤ w.heap.size + 1 + 1; omega) _).setCell (p := ⟨w.heap.size + 1 + 1, _, none⟩) (by show w.heap.size ≤ w.heap.size + 1 + 1; omega) _).alloc (by simp; omega) _⟩

theorem sumRes_two (a b c d : Int) : sumRes [(a, b), (c, d)] = pairRes a b c d (resIv (a + c, b + d)) := by
  unfold sumRes pairRes
  rw [show sumL [(a, b), (c, d)] = (a + c, b + d) by simp [sumL]]

set_option maxHeartbeats 2000000 in
theorem refAdd_any (a b c d : Int) (w : World) : Calls Tryd.prog 17 #[.agg #[.int .i64 a, .int .i64 b], .agg #[.int .i64 c, .int .i64 d]] w (Gives (pairRes a b c d (resIv (a + c, b + d))) w) := by
  have hS := fun W B h hB => refSum_any (.slice (some ⟨w.heap.size + 1 + 1 + 1, 0, none⟩) 2 2) [(a, b), (c, d)] B W h hB (by simp)
  rw [sumRes_two] at hS
  unfold Gives
  generalize pairRes a b c d (resIv (a + c, b + d)) = R at hS ⊢
  obtain ⟨⟨r1, r2⟩, r3⟩ := R
  simp only at hS ⊢
  have HS := Lib.hid hS
  clear hS
  go_enter Tryd.func17, Tryd.ntmps17
  go_wp2_with fail
  refine (HS.out _ (w.heap.size + 1 + 1 + 1 + 1) (slice_two (((w.alloc _).alloc _).alloc _) a b c d _ _ (by simp)) (by simp)).mono ?_
  rintro e w1 ⟨rfl, hb1⟩
  obtain ⟨hc1, hf1⟩ := bcell hb1
  have hz1 : w.heap.size + 3 < w1.heap.size := by have := hb1.size; simp at this; omega
  have hz3 : w.heap.size + 1 + 1 < w1.heap.size := by omega
  have hb1' : Below w.heap.size w w1 := (((((Below.refl _ _).alloc (Nat.le_refl _) _).alloc (by simp) _).alloc (by simp; omega) _).alloc (by simp; omega) _).trans (hb1.mono (by simp; omega))
  go_wp2_with fail
  exact bodyPost_ret (v := .tuple #[.agg #[.int .i64 r1, .int .i64 r2], .int .i64 r3]) (by simp [results, Tryd.results17, go_sem, hc1]) rfl ⟨rfl, (hb1'.setCell (by show w.heap.size ≤ w.heap.size + 1 + 1; omega) _).setCell (by show w.heap.size ≤ w.heap.size + 1 + 1; omega) _⟩
end Go.Proofs.YtbhkbhaepefdgaaDoor
