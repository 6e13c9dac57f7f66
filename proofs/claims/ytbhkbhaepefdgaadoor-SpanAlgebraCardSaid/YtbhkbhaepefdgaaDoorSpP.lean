/- Contracts of Sub, Intersect, Hull of both, Add of the reference. -/
import Derived.Test.YtbhkbhaepefdgaaDoorSpO
namespace Go.Proofs.YtbhkbhaepefdgaaDoor
open Go.RowKit

def pairRes (a b c d : Int) (R : Iv × Int) : Iv × Int := if errAll [(a, b), (c, d)] = 0 then R else ((0, 0), errAll [(a, b), (c, d)])
def interRes (a b c d : Int) : Iv × Int := if min b d < max a c then ((0, 0), 9) else ((max a c, min b d), 0)
def Gives (R : Iv × Int) (w : World) (e : Ending) (w' : World) : Prop := e = .returned (.tuple #[.agg #[.int .i64 R.1.1, .int .i64 R.1.2], .int .i64 R.2]) ∧ Below w.heap.size w w'

set_option maxHeartbeats 2000000 in
theorem sub_err (a b c d : Int) (w : World) (R : Iv × Int) (he : errAll [(a, b), (c, d)] ≠ 0) : Calls Tryd.prog 14 #[.agg #[.int .i64 a, .int .i64 b], .agg #[.int .i64 c, .int .i64 d]] w (Gives (pairRes a b c d R) w) := by
  rw [show pairRes a b c d R = ((0, 0), errAll [(a, b), (c, d)]) from if_neg he]
  have hne : (errAll [(a, b), (c, d)] != 0) = true := by simp [he]
  clear he
  obtain ⟨x, hxe⟩ : ∃ x, x = errAll [(a, b), (c, d)] := ⟨_, rfl⟩
  rw [← hxe] at hne ⊢
  have HE := Lib.hid hxe
  clear hxe
  go_enter Tryd.func14, Tryd.ntmps14
  go_wp2_with fail
  refine (checkAll_any [(a, b), (c, d)] _ _ (w.heap.size + 1 + 1 + 1 + 1) _ (lies_two (((w.alloc _).alloc _).alloc _) (a, b) (c, d) _ _ (by simp)) (by simp) (by simp)).mono ?_
  rw [← HE.out]
  rintro e w1 ⟨rfl, hb1⟩
  obtain ⟨hc1, hf1⟩ := bcell hb1
  have hz1 : w.heap.size + 3 < w1.heap.size := by have := hb1.size; simp at this; omega
  have hb1' : Below w.heap.size w w1 := (((((Below.refl _ _).alloc (Nat.le_refl _) _).alloc (by simp) _).alloc (by simp; omega) _).alloc (by simp; omega) _).trans (hb1.mono (by simp; omega))
  go_wp2_with fail
  exact bodyPost_ret (v := .tuple #[.agg #[.int .i64 0, .int .i64 0], .int .i64 x]) (by simp [results, Tryd.results14, go_sem, hc1]) rfl ⟨rfl, (hb1'.setCell (by show w.heap.size ≤ w.heap.size + 1 + 1; omega) _).setCell (by show w.heap.size ≤ w.heap.size + 1 + 1; omega) _⟩

set_option maxHeartbeats 2000000 in
theorem sub_ok (a b c d : Int) (w : World) (he : errAll [(a, b), (c, d)] = 0) : Calls Tryd.prog 14 #[.agg #[.int .i64 a, .int .i64 b], .agg #[.int .i64 c, .int .i64 d]] w (Gives (pairRes a b c d (resIv (a - d, b - c))) w) := by
  rw [show pairRes a b c d (resIv (a - d, b - c)) = (resIv (a - d, b - c)) from if_pos he]
  have HE := Lib.hid he
  obtain ⟨x1, x2, x3⟩ := errAll_zero.1 he (a, b) (by simp)
  obtain ⟨y1, y2, y3⟩ := errAll_zero.1 he (c, d) (by simp)
  simp only at x1 x2 x3 y1 y2 y3
  clear he
  have HR := fun W => inRange_res (a - d) (b - c) W
  unfold Gives
  obtain ⟨r1, hr1⟩ : ∃ r, r = (resIv (a - d, b - c)).1.1 := ⟨_, rfl⟩
  obtain ⟨r2, hr2⟩ : ∃ r, r = (resIv (a - d, b - c)).1.2 := ⟨_, rfl⟩
  obtain ⟨r3, hr3⟩ : ∃ r, r = (resIv (a - d, b - c)).2 := ⟨_, rfl⟩
  rw [← hr1, ← hr2, ← hr3] at HR ⊢
  clear hr1 hr2 hr3
  have H := Lib.hid HR
  clear HR
  go_enter Tryd.func14, Tryd.ntmps14
  go_wp2_with fail
  refine (checkAll_any [(a, b), (c, d)] _ _ (w.heap.size + 1 + 1 + 1 + 1) _ (lies_two (((w.alloc _).alloc _).alloc _) (a, b) (c, d) _ _ (by simp)) (by simp) (by simp)).mono ?_
  rw [HE.out]
  rintro e w1 ⟨rfl, hb1⟩
  obtain ⟨hc1, hf1⟩ := bcell hb1
  have hz1 : w.heap.size + 3 < w1.heap.size := by have := hb1.size; simp at this; omega
  have hb1' : Below w.heap.size w w1 := (((((Below.refl _ _).alloc (Nat.le_refl _) _).alloc (by simp) _).alloc (by simp; omega) _).alloc (by simp; omega) _).trans (hb1.mono (by simp; omega))
  go_wp2_with fail
  refine (H.out _).mono ?_
  rintro e w2 ⟨rfl, hb2⟩
  have hc2 : ∀ o, w2.cell? ⟨w.heap.size + 2, o, none⟩ = w1.cell? ⟨w.heap.size + 2, o, none⟩ := fun o => hb2.cell (p := ⟨w.heap.size + 2, o, none⟩) (by show w.heap.size + 2 < _; omega)
  have hf2 : ∀ o, w2.frozen? ⟨w.heap.size + 2, o, none⟩ = w1.frozen? ⟨w.heap.size + 2, o, none⟩ := fun o => hb2.frozen (p := ⟨w.heap.size + 2, o, none⟩) (by show w.heap.size + 2 < _; omega)
  have hz2 : w.heap.size + 3 < w2.heap.size := by have := hb2.size; omega
  go_wp2_with fail
  exact bodyPost_ret (v := .tuple #[.agg #[.int .i64 r1, .int .i64 r2], .int .i64 r3]) (by simp [results, Tryd.results14, go_sem, hc2, hc1]) rfl ⟨rfl, ((hb1'.trans (hb2.mono hb1'.size)).setCell (by show w.heap.size ≤ w.heap.size + 1 + 1; omega) _).setCell (by show w.heap.size ≤ w.heap.size + 1 + 1; omega) _⟩

set_option maxHeartbeats 2000000 in
theorem refSub_err (a b c d : Int) (w : World) (R : Iv × Int) (he : errAll [(a, b), (c, d)] ≠ 0) : Calls Tryd.prog 18 #[.agg #[.int .i64 a, .int .i64 b], .agg #[.int .i64 c, .int .i64 d]] w (Gives (pairRes a b c d R) w) := by
  rw [show pairRes a b c d R = ((0, 0), errAll [(a, b), (c, d)]) from if_neg he]
  have hne : (errAll [(a, b), (c, d)] != 0) = true := by simp [he]
  clear he
  obtain ⟨x, hxe⟩ : ∃ x, x = errAll [(a, b), (c, d)] := ⟨_, rfl⟩
  rw [← hxe] at hne ⊢
  have HE := Lib.hid hxe
  clear hxe
  go_enter Tryd.func18, Tryd.ntmps18
  go_wp2_with fail
  refine (refAll_any [(a, b), (c, d)] _ _ (w.heap.size + 1 + 1 + 1 + 1) _ (lies_two (((w.alloc _).alloc _).alloc _) (a, b) (c, d) _ _ (by simp)) (by simp) (by simp)).mono ?_
  rw [← HE.out]
  rintro e w1 ⟨rfl, hb1⟩
  obtain ⟨hc1, hf1⟩ := bcell hb1
  have hz1 : w.heap.size + 3 < w1.heap.size := by have := hb1.size; simp at this; omega
  have hb1' : Below w.heap.size w w1 := (((((Below.refl _ _).alloc (Nat.le_refl _) _).alloc (by simp) _).alloc (by simp; omega) _).alloc (by simp; omega) _).trans (hb1.mono (by simp; omega))
  go_wp2_with fail
  exact bodyPost_ret (v := .tuple #[.agg #[.int .i64 0, .int .i64 0], .int .i64 x]) (by simp [results, Tryd.results18, go_sem, hc1]) rfl ⟨rfl, (hb1'.setCell (by show w.heap.size ≤ w.heap.size + 1 + 1; omega) _).setCell (by show w.heap.size ≤ w.heap.size + 1 + 1; omega) _⟩

set_option maxHeartbeats 2000000 in
theorem refSub_ok (a b c d : Int) (w : World) (he : errAll [(a, b), (c, d)] = 0) : Calls Tryd.prog 18 #[.agg #[.int .i64 a, .int .i64 b], .agg #[.int .i64 c, .int .i64 d]] w (Gives (pairRes a b c d (resIv (a - d, b - c))) w) := by
  rw [show pairRes a b c d (resIv (a - d, b - c)) = (resIv (a - d, b - c)) from if_pos he]
  have HE := Lib.hid he
  obtain ⟨x1, x2, x3⟩ := errAll_zero.1 he (a, b) (by simp)
  obtain ⟨y1, y2, y3⟩ := errAll_zero.1 he (c, d) (by simp)
  simp only at x1 x2 x3 y1 y2 y3
  clear he
  have HR := fun W => result_res (a - d) (b - c) W
  unfold Gives
  obtain ⟨r1, hr1⟩ : ∃ r, r = (resIv (a - d, b - c)).1.1 := ⟨_, rfl⟩
  obtain ⟨r2, hr2⟩ : ∃ r, r = (resIv (a - d, b - c)).1.2 := ⟨_, rfl⟩
  obtain ⟨r3, hr3⟩ : ∃ r, r = (resIv (a - d, b - c)).2 := ⟨_, rfl⟩
  rw [← hr1, ← hr2, ← hr3] at HR ⊢
  clear hr1 hr2 hr3
  have H := Lib.hid HR
  clear HR
  go_enter Tryd.func18, Tryd.ntmps18
  go_wp2_with fail
  refine (refAll_any [(a, b), (c, d)] _ _ (w.heap.size + 1 + 1 + 1 + 1) _ (lies_two (((w.alloc _).alloc _).alloc _) (a, b) (c, d) _ _ (by simp)) (by simp) (by simp)).mono ?_
  rw [HE.out]
  rintro e w1 ⟨rfl, hb1⟩
  obtain ⟨hc1, hf1⟩ := bcell hb1
  have hz1 : w.heap.size + 3 < w1.heap.size := by have := hb1.size; simp at this; omega
  have hb1' : Below w.heap.size w w1 := (((((Below.refl _ _).alloc (Nat.le_refl _) _).alloc (by simp) _).alloc (by simp; omega) _).alloc (by simp; omega) _).trans (hb1.mono (by simp; omega))
  go_wp2_with fail
  refine (H.out _).mono ?_
  rintro e w2 ⟨rfl, hb2⟩
  have hc2 : ∀ o, w2.cell? ⟨w.heap.size + 2, o, none⟩ = w1.cell? ⟨w.heap.size + 2, o, none⟩ := fun o => hb2.cell (p := ⟨w.heap.size + 2, o, none⟩) (by show w.heap.size + 2 < _; omega)
  have hf2 : ∀ o, w2.frozen? ⟨w.heap.size + 2, o, none⟩ = w1.frozen? ⟨w.heap.size + 2, o, none⟩ := fun o => hb2.frozen (p := ⟨w.heap.size + 2, o, none⟩) (by show w.heap.size + 2 < _; omega)
  have hz2 : w.heap.size + 3 < w2.heap.size := by have := hb2.size; omega
  go_wp2_with fail
  exact bodyPost_ret (v := .tuple #[.agg #[.int .i64 r1, .int .i64 r2], .int .i64 r3]) (by simp [results, Tryd.results18, go_sem, hc2, hc1]) rfl ⟨rfl, ((hb1'.trans (hb2.mono hb1'.size)).setCell (by show w.heap.size ≤ w.heap.size + 1 + 1; omega) _).setCell (by show w.heap.size ≤ w.heap.size + 1 + 1; omega) _⟩

set_option maxHeartbeats 2000000 in
theorem hull_err (a b c d : Int) (w : World) (R : Iv × Int) (he : errAll [(a, b), (c, d)] ≠ 0) : Calls Tryd.prog 16 #[.agg #[.int .i64 a, .int .i64 b], .agg #[.int .i64 c, .int .i64 d]] w (Gives (pairRes a b c d R) w) := by
  rw [show pairRes a b c d R = ((0, 0), errAll [(a, b), (c, d)]) from if_neg he]
  have hne : (errAll [(a, b), (c, d)] != 0) = true := by simp [he]
  clear he
  obtain ⟨x, hxe⟩ : ∃ x, x = errAll [(a, b), (c, d)] := ⟨_, rfl⟩
  rw [← hxe] at hne ⊢
  have HE := Lib.hid hxe
  clear hxe
  go_enter Tryd.func16, Tryd.ntmps16
  go_wp2_with fail
  refine (checkAll_any [(a, b), (c, d)] _ _ (w.heap.size + 1 + 1 + 1 + 1) _ (lies_two (((w.alloc _).alloc _).alloc _) (a, b) (c, d) _ _ (by simp)) (by simp) (by simp)).mono ?_
  rw [← HE.out]
  rintro e w1 ⟨rfl, hb1⟩
  obtain ⟨hc1, hf1⟩ := bcell hb1
  have hz1 : w.heap.size + 3 < w1.heap.size := by have := hb1.size; simp at this; omega
  have hb1' : Below w.heap.size w w1 := (((((Below.refl _ _).alloc (Nat.le_refl _) _).alloc (by simp) _).alloc (by simp; omega) _).alloc (by simp; omega) _).trans (hb1.mono (by simp; omega))
  go_wp2_with fail
  exact bodyPost_ret (v := .tuple #[.agg #[.int .i64 0, .int .i64 0], .int .i64 x]) (by simp [results, Tryd.results16, go_sem, hc1]) rfl ⟨rfl, (hb1'.setCell (by show w.heap.size ≤ w.heap.size + 1 + 1; omega) _).setCell (by show w.heap.size ≤ w.heap.size + 1 + 1; omega) _⟩

set_option maxHeartbeats 2000000 in
theorem refHull_err (a b c d : Int) (w : World) (R : Iv × Int) (he : errAll [(a, b), (c, d)] ≠ 0) : Calls Tryd.prog 20 #[.agg #[.int .i64 a, .int .i64 b], .agg #[.int .i64 c, .int .i64 d]] w (Gives (pairRes a b c d R) w) := by
  rw [show pairRes a b c d R = ((0, 0), errAll [(a, b), (c, d)]) from if_neg he]
  have hne : (errAll [(a, b), (c, d)] != 0) = true := by simp [he]
  clear he
  obtain ⟨x, hxe⟩ : ∃ x, x = errAll [(a, b), (c, d)] := ⟨_, rfl⟩
  rw [← hxe] at hne ⊢
  have HE := Lib.hid hxe
  clear hxe
  go_enter Tryd.func20, Tryd.ntmps20
  go_wp2_with fail
  refine (refAll_any [(a, b), (c, d)] _ _ (w.heap.size + 1 + 1 + 1 + 1) _ (lies_two (((w.alloc _).alloc _).alloc _) (a, b) (c, d) _ _ (by simp)) (by simp) (by simp)).mono ?_
  rw [← HE.out]
  rintro e w1 ⟨rfl, hb1⟩
  obtain ⟨hc1, hf1⟩ := bcell hb1
  have hz1 : w.heap.size + 3 < w1.heap.size := by have := hb1.size; simp at this; omega
  have hb1' : Below w.heap.size w w1 := (((((Below.refl _ _).alloc (Nat.le_refl _) _).alloc (by simp) _).alloc (by simp; omega) _).alloc (by simp; omega) _).trans (hb1.mono (by simp; omega))
  go_wp2_with fail
  exact bodyPost_ret (v := .tuple #[.agg #[.int .i64 0, .int .i64 0], .int .i64 x]) (by simp [results, Tryd.results20, go_sem, hc1]) rfl ⟨rfl, (hb1'.setCell (by show w.heap.size ≤ w.heap.size + 1 + 1; omega) _).setCell (by show w.heap.size ≤ w.heap.size + 1 + 1; omega) _⟩

set_option maxHeartbeats 2000000 in
theorem inter_err (a b c d : Int) (w : World) (R : Iv × Int) (he : errAll [(a, b), (c, d)] ≠ 0) : Calls Tryd.prog 15 #[.agg #[.int .i64 a, .int .i64 b], .agg #[.int .i64 c, .int .i64 d]] w (Gives (pairRes a b c d R) w) := by
  rw [show pairRes a b c d R = ((0, 0), errAll [(a, b), (c, d)]) from if_neg he]
  have hne : (errAll [(a, b), (c, d)] != 0) = true := by simp [he]
  clear he
  obtain ⟨x, hxe⟩ : ∃ x, x = errAll [(a, b), (c, d)] := ⟨_, rfl⟩
  rw [← hxe] at hne ⊢
  have HE := Lib.hid hxe
  clear hxe
  go_enter Tryd.func15, Tryd.ntmps15
  go_wp2_with fail
  refine (checkAll_any [(a, b), (c, d)] _ _ (w.heap.size + 1 + 1 + 1 + 1) _ (lies_two (((w.alloc _).alloc _).alloc _) (a, b) (c, d) _ _ (by simp)) (by simp) (by simp)).mono ?_
  rw [← HE.out]
  rintro e w1 ⟨rfl, hb1⟩
  obtain ⟨hc1, hf1⟩ := bcell hb1
  have hz1 : w.heap.size + 3 < w1.heap.size := by have := hb1.size; simp at this; omega
  have hb1' : Below w.heap.size w w1 := (((((Below.refl _ _).alloc (Nat.le_refl _) _).alloc (by simp) _).alloc (by simp; omega) _).alloc (by simp; omega) _).trans (hb1.mono (by simp; omega))
  go_wp2_with fail
  exact bodyPost_ret (v := .tuple #[.agg #[.int .i64 0, .int .i64 0], .int .i64 x]) (by simp [results, Tryd.results15, go_sem, hc1]) rfl ⟨rfl, (hb1'.setCell (by show w.heap.size ≤ w.heap.size + 1 + 1; omega) _).setCell (by show w.heap.size ≤ w.heap.size + 1 + 1; omega) _⟩

set_option maxHeartbeats 2000000 in
theorem refInter_err (a b c d : Int) (w : World) (R : Iv × Int) (he : errAll [(a, b), (c, d)] ≠ 0) : Calls Tryd.prog 19 #[.agg #[.int .i64 a, .int .i64 b], .agg #[.int .i64 c, .int .i64 d]] w (Gives (pairRes a b c d R) w) := by
  rw [show pairRes a b c d R = ((0, 0), errAll [(a, b), (c, d)]) from if_neg he]
  have hne : (errAll [(a, b), (c, d)] != 0) = true := by simp [he]
  clear he
  obtain ⟨x, hxe⟩ : ∃ x, x = errAll [(a, b), (c, d)] := ⟨_, rfl⟩
  rw [← hxe] at hne ⊢
  have HE := Lib.hid hxe
  clear hxe
  go_enter Tryd.func19, Tryd.ntmps19
  go_wp2_with fail
  refine (refAll_any [(a, b), (c, d)] _ _ (w.heap.size + 1 + 1 + 1 + 1) _ (lies_two (((w.alloc _).alloc _).alloc _) (a, b) (c, d) _ _ (by simp)) (by simp) (by simp)).mono ?_
  rw [← HE.out]
  rintro e w1 ⟨rfl, hb1⟩
  obtain ⟨hc1, hf1⟩ := bcell hb1
  have hz1 : w.heap.size + 3 < w1.heap.size := by have := hb1.size; simp at this; omega
  have hb1' : Below w.heap.size w w1 := (((((Below.refl _ _).alloc (Nat.le_refl _) _).alloc (by simp) _).alloc (by simp; omega) _).alloc (by simp; omega) _).trans (hb1.mono (by simp; omega))
  go_wp2_with fail
  exact bodyPost_ret (v := .tuple #[.agg #[.int .i64 0, .int .i64 0], .int .i64 x]) (by simp [results, Tryd.results19, go_sem, hc1]) rfl ⟨rfl, (hb1'.setCell (by show w.heap.size ≤ w.heap.size + 1 + 1; omega) _).setCell (by show w.heap.size ≤ w.heap.size + 1 + 1; omega) _⟩

set_option maxHeartbeats 2000000 in
theorem add_err (a b c d : Int) (w : World) (R : Iv × Int) (he : errAll [(a, b), (c, d)] ≠ 0) : Calls Tryd.prog 13 #[.agg #[.int .i64 a, .int .i64 b], .agg #[.int .i64 c, .int .i64 d]] w (Gives (pairRes a b c d R) w) := by
  rw [show pairRes a b c d R = ((0, 0), errAll [(a, b), (c, d)]) from if_neg he]
  have hne : (errAll [(a, b), (c, d)] != 0) = true := by simp [he]
  clear he
  obtain ⟨x, hxe⟩ : ∃ x, x = errAll [(a, b), (c, d)] := ⟨_, rfl⟩
  rw [← hxe] at hne ⊢
  have HE := Lib.hid hxe
  clear hxe
  go_enter Tryd.func13, Tryd.ntmps13
  go_wp2_with fail
  refine (checkAll_any [(a, b), (c, d)] _ _ (w.heap.size + 1 + 1 + 1 + 1) _ (lies_two (((w.alloc _).alloc _).alloc _) (a, b) (c, d) _ _ (by simp)) (by simp) (by simp)).mono ?_
  rw [← HE.out]
  rintro e w1 ⟨rfl, hb1⟩
  obtain ⟨hc1, hf1⟩ := bcell hb1
  have hz1 : w.heap.size + 3 < w1.heap.size := by have := hb1.size; simp at this; omega
  have hb1' : Below w.heap.size w w1 := (((((Below.refl _ _).alloc (Nat.le_refl _) _).alloc (by simp) _).alloc (by simp; omega) _).alloc (by simp; omega) _).trans (hb1.mono (by simp; omega))
  go_wp2_with fail
  exact bodyPost_ret (v := .tuple #[.agg #[.int .i64 0, .int .i64 0], .int .i64 x]) (by simp [results, Tryd.results13, go_sem, hc1]) rfl ⟨rfl, (hb1'.setCell (by show w.heap.size ≤ w.heap.size + 1 + 1; omega) _).setCell (by show w.heap.size ≤ w.heap.size + 1 + 1; omega) _⟩

set_option maxHeartbeats 2000000 in
theorem hull_ok (a b c d : Int) (w : World) (he : errAll [(a, b), (c, d)] = 0) : Calls Tryd.prog 16 #[.agg #[.int .i64 a, .int .i64 b], .agg #[.int .i64 c, .int .i64 d]] w (Gives (pairRes a b c d ((min a c, max b d), 0)) w) := by
  rw [show pairRes a b c d ((min a c, max b d), 0) = ((min a c, max b d), 0) from if_pos he]
  have HE := Lib.hid he
  obtain ⟨x1, x2, x3⟩ := errAll_zero.1 he (a, b) (by simp)
  obtain ⟨y1, y2, y3⟩ := errAll_zero.1 he (c, d) (by simp)
  simp only at x1 x2 x3 y1 y2 y3
  clear he
  unfold Gives
  go_enter Tryd.func16, Tryd.ntmps16
  go_wp2_with fail
  refine (checkAll_any [(a, b), (c, d)] _ _ (w.heap.size + 1 + 1 + 1 + 1) _ (lies_two (((w.alloc _).alloc _).alloc _) (a, b) (c, d) _ _ (by simp)) (by simp) (by simp)).mono ?_
  rw [HE.out]
  rintro e w1 ⟨rfl, hb1⟩
  obtain ⟨hc1, hf1⟩ := bcell hb1
  have hz1 : w.heap.size + 3 < w1.heap.size := by have := hb1.size; simp at this; omega
  have hb1' : Below w.heap.size w w1 := (((((Below.refl _ _).alloc (Nat.le_refl _) _).alloc (by simp) _).alloc (by simp; omega) _).alloc (by simp; omega) _).trans (hb1.mono (by simp; omega))
  go_wp2_with fail
  exact bodyPost_ret (v := .tuple #[.agg #[.int .i64 (min a c), .int .i64 (max b d)], .int .i64 0]) (by simp [results, Tryd.results16, go_sem, hc1]) rfl ⟨rfl, (hb1'.setCell (by show w.heap.size ≤ w.heap.size + 1 + 1; omega) _).setCell (by show w.heap.size ≤ w.heap.size + 1 + 1; omega) _⟩

set_option maxHeartbeats 2000000 in
theorem refHull_ok (a b c d : Int) (w : World) (he : errAll [(a, b), (c, d)] = 0) : Calls Tryd.prog 20 #[.agg #[.int .i64 a, .int .i64 b], .agg #[.int .i64 c, .int .i64 d]] w (Gives (pairRes a b c d ((min a c, max b d), 0)) w) := by
  rw [show pairRes a b c d ((min a c, max b d), 0) = ((min a c, max b d), 0) from if_pos he]
  have HE := Lib.hid he
  obtain ⟨x1, x2, x3⟩ := errAll_zero.1 he (a, b) (by simp)
  obtain ⟨y1, y2, y3⟩ := errAll_zero.1 he (c, d) (by simp)
  simp only at x1 x2 x3 y1 y2 y3
  clear he
  unfold Gives
  go_enter Tryd.func20, Tryd.ntmps20
  go_wp2_with fail
  refine (refAll_any [(a, b), (c, d)] _ _ (w.heap.size + 1 + 1 + 1 + 1) _ (lies_two (((w.alloc _).alloc _).alloc _) (a, b) (c, d) _ _ (by simp)) (by simp) (by simp)).mono ?_
  rw [HE.out]
  rintro e w1 ⟨rfl, hb1⟩
  obtain ⟨hc1, hf1⟩ := bcell hb1
  have hz1 : w.heap.size + 3 < w1.heap.size := by have := hb1.size; simp at this; omega
  have hb1' : Below w.heap.size w w1 := (((((Below.refl _ _).alloc (Nat.le_refl _) _).alloc (by simp) _).alloc (by simp; omega) _).alloc (by simp; omega) _).trans (hb1.mono (by simp; omega))
  go_wp2_with fail
  exact bodyPost_ret (v := .tuple #[.agg #[.int .i64 (min a c), .int .i64 (max b d)], .int .i64 0]) (by simp [results, Tryd.results20, go_sem, hc1]) rfl ⟨rfl, (hb1'.setCell (by show w.heap.size ≤ w.heap.size + 1 + 1; omega) _).setCell (by show w.heap.size ≤ w.heap.size + 1 + 1; omega) _⟩

end Go.Proofs.YtbhkbhaepefdgaaDoor
