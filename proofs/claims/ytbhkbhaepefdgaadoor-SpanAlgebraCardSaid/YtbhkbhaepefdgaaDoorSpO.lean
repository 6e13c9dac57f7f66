/- Sum, its errors; Sum of the reference. -/
import Derived.Test.YtbhkbhaepefdgaaDoorSpN
namespace Go.Proofs.YtbhkbhaepefdgaaDoor
open Go.RowKit



theorem nil_slice (w : World) (B : Nat) : SliceIv w B (.slice none 0 0) [] := ⟨none, 0, rfl, fun _ => rfl, fun h => absurd h (Nat.not_lt_zero _)⟩

set_option maxHeartbeats 2000000 in
theorem refSum_ok (v : Value) (xs : List Iv) (B : Nat) (w : World) (hx : SliceIv w B v xs) (hB : B ≤ w.heap.size) (h1 : xs.length ≤ 10000) (he : errAll xs = 0) :
    Calls Tryd.prog 49 #[v] w fun e w' => e = .returned (.tuple #[.agg #[.int .i64 (sumRes xs).1.1, .int .i64 (sumRes xs).1.2], .int .i64 (sumRes xs).2]) ∧ Below w.heap.size w w' := by
  have HX := Lib.hid hx
  have HE := Lib.hid he
  have HK := Lib.hid (errAll_zero.1 he)
  have HR : Hid (sumRes xs = resIv (sumL xs)) := if_pos he
  rw [HR.out]
  clear he
  have hres := fun W => result_res (sumL xs).1 (sumL xs).2 W
  rw [show ((sumL xs).1, (sumL xs).2) = sumL xs from rfl] at hres
  obtain ⟨r1, hr1⟩ : ∃ r, r = (resIv (sumL xs)).1.1 := ⟨_, rfl⟩
  obtain ⟨r2, hr2⟩ : ∃ r, r = (resIv (sumL xs)).1.2 := ⟨_, rfl⟩
  obtain ⟨r3, hr3⟩ : ∃ r, r = (resIv (sumL xs)).2 := ⟨_, rfl⟩
  rw [← hr1, ← hr2, ← hr3] at hres ⊢
  have HRES := Lib.hid hres
  clear hr1 hr2 hr3 HR hres
  obtain ⟨A, c, rfl, _, hLies⟩ := hx
  have HL := Lib.hid hLies
  clear hLies
  go_enter Tryd.func49, Tryd.ntmps49
  go_wp2_with fail
  refine (lists_any _ _ xs [] B _ (HX.out.below ((Below.refl _ _).alloc (Nat.le_refl _) _) hB) (nil_slice _ _) (by simp; omega) h1 (by simp)).mono ?_
  rw [List.append_nil, HE.out]
  rintro e w1 ⟨rfl, hb1⟩
  have hb1' : Below w.heap.size w w1 := ((Below.refl _ _).alloc (Nat.le_refl _) _).trans (hb1.mono (by simp))
  have hz1 : w.heap.size < w1.heap.size := by have := hb1.size; simp at this; omega
  have hr0 : w1.heap[w.heap.size]? = some (.cells #[.int .i64 0, .int .i64 0] 23 (0, 0)) := by
    rw [hb1.block w.heap.size (by simp)]
    exact heap_alloc_new w _
  have HR0 := Lib.hid hr0
  clear hr0 hb1
  have HL1 := Lib.hid (HL.out.below hb1' hB)
  go_wp2_with fail
  go_loopw [6] (fun i wr => ∃ k : Nat, k ≤ xs.length ∧ i = .int .i64 k ∧ Below w1.heap.size w1 wr ∧ Hid (w1.heap.size < wr.heap.size) ∧ Hid (wr.heap[w1.heap.size]? = some (.cells #[.int .i64 (sumL (xs.take k)).1, .int .i64 (sumL (xs.take k)).2] 23 (0, 0)))) (fun i _ => xs.length - (intOf i).toNat)
  case atStart => exact ⟨0, Nat.zero_le _, rfl, (Below.refl _ _).alloc (Nat.le_refl _) _, by unfold Hid; simp, heap_alloc_new w1 _⟩
  case round =>
    obtain ⟨k, hk, rfl, hbw, Hz, Hr⟩ := hrel
    by_cases hlt : k < xs.length
    · obtain ⟨g, o, rfl, hg, hcell⟩ := (HL1.out.below hbw (by omega)) (by omega)
      obtain ⟨c1, c2⟩ := hcell k hlt
      clear hcell
      obtain ⟨a1, a2, s1, s2, e1, e2, e3, q1, q2, q3, q4, q5, q6, q7⟩ := sum_step HK.out h1 hlt
      rw [e1] at c1 c2
      have hr := Hr.out
      rw [e2] at hr
      obtain ⟨o1, o2, o3, o4⟩ := own2 hr
      have HE3 := Lib.hid e3
      have HRR := Lib.hid hr
      have hgz := Hz.out
      clear e1 e2 e3 hr Hr
      have hne : g ≠ w1.heap.size := by omega
      have i0 : (0 : Int) ≤ (k : Int) := by omega
      have i1 : (k : Int) < (xs.length : Int) := by omega
      go_wp2_with fail
      go_region
      go_wp2_with fail
      go_region
      go_wp2_with fail
      go_roundw
      case rel =>
        refine ⟨k + 1, by omega, by go_num, ((hbw.setCell (p := ⟨_, _, none⟩) (Nat.le_refl _) _).setCell (p := ⟨_, _, none⟩) (Nat.le_refl _) _).drew.drew, by unfold Hid; simp; omega, ?_⟩
        rw [HE3.out]
        exact set2 HRR.out _ _
      case measure => simp [intOf]; omega
    · have hkn : k = xs.length := by omega
      subst hkn
      rw [List.take_length] at Hr
      obtain ⟨o1, o2, o3, o4⟩ := own2 Hr.out
      go_wp2_with fail
      refine (HRES.out _).mono ?_
      rintro e w2 ⟨rfl, hb2⟩
      have hb3 : Below w1.heap.size w1 w2 := hbw.trans (hb2.mono hbw.size)
      obtain ⟨p1, p2, p3, p4⟩ := own2 ((hb3.block w.heap.size (by omega)).trans HR0.out)
      go_wp2_with fail
      exact bodyPost_ret (v := .tuple #[.agg #[.int .i64 r1, .int .i64 r2], .int .i64 r3]) (by simp [results, Tryd.results49, go_sem, p1, p2]) rfl ⟨rfl, ((hb1'.trans (hb3.mono hb1'.size)).setCell (Nat.le_refl _) _).setCell (Nat.le_refl _) _⟩

set_option maxHeartbeats 2000000 in
theorem refSum_err (v : Value) (xs : List Iv) (B : Nat) (w : World) (hx : SliceIv w B v xs) (hB : B ≤ w.heap.size) (h1 : xs.length ≤ 10000) (he : errAll xs ≠ 0) :
    Calls Tryd.prog 49 #[v] w fun e w' => e = .returned (.tuple #[.agg #[.int .i64 (sumRes xs).1.1, .int .i64 (sumRes xs).1.2], .int .i64 (sumRes xs).2]) ∧ Below w.heap.size w w' := by
  have HX := Lib.hid hx
  have HR : Hid (sumRes xs = ((0, 0), errAll xs)) := if_neg he
  rw [HR.out]
  simp only
  clear HR
  have hne : (errAll xs != 0) = true := by simp [he]
  clear he
  obtain ⟨x, hxe⟩ : ∃ x, x = errAll xs := ⟨_, rfl⟩
  rw [← hxe] at hne ⊢
  have HE := Lib.hid hxe
  clear hxe
  obtain ⟨A, c, rfl, _, _⟩ := hx
  go_enter Tryd.func49, Tryd.ntmps49
  go_wp2_with fail
  refine (lists_any _ _ xs [] B _ (HX.out.below ((Below.refl _ _).alloc (Nat.le_refl _) _) hB) (nil_slice _ _) (by simp; omega) h1 (by simp)).mono ?_
  rw [List.append_nil, ← HE.out]
  rintro e w1 ⟨rfl, hb1⟩
  have hb1' : Below w.heap.size w w1 := ((Below.refl _ _).alloc (Nat.le_refl _) _).trans (hb1.mono (by simp))
  have hr0 : w1.heap[w.heap.size]? = some (.cells #[.int .i64 0, .int .i64 0] 23 (0, 0)) := by
    rw [hb1.block w.heap.size (by simp)]
    exact heap_alloc_new w _
  obtain ⟨p1, p2, p3, p4⟩ := own2 hr0
  clear hr0 hb1
  go_wp2_with fail
  exact bodyPost_ret (v := .tuple #[.agg #[.int .i64 0, .int .i64 0], .int .i64 x]) (by simp [results, Tryd.results49, go_sem, p1, p2]) rfl ⟨rfl, (hb1'.setCell (Nat.le_refl _) _).setCell (Nat.le_refl _) _⟩

theorem refSum_any (v : Value) (xs : List Iv) (B : Nat) (w : World) (hx : SliceIv w B v xs) (hB : B ≤ w.heap.size) (h1 : xs.length ≤ 10000) :
    Calls Tryd.prog 49 #[v] w fun e w' => e = .returned (.tuple #[.agg #[.int .i64 (sumRes xs).1.1, .int .i64 (sumRes xs).1.2], .int .i64 (sumRes xs).2]) ∧ Below w.heap.size w w' := by
  by_cases he : errAll xs = 0
  · exact refSum_ok v xs B w hx hB h1 he
  · exact refSum_err v xs B w hx hB h1 he

end Go.Proofs.YtbhkbhaepefdgaaDoor
