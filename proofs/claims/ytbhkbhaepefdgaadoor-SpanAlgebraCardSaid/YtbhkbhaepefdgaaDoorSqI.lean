/- The walk of SpanSets. -/
import Derived.Test.YtbhkbhaepefdgaaDoorSqH
import Derived.Test.YtbhkbhaepefdgaaDoorSpL
namespace Go.Proofs.YtbhkbhaepefdgaaDoor
open Go.RowKit

theorem slice_nil (w : World) (B : Nat) : SliceIv w B (.slice none 0 0) [] := ⟨none, 0, rfl, fun _ => rfl, fun h => absurd h (Nat.not_lt_zero _)⟩
theorem isSet_norm {xs zs : List Iv} (he : errAll xs = 0) (n1 : NF zs) (n2 : ∀ n, memL n zs ↔ memL n xs) (n3 : zs.length ≤ 1000) : IsSet 1 xs [] 0 zs :=
  ⟨by rw [List.append_nil]; exact he.symm, n3, n1.ok n2 (errAll_zero.1 he), fun h => absurd rfl h, fun _ => ⟨n1, fun n => by
    rw [n2 n, inKind_1]
    have := memL_nil n
    exact ⟨.inl, fun h => h.elim id (fun h => absurd h this)⟩⟩⟩
theorem normalize_any (v : Value) (xs : List Iv) (B : Nat) (w : World) (hx : SliceIv w B v xs) (hB : B ≤ w.heap.size) (h1 : xs.length ≤ 200) :
    Calls Tryd.prog 21 #[v] w fun e w' => ∃ r zs er, e = .returned (.tuple #[r, .int .i64 er]) ∧ IsSet 1 xs [] er zs ∧ SliceIv w' w'.heap.size r zs ∧ Below w.heap.size w w' := by
  by_cases he : errAll xs = 0
  · refine (normalize_ok v xs B w hx hB (by omega) he).mono ?_
    rintro e w' ⟨u, zs, rfl, n1, n2, n3, hown, hb⟩
    exact ⟨u, zs, 0, rfl, isSet_norm he n1 n2 (by omega), OwnIv.slice hown, hb⟩
  · refine (normalize_err v xs B w hx hB (by omega) he).mono ?_
    rintro e w' ⟨rfl, hb⟩
    exact ⟨_, [], _, rfl, ⟨by rw [List.append_nil], by simp, OkL_nil, fun _ => rfl, fun h => absurd h he⟩, slice_nil _ _, hb⟩

set_option maxHeartbeats 1000000 in
theorem count_err (v : Value) (xs : List Iv) (B : Nat) (w : World) (hx : SliceIv w B v xs) (hB : B ≤ w.heap.size) (h1 : xs.length ≤ 10000) (he : errAll xs ≠ 0) :
    Calls Tryd.prog 25 #[v] w fun e w' => e = .returned (.tuple #[.int .i64 0, .int .i64 (errAll xs)]) ∧ Below w.heap.size w w' := by
  have HX := Lib.hid hx
  have hne : (errAll xs != 0) = true := by simp [he]
  clear he
  obtain ⟨x, hxe⟩ : ∃ x, x = errAll xs := ⟨_, rfl⟩
  rw [← hxe] at hne ⊢
  have HE := Lib.hid hxe
  clear hxe
  obtain ⟨A, c, rfl, _, _⟩ := hx
  go_enter Tryd.func25, Tryd.ntmps25
  go_wp2_with fail
  refine (checkLists_any [(_, xs)] _ _ (w.heap.size + 1) _ (LiesLL.one HX.out hB _ _ rfl) (by simp) (by simp) (by rw [catL_one]; omega) (by simpa using h1)).mono ?_
  rw [catL_one, ← HE.out]
  rintro e w1 ⟨rfl, hb1⟩
  have hb1' : Below w.heap.size w w1 := ((Below.refl _ _).alloc (Nat.le_refl _) _).trans (hb1.mono (by simp))
  go_wp2_with fail
  go_ret2
  exact ⟨rfl, hb1'⟩
theorem count_any (v : Value) (xs : List Iv) (B : Nat) (w : World) (hx : SliceIv w B v xs) (hB : B ≤ w.heap.size) (h1 : xs.length ≤ 200) :
    Calls Tryd.prog 25 #[v] w fun e w' => ∃ zs er, e = .returned (.tuple #[.int .i64 (countL zs), .int .i64 er]) ∧ IsSet 1 xs [] er zs ∧ Below w.heap.size w w' := by
  by_cases he : errAll xs = 0
  · refine (count_ok v xs B w hx hB (by omega) he).mono ?_
    rintro e w' ⟨zs, rfl, n1, n2, hb⟩
    have hf := formL_good (kind := 1) (a := xs) (b := []) (.inl rfl)
    have hu : zs = formL 1 xs [] := NF.ext n1 hf.1 fun n => by
      rw [n2 n, hf.2.1 n, inKind_1]
      have := memL_nil n
      exact ⟨.inl, fun h => h.elim id (fun h => absurd h this)⟩
    exact ⟨zs, 0, rfl, isSet_norm he n1 n2 (by rw [hu]; have := hf.2.2; simp at this; omega), hb⟩
  · refine (count_err v xs B w hx hB (by omega) he).mono ?_
    rintro e w' ⟨rfl, hb⟩
    exact ⟨[], _, rfl, ⟨by rw [List.append_nil], by simp, OkL_nil, fun _ => rfl, fun h => absurd h he⟩, hb⟩

theorem same_eq (r r' : Value) (zs : List Iv) (B : Nat) (w : World) (h : SliceIv w B r zs) (h' : SliceIv w B r' zs) (hB : B ≤ w.heap.size) (hm : zs.length ≤ 1000) :
    Calls Tryd.prog 27 #[r, r'] w fun e w' => e = .returned (.bool true) ∧ Below w.heap.size w w' := by
  obtain ⟨A, c, rfl, _, hL⟩ := h
  obtain ⟨A', c', rfl, _, hL'⟩ := h'
  have := same_any zs zs A A' c c' B w hL hL' hB (by omega) (by omega)
  simpa using this

set_option maxRecDepth 20000 in
set_option maxHeartbeats 8000000 in
theorem spanSets_ok (v u : Value) (xs ys : List Iv) (B : Nat) (w : World) (hG : HasEmpty w) (hx : SliceIv w B v xs) (hy : SliceIv w B u ys) (hB : B ≤ w.heap.size) (h1 : xs.length ≤ 30) (h2 : ys.length ≤ 30) :
    Calls Tryd.prog 4 #[v, u] w fun e w' => e = .returned (.bool true) ∧ Below w.heap.size w w' := by
  have HX := Lib.hid hx
  have HY := Lib.hid hy
  have hG0 := hG.lt
  have HG := Lib.hid hG
  clear hG
  obtain ⟨A, c, rfl, _, _⟩ := hx
  obtain ⟨A', c', rfl, _, _⟩ := hy
  go_enter Tryd.func4, Tryd.ntmps4
  go_wp2_with fail
  refine (awake_any _).mono ?_
  rintro e w0 ⟨rfl, hb0⟩
  go_wp2_with fail
  refine (normalize_any _ xs B _ (HX.out.below hb0 hB) (by have := hb0.size; omega) (by omega)).mono ?_
  rintro e w1 ⟨r1, z1, e1, rfl, s1, l1, hc1⟩
  have hb1 := hb0.trans (hc1.mono hb0.size)
  have S1 := Lib.hid s1
  have L1 := Lib.hid l1
  clear s1 l1
  go_wp2_with fail
  refine (union_any xs ys _ _ B _ (HX.out.below hb1 hB) (HY.out.below hb1 hB) (by have := hb1.size; omega) (by omega) (by omega)).mono ?_
  rintro e w2 ⟨r2, z2, e2, rfl, s2, l2, hc2⟩
  have hb2 := hb1.trans (hc2.mono hb1.size)
  have S2 := Lib.hid s2
  have L2 := Lib.hid l2
  clear s2 l2
  go_wp2_with fail
  refine (minus_any xs ys _ _ B _ (HG.out.below hb2 hG0) (HX.out.below hb2 hB) (HY.out.below hb2 hB) (by have := hb2.size; omega) (by omega) (by omega)).mono ?_
  rintro e w3 ⟨r3, z3, e3, rfl, s3, l3, hc3⟩
  have hb3 := hb2.trans (hc3.mono hb2.size)
  have S3 := Lib.hid s3
  have L3 := Lib.hid l3
  clear s3 l3
  go_wp2_with fail
  refine (common2_any xs ys _ _ B _ (HG.out.below hb3 hG0) (HX.out.below hb3 hB) (HY.out.below hb3 hB) (by have := hb3.size; omega) (by omega) (by omega)).mono ?_
  rintro e w4 ⟨r4, z4, e4, rfl, s4, l4, hc4⟩
  have hb4 := hb3.trans (hc4.mono hb3.size)
  have S4 := Lib.hid s4
  have L4 := Lib.hid l4
  clear s4 l4
  go_wp2_with fail
  refine (count_any _ xs B _ (HX.out.below hb4 hB) (by have := hb4.size; omega) (by omega)).mono ?_
  rintro e w5 ⟨z5, e5, rfl, s5, hc5⟩
  have hb5 := hb4.trans (hc5.mono hb4.size)
  have S5 := Lib.hid s5
  clear s5
  go_wp2_with fail
  refine (set_any xs [] 1 _ _ B _ (HX.out.below hb5 hB) (slice_nil _ _) (by have := hb5.size; omega) (by omega) (by simp) (by simp)).mono ?_
  rintro e w6 ⟨r6, z6, e6, rfl, s6, l6, hc6⟩
  have hb6 := hb5.trans (hc6.mono hb5.size)
  have S6 := Lib.hid s6
  have L6 := Lib.hid l6
  clear s6 l6
  go_wp2_with fail
  refine (set_any xs ys 1 _ _ B _ (HX.out.below hb6 hB) (HY.out.below hb6 hB) (by have := hb6.size; omega) (by omega) (by omega) (by simp)).mono ?_
  rintro e w7 ⟨r7, z7, e7, rfl, s7, l7, hc7⟩
  have hb7 := hb6.trans (hc7.mono hb6.size)
  have S7 := Lib.hid s7
  have L7 := Lib.hid l7
  clear s7 l7
  go_wp2_with fail
  refine (set_any xs ys 2 _ _ B _ (HX.out.below hb7 hB) (HY.out.below hb7 hB) (by have := hb7.size; omega) (by omega) (by omega) (by simp)).mono ?_
  rintro e w8 ⟨r8, z8, e8, rfl, s8, l8, hc8⟩
  have hb8 := hb7.trans (hc8.mono hb7.size)
  have S8 := Lib.hid s8
  have L8 := Lib.hid l8
  clear s8 l8
  go_wp2_with fail
  refine (set_any xs ys 3 _ _ B _ (HX.out.below hb8 hB) (HY.out.below hb8 hB) (by have := hb8.size; omega) (by omega) (by omega) (by simp)).mono ?_
  rintro e w9 ⟨r9, z9, e9, rfl, s9, l9, hc9⟩
  have hb9 := hb8.trans (hc9.mono hb8.size)
  have S9 := Lib.hid s9
  have L9 := Lib.hid l9
  clear s9 l9
  have g8 := hc9
  have g7 := hc8.trans (g8.mono hc8.size)
  have g6 := hc7.trans (g7.mono hc7.size)
  have g5 := hc6.trans (g6.mono hc6.size)
  have g4 := hc5.trans (g5.mono hc5.size)
  have g3 := hc4.trans (g4.mono hc4.size)
  have g2 := hc3.trans (g3.mono hc3.size)
  have g1 := hc2.trans (g2.mono hc2.size)
  have M1 := Lib.hid ((L1.out.below g1 (Nat.le_refl _)).more g1.size)
  have M2 := Lib.hid ((L2.out.below g2 (Nat.le_refl _)).more g2.size)
  have M3 := Lib.hid ((L3.out.below g3 (Nat.le_refl _)).more g3.size)
  have M4 := Lib.hid ((L4.out.below g4 (Nat.le_refl _)).more g4.size)
  have M6 := Lib.hid ((L6.out.below g6 (Nat.le_refl _)).more g6.size)
  have M7 := Lib.hid ((L7.out.below g7 (Nat.le_refl _)).more g7.size)
  have M8 := Lib.hid ((L8.out.below g8 (Nat.le_refl _)).more g8.size)
  have M9 := L9
  clear L1
  clear L2
  clear L3
  clear L4
  clear L6
  clear L7
  clear L8
  clear g1
  clear g2
  clear g3
  clear g4
  clear g5
  clear g6
  clear g7
  clear g8
  clear hc1
  clear hc2
  clear hc3
  clear hc4
  clear hc5
  clear hc6
  clear hc7
  clear hc8
  clear hc9
  obtain ⟨rfl, rfl⟩ := S1.out.unique S6.out
  obtain ⟨rfl, rfl⟩ := S5.out.unique S6.out
  obtain ⟨rfl, rfl⟩ := S2.out.unique S7.out
  obtain ⟨rfl, rfl⟩ := S3.out.unique S8.out
  obtain ⟨rfl, rfl⟩ := S4.out.unique S9.out
  go_wp2_with fail
  refine (same_eq _ _ _ w9.heap.size w9 M1.out M6.out (Nat.le_refl _) S6.out.2.1).mono ?_
  rintro e x1 ⟨rfl, hd1⟩
  have D1 := hd1
  clear hd1
  go_wp2_with fail
  refine (same_eq _ _ _ w9.heap.size x1 (M2.out.below D1 (Nat.le_refl _)) (M7.out.below D1 (Nat.le_refl _)) D1.size S7.out.2.1).mono ?_
  rintro e x2 ⟨rfl, hd2⟩
  have D2 := D1.trans (hd2.mono D1.size)
  clear hd2
  go_wp2_with fail
  refine (same_eq _ _ _ w9.heap.size x2 (M3.out.below D2 (Nat.le_refl _)) (M8.out.below D2 (Nat.le_refl _)) D2.size S8.out.2.1).mono ?_
  rintro e x3 ⟨rfl, hd3⟩
  have D3 := D2.trans (hd3.mono D2.size)
  clear hd3
  go_wp2_with fail
  refine (same_eq _ _ _ w9.heap.size x3 (M4.out.below D3 (Nat.le_refl _)) (M9.out.below D3 (Nat.le_refl _)) D3.size S9.out.2.1).mono ?_
  rintro e x4 ⟨rfl, hd4⟩
  have D4 := D3.trans (hd4.mono D3.size)
  clear hd4
  go_wp2_with fail
  refine (refCount_any _ _ w9.heap.size x4 (M6.out.below D4 (Nat.le_refl _)) D4.size (by have := S6.out.2.1; omega) S6.out.2.2.1).mono ?_
  rintro e x5 ⟨rfl, hd5⟩
  have D5 := D4.trans (hd5.mono D4.size)
  go_wp2_with fail
  go_ret
  exact ⟨rfl, hb9.trans (D5.mono hb9.size)⟩
set_option maxHeartbeats 1000000 in
theorem spanSets_long (v u : Value) (xs ys : List Iv) (B : Nat) (w : World) (hx : SliceIv w B v xs) (hy : SliceIv w B u ys) (hl : ¬ (xs.length ≤ 30 ∧ ys.length ≤ 30)) :
    Calls Tryd.prog 4 #[v, u] w fun e w' => e = .returned (.bool true) ∧ Below w.heap.size w w' := by
  obtain ⟨A, c, rfl, _, _⟩ := hx
  obtain ⟨A', c', rfl, _, _⟩ := hy
  by_cases h1 : 30 < xs.length
  · have i1 : (30 : Int) < (xs.length : Int) := by omega
    clear hl
    go_enter Tryd.func4, Tryd.ntmps4
    go_wp2_with fail
    refine (awake_any _).mono ?_
    rintro e w0 ⟨rfl, hb0⟩
    go_wp2_with fail
    go_ret
    exact ⟨rfl, hb0⟩
  · have h2 : 30 < ys.length := by omega
    have i1 : (30 : Int) < (ys.length : Int) := by omega
    have i2 : (xs.length : Int) ≤ 30 := by omega
    clear hl
    go_enter Tryd.func4, Tryd.ntmps4
    go_wp2_with fail
    refine (awake_any _).mono ?_
    rintro e w0 ⟨rfl, hb0⟩
    go_wp2_with fail
    go_ret
    exact ⟨rfl, hb0⟩
theorem spanSets_any (v u : Value) (xs ys : List Iv) (B : Nat) (w : World) (hG : HasEmpty w) (hx : SliceIv w B v xs) (hy : SliceIv w B u ys) (hB : B ≤ w.heap.size) :
    Calls Tryd.prog 4 #[v, u] w fun e w' => e = .returned (.bool true) ∧ Below w.heap.size w w' := by
  by_cases hl : xs.length ≤ 30 ∧ ys.length ≤ 30
  · exact spanSets_ok v u xs ys B w hG hx hy hB hl.1 hl.2
  · exact spanSets_long v u xs ys B w hx hy hl
end Go.Proofs.YtbhkbhaepefdgaaDoor
