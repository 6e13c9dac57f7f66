/- The walk of SpanAlgebra. -/
import Derived.Test.YtbhkbhaepefdgaaDoorSqI
import Derived.Test.YtbhkbhaepefdgaaDoorSqK
namespace Go.Proofs.YtbhkbhaepefdgaaDoor
open Go.RowKit

theorem IsSet.len {kind : Int} {xs ys zs : List Iv} (h : IsSet kind xs ys 0 zs) (hk : kind = 1 ∨ kind = 2 ∨ kind = 3) : zs.length ≤ 2 * (xs.length + ys.length) := by
  obtain ⟨n1, m1⟩ := h.2.2.2.2 rfl
  obtain ⟨f1, f2, f3⟩ := formL_good (a := xs) (b := ys) hk
  have : zs = formL kind xs ys := NF.ext n1 f1 fun n => (m1 n).trans (f2 n).symm
  rw [this]; exact f3
theorem SliceIv.lies {w : World} {B : Nat} {A : Option Addr} {n c : Nat} {xs : List Iv} (h : SliceIv w B (.slice A n c) xs) : Lies w B A xs := by
  obtain ⟨A', c', hv, _, hL⟩ := h
  simp only [Value.slice.injEq] at hv
  rw [hv.1]; exact hL
theorem errAll_left {xs ys : List Iv} (h : errAll (xs ++ ys) = 0) : errAll xs = 0 := errAll_zero.2 fun x hx => errAll_zero.1 h x (List.mem_append_left _ hx)
theorem errAll_right {xs ys : List Iv} (h : errAll (xs ++ ys) = 0) : errAll ys = 0 := errAll_zero.2 fun x hx => errAll_zero.1 h x (List.mem_append_right _ hx)

theorem back_step (xs : List Iv) (j : Nat) (h : j < xs.length) : (xs.drop j).reverse = (xs.drop (j + 1)).reverse ++ [xs.getD j (0, 0)] := by
  rw [List.drop_eq_getElem_cons h, List.reverse_cons]
  simp [List.getD, h]

set_option maxRecDepth 20000 in
set_option maxHeartbeats 8000000 in
theorem spanAlgebra_ok (v u : Value) (xs ys : List Iv) (B : Nat) (w : World) (hG : HasEmpty w) (hx : SliceIv w B v xs) (hy : SliceIv w B u ys) (hB : B ≤ w.heap.size) (h1 : xs.length ≤ 30) (h2 : ys.length ≤ 30) :
    Calls Tryd.prog 6 #[v, u] w fun e w' => e = .returned (.bool true) ∧ Below w.heap.size w w' := by
  have HX := Lib.hid hx
  have HY := Lib.hid hy
  have hG0 := hG.lt
  have HG := Lib.hid hG
  clear hG
  obtain ⟨A, c, rfl, _, _⟩ := hx
  obtain ⟨A', c', rfl, _, _⟩ := hy
  go_enter Tryd.func6, Tryd.ntmps6
  go_wp2_with fail
  refine (awake_any _).mono ?_
  rintro e w0 ⟨rfl, hb0⟩
  go_wp2_with fail
  refine (normalize_any _ xs B _ (HX.out.below hb0 hB) (by have := hb0.size; omega) (by omega)).mono ?_
  rintro e w1 ⟨r1, z1, e1, rfl, s1, l1, hc1⟩
  have hb1 := hb0.trans (hc1.mono hb0.size)
  have S1 := Lib.hid s1
  have L1 := Lib.hid l1
  clear s1 l1
  go_wp2_with fail
  refine (minus_any xs ys _ _ B _ (HG.out.below hb1 hG0) (HX.out.below hb1 hB) (HY.out.below hb1 hB) (by have := hb1.size; omega) (by omega) (by omega)).mono ?_
  rintro e w2 ⟨r2, z2, e2, rfl, s2, l2, hc2⟩
  have hb2 := hb1.trans (hc2.mono hb1.size)
  have S2 := Lib.hid s2
  have L2 := Lib.hid l2
  clear s2 l2
  go_wp2_with fail
  refine (common2_any xs ys _ _ B _ (HG.out.below hb2 hG0) (HX.out.below hb2 hB) (HY.out.below hb2 hB) (by have := hb2.size; omega) (by omega) (by omega)).mono ?_
  rintro e w3 ⟨r3, z3, e3, rfl, s3, l3, hc3⟩
  have hb3 := hb2.trans (hc3.mono hb2.size)
  have S3 := Lib.hid s3
  have L3 := Lib.hid l3
  clear s3 l3
  go_wp2_with fail
  refine (union_any xs ys _ _ B _ (HX.out.below hb3 hB) (HY.out.below hb3 hB) (by have := hb3.size; omega) (by omega) (by omega)).mono ?_
  rintro e w4 ⟨r4, z4, e4, rfl, s4, l4, hc4⟩
  have hb4 := hb3.trans (hc4.mono hb3.size)
  have S4 := Lib.hid s4
  have L4 := Lib.hid l4
  clear s4 l4
  have L3 := Lib.hid ((L3.out.below hc4 (Nat.le_refl _)).more hc4.size)
  have hc34 := hc3.trans (hc4.mono hc3.size)
  have L2 := Lib.hid ((L2.out.below hc34 (Nat.le_refl _)).more hc34.size)
  have hc24 := hc2.trans (hc34.mono hc2.size)
  have L1 := Lib.hid ((L1.out.below hc24 (Nat.le_refl _)).more hc24.size)
  clear hc1 hc2 hc3 hc4 hc34 hc24
  obtain rfl : e2 = errAll (xs ++ ys) := S2.out.1
  obtain rfl : e3 = errAll (xs ++ ys) := S3.out.1
  obtain rfl : e4 = errAll (xs ++ ys) := S4.out.1
  obtain rfl : e1 = errAll xs := by have := S1.out.1; rwa [List.append_nil] at this
  by_cases he : errAll (xs ++ ys) = 0
  · have he1 := errAll_left he
    have he2 := errAll_right he
    rw [he] at S2 S3 S4 ⊢
    rw [he1] at S1 ⊢
    have HK := Lib.hid (errAll_zero.1 he)
    clear he he1 he2
    have hl1 := S1.out.len (.inl rfl)
    have hl2 := S2.out.len (.inr (.inl rfl))
    have hl3 := S3.out.len (.inr (.inr rfl))
    have hl4 := S4.out.len (.inl rfl)
    rw [List.length_nil] at hl1
    go_wp2_with fail
    refine (union_any z2 z3 _ _ w4.heap.size w4 L2.out L3.out (Nat.le_refl _) (by omega) (by omega)).mono ?_
    rintro e w5 ⟨r5, z5, e5, rfl, s5, l5, hc5⟩
    have E5 := hc5
    have hE5 : errAll (z2 ++ z3) = 0 := errAll_zero.2 fun x hx => (List.mem_append.1 hx).elim (S2.out.2.2.1 x) (S3.out.2.2.1 x)
    obtain rfl : e5 = errAll (z2 ++ z3) := s5.1
    rw [hE5] at s5 ⊢
    have hz5 : z5 = z1 := NF.ext (s5.2.2.2.2 rfl).1 (S1.out.2.2.2.2 rfl).1 fun n => by
      rw [(s5.2.2.2.2 rfl).2 n, (S1.out.2.2.2.2 rfl).2 n, inKind_1, inKind_1, (S2.out.2.2.2.2 rfl).2 n, (S3.out.2.2.2.2 rfl).2 n, inKind_2, inKind_3]
      have := memL_nil n
      by_cases ha : memL n xs <;> by_cases hb : memL n ys <;> simp [ha, hb, this]
    subst hz5
    have S5 := Lib.hid s5
    have L5 := Lib.hid l5
    clear s5 l5 hE5
    go_wp2_with fail
    refine (normalize_any _ z5 w4.heap.size w5 (L1.out.below E5 (Nat.le_refl _)) E5.size (by omega)).mono ?_
    rintro e w6 ⟨r6, z6, e6, rfl, s6, l6, hc6⟩
    have E6 := E5.trans (hc6.mono E5.size)
    have hE6 : errAll (z5 ++ []) = 0 := by rw [List.append_nil]; exact errAll_zero.2 S1.out.2.2.1
    obtain rfl : e6 = errAll (z5 ++ []) := s6.1
    rw [hE6] at s6 ⊢
    have hz6 : z6 = z5 := NF.ext (s6.2.2.2.2 rfl).1 (S1.out.2.2.2.2 rfl).1 fun n => by
      rw [(s6.2.2.2.2 rfl).2 n, inKind_1]
      have := memL_nil n
      simp [this]
    subst hz6
    have S6 := Lib.hid s6
    have L6 := Lib.hid l6
    have L5 := Lib.hid ((L5.out.below hc6 (Nat.le_refl _)).more hc6.size)
    clear s6 l6 hE6
    go_wp2_with fail
    have hb6 : Below w.heap.size w w6 := hb4.trans (E6.mono hb4.size)
    go_loopw [15, 16] (fun o i wr => ∃ m : Nat, m ≤ xs.length ∧ i = .int .i64 ((m : Int) - 1) ∧ OwnIv wr w6.heap.size o (xs.drop m).reverse ∧ Below w6.heap.size w6 wr) (fun _ i _ => (intOf i + 1).toNat)
    case atStart => exact ⟨xs.length, Nat.le_refl _, rfl, by rw [List.drop_length]; exact World.ownsRow_made w6 #[] 0 (Nat.le_refl _) (by unfold maxLen; omega) rfl, (Below.refl _ _).alloc (Nat.le_refl _) _⟩
    case round =>
      obtain ⟨m, hm, rfl, hown, hbw⟩ := hrel
      have HO := Lib.hid hown
      clear hown
      cases m with
      | zero =>
        rw [show (((0 : Nat) : Int) - 1) = -1 by omega]
        go_wp2_with fail
        have hbr : Below w.heap.size w wr := hb6.trans (hbw.mono hb6.size)
        have HO0 : Hid (OwnIv wr w6.heap.size u15 xs.reverse) := HO.out
        refine (normalize_any _ xs.reverse wr.heap.size wr (OwnIv.slice HO0.out) (Nat.le_refl _) (by rw [List.length_reverse]; omega)).mono ?_
        rintro e w7 ⟨r7, z7, e7, rfl, s7, l7, hc7⟩
        have hb7 := hbr.trans (hc7.mono hbr.size)
        have hE7 : errAll (xs.reverse ++ []) = 0 := by rw [List.append_nil]; exact errAll_zero.2 fun x hx => HK.out x (List.mem_append_left _ (List.mem_reverse.1 hx))
        obtain rfl : e7 = errAll (xs.reverse ++ []) := s7.1
        rw [hE7] at s7 ⊢
        have hz7 : z7 = z6 := NF.ext (s7.2.2.2.2 rfl).1 (S1.out.2.2.2.2 rfl).1 fun n => by
          rw [(s7.2.2.2.2 rfl).2 n, (S1.out.2.2.2.2 rfl).2 n, inKind_1, inKind_1, memL_perm (List.reverse_perm xs) n]
        subst hz7
        have S7 := Lib.hid s7
        have L7 := Lib.hid l7
        clear s7 l7 hE7
        go_wp2_with fail
        refine (count_any _ xs B w7 (HX.out.below hb7 hB) (by have := hb7.size; omega) (by omega)).mono ?_
        rintro e w8 ⟨z8, e8, rfl, s8, hc8⟩
        have hb8 := hb7.trans (hc8.mono hb7.size)
        obtain ⟨rfl, rfl⟩ := s8.unique S1.out
        clear s8
        go_wp2_with fail
        refine (count_any _ ys B w8 (HY.out.below hb8 hB) (by have := hb8.size; omega) (by omega)).mono ?_
        rintro e w9 ⟨z9, e9, rfl, s9, hc9⟩
        have hb9 := hb8.trans (hc9.mono hb8.size)
        have hE9 : errAll (ys ++ []) = 0 := by rw [List.append_nil]; exact errAll_zero.2 fun x hx => HK.out x (List.mem_append_right _ hx)
        obtain rfl : e9 = errAll (ys ++ []) := s9.1
        rw [hE9] at s9 ⊢
        have S9 := Lib.hid s9
        clear s9 hE9
        go_wp2_with fail
        have hd9 : Below w4.heap.size w4 w9 := ((E6.trans (hbw.mono E6.size)).trans (hc7.mono (Nat.le_trans E6.size hbw.size))).trans ((hc8.trans (hc9.mono hc8.size)).mono (Nat.le_trans (Nat.le_trans E6.size hbw.size) hc7.size))
        refine (count_any r3 z3 w4.heap.size w9 (L3.out.below hd9 (Nat.le_refl _)) hd9.size (by omega)).mono ?_
        rintro e w10 ⟨z10, e10, rfl, s10, hc10⟩
        have hd10 := hd9.trans (hc10.mono hd9.size)
        have hE10 : errAll (z3 ++ []) = 0 := by rw [List.append_nil]; exact errAll_zero.2 S3.out.2.2.1
        obtain rfl : e10 = errAll (z3 ++ []) := s10.1
        rw [hE10] at s10 ⊢
        have S10 := Lib.hid s10
        clear s10 hE10
        go_wp2_with fail
        refine (count_any r4 z4 w4.heap.size w10 (L4.out.below hd10 (Nat.le_refl _)) hd10.size (by omega)).mono ?_
        rintro e w11 ⟨z11, e11, rfl, s11, hc11⟩
        have hd11 := hd10.trans (hc11.mono hd10.size)
        have hE11 : errAll (z4 ++ []) = 0 := by rw [List.append_nil]; exact errAll_zero.2 S4.out.2.2.1
        obtain rfl : e11 = errAll (z4 ++ []) := s11.1
        rw [hE11] at s11 ⊢
        have S11 := Lib.hid s11
        clear s11 hE11
        have hcount : countL z11 = countL z8 + countL z9 - countL z10 := by
          refine count_algebra (xs := xs) (ys := ys) (S1.out.2.2.2.2 rfl).1 (S9.out.2.2.2.2 rfl).1 (S10.out.2.2.2.2 rfl).1 (S11.out.2.2.2.2 rfl).1 S1.out.2.2.1 S9.out.2.2.1 S10.out.2.2.1 S11.out.2.2.1 (fun n => ?_) (fun n => ?_) (fun n => ?_) (fun n => ?_)
          · rw [(S1.out.2.2.2.2 rfl).2 n, inKind_1]; have := memL_nil n; simp [this]
          · rw [(S9.out.2.2.2.2 rfl).2 n, inKind_1]; have := memL_nil n; simp [this]
          · rw [(S10.out.2.2.2.2 rfl).2 n, inKind_1, (S3.out.2.2.2.2 rfl).2 n, inKind_3]; have := memL_nil n; simp [this]
          · rw [(S11.out.2.2.2.2 rfl).2 n, inKind_1, (S4.out.2.2.2.2 rfl).2 n, inKind_1]; have := memL_nil n; simp [this]
        have b8 := countL_bound z8 S1.out.2.2.1
        have b9 := countL_bound z9 S9.out.2.2.1
        have b10 := countL_bound z10 S10.out.2.2.1
        have q8 : z8.length ≤ 1000 := S1.out.2.1
        have q9 : z9.length ≤ 1000 := S9.out.2.1
        have q10 : z10.length ≤ 1000 := S10.out.2.1
        generalize countL z11 = c11 at hcount ⊢
        generalize countL z8 = c8 at hcount b8 ⊢
        generalize countL z9 = c9 at hcount b9 ⊢
        generalize countL z10 = c10 at hcount b10 ⊢
        have k1 : 0 ≤ c8 ∧ c8 ≤ 2000000000001000 := by omega
        have k2 : 0 ≤ c9 ∧ c9 ≤ 2000000000001000 := by omega
        have k3 : 0 ≤ c10 ∧ c10 ≤ 2000000000001000 := by omega
        have hw1 : IntKind.i64.wrap (c8 + c9) = c8 + c9 := IntWalk.i64_in _ (by omega)
        have hw2 : IntKind.i64.wrap (c8 + c9 - c10) = c8 + c9 - c10 := IntWalk.i64_in _ (by omega)
        clear b8 b9 b10 q8 q9 q10 k1 k2 k3
        have hm1 : Below w6.heap.size w6 w11 := ((hbw.trans (hc7.mono hbw.size)).trans ((hc8.trans (hc9.mono hc8.size)).mono (Nat.le_trans hbw.size hc7.size))).trans ((hc10.trans (hc11.mono hc10.size)).mono (Nat.le_trans (Nat.le_trans hbw.size hc7.size) (Nat.le_trans hc8.size hc9.size)))
        have hm2 : Below w7.heap.size w7 w11 := (hc8.trans (hc9.mono hc8.size)).trans ((hc10.trans (hc11.mono hc10.size)).mono (Nat.le_trans hc8.size hc9.size))
        have T1 := Lib.hid ((L1.out.below hd11 (Nat.le_refl _)).more hd11.size)
        have T5 := Lib.hid ((L5.out.below hm1 (Nat.le_refl _)).more hm1.size)
        have T6 := Lib.hid ((L6.out.below hm1 (Nat.le_refl _)).more hm1.size)
        have T7 := Lib.hid ((L7.out.below hm2 (Nat.le_refl _)).more hm2.size)
        have HB11 := Lib.hid (hb4.trans (hd11.mono hb4.size))
        clear hm1 hm2 hc7 hc8 hc9 hc10 hc11 hd9 hd10 hd11 hbw hbr
        go_wp2_with fail
        refine (same_eq _ _ _ w11.heap.size w11 T5.out T1.out (Nat.le_refl _) S1.out.2.1).mono ?_
        rintro e x1 ⟨rfl, D1⟩
        go_wp2_with fail
        refine (same_eq _ _ _ w11.heap.size x1 (T6.out.below D1 (Nat.le_refl _)) (T1.out.below D1 (Nat.le_refl _)) D1.size S1.out.2.1).mono ?_
        rintro e x2 ⟨rfl, hd2⟩
        have D2 := D1.trans (hd2.mono D1.size)
        clear hd2
        go_wp2_with fail
        refine (same_eq _ _ _ w11.heap.size x2 (T7.out.below D2 (Nat.le_refl _)) (T1.out.below D2 (Nat.le_refl _)) D2.size S1.out.2.1).mono ?_
        rintro e x3 ⟨rfl, hd3⟩
        have D3 := D2.trans (hd3.mono D2.size)
        clear hd3
        go_wp2_with fail
        go_ret
        exact ⟨rfl, HB11.out.trans (D3.mono HB11.out.size)⟩
      | succ j =>
        rw [show (((j + 1 : Nat) : Int) - 1) = (j : Int) by omega]
        obtain ⟨g, o, rfl, hg, hcell⟩ := (HX.out.lies.below (hb6.trans (hbw.mono hb6.size)) hB) (by omega)
        obtain ⟨c1, c2⟩ := hcell j (by omega)
        clear hcell
        have HJ := Lib.hid (back_step xs j (by omega))
        generalize xs.getD j (0, 0) = a at c1 c2 HJ
        obtain ⟨a1, a2⟩ := a
        simp only at c1 c2
        have j0 : (0 : Int) ≤ (j : Int) := by omega
        have j1 : (j : Int) < (xs.length : Int) := by omega
        go_wp2_with (at_builtin; refine wpList_append_iv rfl (.tmp 91) (.tmp 96) rfl w6.heap.size _ (xs.drop (j + 1)).reverse rfl ?d1 (wr.heap.size + 1) (.slice (some ⟨wr.heap.size, 0, none⟩) 1 1) [(a1, a2)] rfl ?d2 ?d3 ?d4 ?_)
        case d1 => exact HO.out.alloc _
        case d2 => exact slice_one wr a1 a2 _ _ rfl
        case d3 => simp <;> omega
        case d4 => have := hbw.size; simp; omega
        intro v' w7 hown' hgr
        have HO' := Lib.hid hown'
        have hbw7 := (hbw.alloc hbw.size _).grown hgr (by have := hbw.size; simp; omega) fun k hk => (HO.out.lt k hk).1
        clear hown' hgr
        go_wp2
        go_roundw
        case rel => exact ⟨j, by omega, rfl, by rw [HJ.out]; exact HO'.out, hbw7⟩
        case measure => simp [intOf] <;> omega
  · have hne : (errAll (xs ++ ys) != 0) = true := by simp [he]
    by_cases he1 : errAll xs = 0
    · rw [he1]
      go_wp2_with fail
      go_ret
      exact ⟨rfl, hb4⟩
    · have hne1 : (errAll xs != 0) = true := by simp [he1]
      go_wp2_with fail
      go_ret
      exact ⟨rfl, hb4⟩
set_option maxRecDepth 20000 in
set_option maxHeartbeats 2000000 in
theorem spanAlgebra_long (v u : Value) (xs ys : List Iv) (B : Nat) (w : World) (hx : SliceIv w B v xs) (hy : SliceIv w B u ys) (hl : ¬ (xs.length ≤ 30 ∧ ys.length ≤ 30)) :
    Calls Tryd.prog 6 #[v, u] w fun e w' => e = .returned (.bool true) ∧ Below w.heap.size w w' := by
  obtain ⟨A, c, rfl, _, _⟩ := hx
  obtain ⟨A', c', rfl, _, _⟩ := hy
  by_cases h1 : 30 < xs.length
  · have i1 : (30 : Int) < (xs.length : Int) := by omega
    clear hl
    go_enter Tryd.func6, Tryd.ntmps6
    go_wp2_with fail
    refine (awake_any _).mono ?_
    rintro e w0 ⟨rfl, hb0⟩
    go_wp2_with fail
    go_ret
    exact ⟨rfl, hb0⟩
  · have h2 : 30 < ys.length := by omega
    have i1 : (30 : Int) < (ys.length : Int) := by omega
    have i2 : (xs.length : Int) ≤ 30 := by omega
    clear hl
    go_enter Tryd.func6, Tryd.ntmps6
    go_wp2_with fail
    refine (awake_any _).mono ?_
    rintro e w0 ⟨rfl, hb0⟩
    go_wp2_with fail
    go_ret
    exact ⟨rfl, hb0⟩
theorem spanAlgebra_any (v u : Value) (xs ys : List Iv) (B : Nat) (w : World) (hG : HasEmpty w) (hx : SliceIv w B v xs) (hy : SliceIv w B u ys) (hB : B ≤ w.heap.size) :
    Calls Tryd.prog 6 #[v, u] w fun e w' => e = .returned (.bool true) ∧ Below w.heap.size w w' := by
  by_cases hl : xs.length ≤ 30 ∧ ys.length ≤ 30
  · exact spanAlgebra_ok v u xs ys B w hG hx hy hB hl.1 hl.2
  · exact spanAlgebra_long v u xs ys B w hx hy hl
end Go.Proofs.YtbhkbhaepefdgaaDoor
