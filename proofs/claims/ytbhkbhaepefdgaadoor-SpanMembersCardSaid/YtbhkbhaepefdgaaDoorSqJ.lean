/- The walk of SpanMembers. -/
import Derived.Test.YtbhkbhaepefdgaaDoorSqI
import Derived.Test.YtbhkbhaepefdgaaDoorSqB
namespace Go.Proofs.YtbhkbhaepefdgaaDoor
open Go.RowKit

theorem memB_eq {kind : Int} {xs ys zs : List Iv} (h : ∀ n, memL n zs ↔ inKind kind xs ys n = true) (n : Int) {b : Bool} (hb : inKind kind xs ys n = b) : memB n zs = b := by
  rw [← hb]
  exact Bool.eq_iff_iff.2 ((memB_iff n zs).trans (h n))
theorem NF_next {xs : List Iv} (h : NF xs) {k : Nat} (hk : k + 1 < xs.length) : (xs.getD k (0, 0)).2 + 2 ≤ (xs.getD (k + 1) (0, 0)).1 := by
  have := List.pairwise_iff_getElem.1 h.2 k (k + 1) (by omega) hk (by omega)
  simpa [List.getD, hk, show k < xs.length by omega] using this

set_option maxHeartbeats 2000000 in
theorem lawNormal_any (xs : List Iv) (v : Value) (B : Nat) (w : World) (hL : SliceIv w B v xs) (hB : B ≤ w.heap.size) (hm : xs.length ≤ 1000) (hN : NF xs) (hO : OkL xs) :
    Calls Tryd.prog 30 #[v] w fun e w' => e = .returned (.bool true) ∧ Below w.heap.size w w' := by
  obtain ⟨A, c, rfl, _, hL⟩ := hL
  have HL := Lib.hid hL
  have HN := Lib.hid hN
  have HO := Lib.hid hO
  clear hL hN hO
  go_enter Tryd.func30, Tryd.ntmps30
  go_wp2_with fail
  go_loopw [3] (fun i wr => ∃ k : Nat, k ≤ xs.length ∧ i = .int .i64 k ∧ Below w.heap.size w wr) (fun i _ => xs.length - (intOf i).toNat)
  case atStart => exact ⟨0, Nat.zero_le _, rfl, Below.refl _ _⟩
  case round =>
    obtain ⟨k, hk, rfl, hbw⟩ := hrel
    by_cases hlt : k < xs.length
    · obtain ⟨g, o, rfl, hg, hcell⟩ := (HL.out.below hbw hB) (by omega)
      obtain ⟨c1, c2⟩ := hcell k hlt
      have hx := getD_okIv HO.out hlt
      have i0 : (0 : Int) ≤ (k : Int) := by omega
      have i1 : (k : Int) < (xs.length : Int) := by omega
      rcases Nat.eq_zero_or_pos k with rfl | hp
      · clear hcell
        generalize xs.getD 0 (0, 0) = a at c1 c2 hx
        obtain ⟨a1, a2⟩ := a
        simp only at c1 c2 hx
        have hq : decide (a1 > a2) = false := by simp; omega
        have hq2 : decide (a2 < a1) = false := by simp; omega
        simp only [Nat.zero_mul, Nat.add_zero] at c1 c2
        go_wp2
        go_quiet (fail)
        go_wp2
        go_roundw
        case rel => exact ⟨1, by omega, rfl, below_drewN hbw _⟩
        case measure => simp [intOf]; omega
      · obtain ⟨m, rfl⟩ : ∃ m, k = m + 1 := ⟨k - 1, by omega⟩
        obtain ⟨_, d2⟩ := hcell m (by omega)
        have hxm := getD_okIv HO.out (show m < xs.length by omega)
        have hn := NF_next HN.out hlt
        clear hcell
        generalize xs.getD (m + 1) (0, 0) = a at c1 c2 hx hn
        generalize xs.getD m (0, 0) = b at d2 hxm hn
        obtain ⟨a1, a2⟩ := a
        obtain ⟨b1, b2⟩ := b
        simp only at c1 c2 hx d2 hxm hn
        have hq : decide (a1 > a2) = false := by simp; omega
        have hq2 : decide (a2 < a1) = false := by simp; omega
        have hq3 : decide (a1 < b2 + 2) = false := by simp; omega
        have i2 : IntKind.i64.wrap (b2 + 2) = b2 + 2 := IntWalk.i64_in _ (by omega)
        have i3 : (0 : Int) ≤ (m : Int) := by omega
        have i4 : (m : Int) < (xs.length : Int) := by omega
        have i5 : (m : Int) + 1 < (xs.length : Int) := by omega
        have i6 : (0 : Int) ≤ (m : Int) + 1 := by omega
        go_wp2
        go_quiet (fail)
        clear i2
        go_wp2
        go_roundw
        case rel => exact ⟨m + 1 + 1, by omega, by go_num, below_drewN hbw _⟩
        case measure => simp [intOf]; omega
    · have hkn : k = xs.length := by omega
      subst hkn
      go_wp2
      go_ret
      exact ⟨rfl, hbw⟩
set_option maxRecDepth 20000 in
set_option maxHeartbeats 8000000 in
theorem spanMembers_ok (v u : Value) (xs ys : List Iv) (n : Int) (B : Nat) (w : World) (hG : HasEmpty w) (hx : SliceIv w B v xs) (hy : SliceIv w B u ys) (hB : B ≤ w.heap.size) (h1 : xs.length ≤ 30) (h2 : ys.length ≤ 30) :
    Calls Tryd.prog 5 #[v, u, .int .i64 n] w fun e w' => e = .returned (.bool true) ∧ Below w.heap.size w w' := by
  have HX := Lib.hid hx
  have HY := Lib.hid hy
  have hG0 := hG.lt
  have HG := Lib.hid hG
  clear hG
  obtain ⟨A, c, rfl, _, _⟩ := hx
  obtain ⟨A', c', rfl, _, _⟩ := hy
  go_enter Tryd.func5, Tryd.ntmps5
  go_wp2_with fail
  refine (awake_any _).mono ?_
  rintro e w0 ⟨rfl, hb0⟩
  go_wp2_with fail
  refine (union_any xs ys _ _ B _ (HX.out.below hb0 hB) (HY.out.below hb0 hB) (by have := hb0.size; omega) (by omega) (by omega)).mono ?_
  rintro e w1 ⟨r1, z1, e1, rfl, s1, l1, hc1⟩
  have hb1 := hb0.trans (hc1.mono hb0.size)
  have S1 := Lib.hid s1
  have L1 := Lib.hid l1
  clear s1 l1
  go_wp2_with fail
  refine (minus_any xs ys _ _ B _ (HG.out.below hb1 hG0) (HX.out.below hb1 hB) (HY.out.below hb1 hB) (by have := hb1.size; omega) (by omega) (by omega)).mono ?_
  rintro e w2 ⟨r2, z2, e2, rfl, s2, l2, hc2⟩
  have hb2 := hb1.trans (hc2.mono hb1.size)
  have S2 := Lib.hid s2
  have L2 := Lib.hid l2
  clear s2 l2
  go_wp2_with fail
  refine (common2_any xs ys _ _ B _ (HG.out.below hb2 hG0) (HX.out.below hb2 hB) (HY.out.below hb2 hB) (by have := hb2.size; omega) (by omega) (by omega)).mono ?_
  rintro e w3 ⟨r3, z3, e3, rfl, s3, l3, hc3⟩
  have hb3 := hb2.trans (hc3.mono hb2.size)
  have S3 := Lib.hid s3
  have L3 := Lib.hid l3
  clear s3 l3
  have L1 := Lib.hid (((L1.out.below hc2 (Nat.le_refl _)).below hc3 hc2.size).more (Nat.le_trans hc2.size hc3.size))
  have L2 := Lib.hid ((L2.out.below hc3 (Nat.le_refl _)).more hc3.size)
  obtain rfl : e1 = errAll (xs ++ ys) := S1.out.1
  obtain rfl : e2 = errAll (xs ++ ys) := S2.out.1
  obtain rfl : e3 = errAll (xs ++ ys) := S3.out.1
  clear hc1 hc2 hc3
  by_cases he : errAll (xs ++ ys) = 0
  · rw [he] at S1 S2 S3 ⊢
    have P1 : memB n z1 = (memB n xs || memB n ys) := memB_eq (S1.out.2.2.2.2 rfl).2 n (by unfold inKind keepB; cases memB n xs <;> cases memB n ys <;> rfl)
    have P2 : memB n z2 = (memB n xs && !memB n ys) := memB_eq (S2.out.2.2.2.2 rfl).2 n (by unfold inKind keepB; cases memB n xs <;> cases memB n ys <;> rfl)
    have P3 : memB n z3 = (memB n xs && memB n ys) := memB_eq (S3.out.2.2.2.2 rfl).2 n (by unfold inKind keepB; cases memB n xs <;> cases memB n ys <;> rfl)
    have I1 := fun (W : World) (h : Below w.heap.size w W) => in_any xs n _ B W (HX.out.below h hB) (by have := h.size; omega) (by omega)
    have I2 := fun (W : World) (h : Below w.heap.size w W) => in_any ys n _ B W (HY.out.below h hB) (by have := h.size; omega) (by omega)
    generalize memB n xs = bx at P1 P2 P3 I1
    generalize memB n ys = by' at P1 P2 P3 I2
    have J1 := Lib.hid I1
    have J2 := Lib.hid I2
    have Q1 := Lib.hid P1
    have Q2 := Lib.hid P2
    have Q3 := Lib.hid P3
    clear I1 I2 P1 P2 P3
    go_wp2_with fail
    refine (J1.out _ hb3).mono ?_
    rintro e w4 ⟨rfl, hc4⟩
    have E4 := hc4
    have hb4 := hb3.trans (hc4.mono hb3.size)
    go_wp2_with fail
    refine (J2.out _ hb4).mono ?_
    rintro e w5 ⟨rfl, hc5⟩
    have E5 := E4.trans (hc5.mono E4.size)
    cases bx <;> cases by'
    · have Q1 : Hid (memB n z1 = false) := Q1.out
      have Q2 : Hid (memB n z2 = false) := Q2.out
      have Q3 : Hid (memB n z3 = false) := Q3.out
      go_wp2_with fail
      refine (in_any z1 n r1 w3.heap.size w5 (L1.out.below E5 (Nat.le_refl _)) E5.size (by have := S1.out.2.1; omega)).mono ?_
      rw [Q1.out]
      rintro e w6 ⟨rfl, hc6⟩
      have E6 := E5.trans (hc6.mono E5.size)
      go_wp2_with fail
      refine (in_any z2 n r2 w3.heap.size w6 (L2.out.below E6 (Nat.le_refl _)) E6.size (by have := S2.out.2.1; omega)).mono ?_
      rw [Q2.out]
      rintro e w7 ⟨rfl, hc7⟩
      have E7 := E6.trans (hc7.mono E6.size)
      go_wp2_with fail
      refine (in_any z3 n r3 w3.heap.size w7 (L3.out.below E7 (Nat.le_refl _)) E7.size (by have := S3.out.2.1; omega)).mono ?_
      rw [Q3.out]
      rintro e w8 ⟨rfl, hc8⟩
      have E8 := E7.trans (hc8.mono E7.size)
      go_wp2_with fail
      refine (lawNormal_any z1 r1 w3.heap.size w8 (L1.out.below E8 (Nat.le_refl _)) E8.size S1.out.2.1 (S1.out.2.2.2.2 rfl).1 S1.out.2.2.1).mono ?_
      rintro e w9 ⟨rfl, hc9⟩
      have E9 := E8.trans (hc9.mono E8.size)
      go_wp2_with fail
      refine (lawNormal_any z2 r2 w3.heap.size w9 (L2.out.below E9 (Nat.le_refl _)) E9.size S2.out.2.1 (S2.out.2.2.2.2 rfl).1 S2.out.2.2.1).mono ?_
      rintro e w10 ⟨rfl, hc10⟩
      have E10 := E9.trans (hc10.mono E9.size)
      go_wp2_with fail
      refine (lawNormal_any z3 r3 w3.heap.size w10 (L3.out.below E10 (Nat.le_refl _)) E10.size S3.out.2.1 (S3.out.2.2.2.2 rfl).1 S3.out.2.2.1).mono ?_
      rintro e w11 ⟨rfl, hc11⟩
      have E11 := E10.trans (hc11.mono E10.size)
      go_wp2_with fail
      go_ret
      exact ⟨rfl, hb3.trans (E11.mono hb3.size)⟩
    · have Q1 : Hid (memB n z1 = true) := Q1.out
      have Q2 : Hid (memB n z2 = false) := Q2.out
      have Q3 : Hid (memB n z3 = false) := Q3.out
      go_wp2_with fail
      refine (in_any z1 n r1 w3.heap.size w5 (L1.out.below E5 (Nat.le_refl _)) E5.size (by have := S1.out.2.1; omega)).mono ?_
      rw [Q1.out]
      rintro e w6 ⟨rfl, hc6⟩
      have E6 := E5.trans (hc6.mono E5.size)
      go_wp2_with fail
      refine (in_any z2 n r2 w3.heap.size w6 (L2.out.below E6 (Nat.le_refl _)) E6.size (by have := S2.out.2.1; omega)).mono ?_
      rw [Q2.out]
      rintro e w7 ⟨rfl, hc7⟩
      have E7 := E6.trans (hc7.mono E6.size)
      go_wp2_with fail
      refine (in_any z3 n r3 w3.heap.size w7 (L3.out.below E7 (Nat.le_refl _)) E7.size (by have := S3.out.2.1; omega)).mono ?_
      rw [Q3.out]
      rintro e w8 ⟨rfl, hc8⟩
      have E8 := E7.trans (hc8.mono E7.size)
      go_wp2_with fail
      refine (lawNormal_any z1 r1 w3.heap.size w8 (L1.out.below E8 (Nat.le_refl _)) E8.size S1.out.2.1 (S1.out.2.2.2.2 rfl).1 S1.out.2.2.1).mono ?_
      rintro e w9 ⟨rfl, hc9⟩
      have E9 := E8.trans (hc9.mono E8.size)
      go_wp2_with fail
      refine (lawNormal_any z2 r2 w3.heap.size w9 (L2.out.below E9 (Nat.le_refl _)) E9.size S2.out.2.1 (S2.out.2.2.2.2 rfl).1 S2.out.2.2.1).mono ?_
      rintro e w10 ⟨rfl, hc10⟩
      have E10 := E9.trans (hc10.mono E9.size)
      go_wp2_with fail
      refine (lawNormal_any z3 r3 w3.heap.size w10 (L3.out.below E10 (Nat.le_refl _)) E10.size S3.out.2.1 (S3.out.2.2.2.2 rfl).1 S3.out.2.2.1).mono ?_
      rintro e w11 ⟨rfl, hc11⟩
      have E11 := E10.trans (hc11.mono E10.size)
      go_wp2_with fail
      go_ret
      exact ⟨rfl, hb3.trans (E11.mono hb3.size)⟩
    · have Q1 : Hid (memB n z1 = true) := Q1.out
      have Q2 : Hid (memB n z2 = true) := Q2.out
      have Q3 : Hid (memB n z3 = false) := Q3.out
      go_wp2_with fail
      refine (in_any z1 n r1 w3.heap.size w5 (L1.out.below E5 (Nat.le_refl _)) E5.size (by have := S1.out.2.1; omega)).mono ?_
      rw [Q1.out]
      rintro e w6 ⟨rfl, hc6⟩
      have E6 := E5.trans (hc6.mono E5.size)
      go_wp2_with fail
      refine (in_any z2 n r2 w3.heap.size w6 (L2.out.below E6 (Nat.le_refl _)) E6.size (by have := S2.out.2.1; omega)).mono ?_
      rw [Q2.out]
      rintro e w7 ⟨rfl, hc7⟩
      have E7 := E6.trans (hc7.mono E6.size)
      go_wp2_with fail
      refine (in_any z3 n r3 w3.heap.size w7 (L3.out.below E7 (Nat.le_refl _)) E7.size (by have := S3.out.2.1; omega)).mono ?_
      rw [Q3.out]
      rintro e w8 ⟨rfl, hc8⟩
      have E8 := E7.trans (hc8.mono E7.size)
      go_wp2_with fail
      refine (lawNormal_any z1 r1 w3.heap.size w8 (L1.out.below E8 (Nat.le_refl _)) E8.size S1.out.2.1 (S1.out.2.2.2.2 rfl).1 S1.out.2.2.1).mono ?_
      rintro e w9 ⟨rfl, hc9⟩
      have E9 := E8.trans (hc9.mono E8.size)
      go_wp2_with fail
      refine (lawNormal_any z2 r2 w3.heap.size w9 (L2.out.below E9 (Nat.le_refl _)) E9.size S2.out.2.1 (S2.out.2.2.2.2 rfl).1 S2.out.2.2.1).mono ?_
      rintro e w10 ⟨rfl, hc10⟩
      have E10 := E9.trans (hc10.mono E9.size)
      go_wp2_with fail
      refine (lawNormal_any z3 r3 w3.heap.size w10 (L3.out.below E10 (Nat.le_refl _)) E10.size S3.out.2.1 (S3.out.2.2.2.2 rfl).1 S3.out.2.2.1).mono ?_
      rintro e w11 ⟨rfl, hc11⟩
      have E11 := E10.trans (hc11.mono E10.size)
      go_wp2_with fail
      go_ret
      exact ⟨rfl, hb3.trans (E11.mono hb3.size)⟩
    · have Q1 : Hid (memB n z1 = true) := Q1.out
      have Q2 : Hid (memB n z2 = false) := Q2.out
      have Q3 : Hid (memB n z3 = true) := Q3.out
      go_wp2_with fail
      refine (in_any z1 n r1 w3.heap.size w5 (L1.out.below E5 (Nat.le_refl _)) E5.size (by have := S1.out.2.1; omega)).mono ?_
      rw [Q1.out]
      rintro e w6 ⟨rfl, hc6⟩
      have E6 := E5.trans (hc6.mono E5.size)
      go_wp2_with fail
      refine (in_any z2 n r2 w3.heap.size w6 (L2.out.below E6 (Nat.le_refl _)) E6.size (by have := S2.out.2.1; omega)).mono ?_
      rw [Q2.out]
      rintro e w7 ⟨rfl, hc7⟩
      have E7 := E6.trans (hc7.mono E6.size)
      go_wp2_with fail
      refine (in_any z3 n r3 w3.heap.size w7 (L3.out.below E7 (Nat.le_refl _)) E7.size (by have := S3.out.2.1; omega)).mono ?_
      rw [Q3.out]
      rintro e w8 ⟨rfl, hc8⟩
      have E8 := E7.trans (hc8.mono E7.size)
      go_wp2_with fail
      refine (lawNormal_any z1 r1 w3.heap.size w8 (L1.out.below E8 (Nat.le_refl _)) E8.size S1.out.2.1 (S1.out.2.2.2.2 rfl).1 S1.out.2.2.1).mono ?_
      rintro e w9 ⟨rfl, hc9⟩
      have E9 := E8.trans (hc9.mono E8.size)
      go_wp2_with fail
      refine (lawNormal_any z2 r2 w3.heap.size w9 (L2.out.below E9 (Nat.le_refl _)) E9.size S2.out.2.1 (S2.out.2.2.2.2 rfl).1 S2.out.2.2.1).mono ?_
      rintro e w10 ⟨rfl, hc10⟩
      have E10 := E9.trans (hc10.mono E9.size)
      go_wp2_with fail
      refine (lawNormal_any z3 r3 w3.heap.size w10 (L3.out.below E10 (Nat.le_refl _)) E10.size S3.out.2.1 (S3.out.2.2.2.2 rfl).1 S3.out.2.2.1).mono ?_
      rintro e w11 ⟨rfl, hc11⟩
      have E11 := E10.trans (hc11.mono E10.size)
      go_wp2_with fail
      go_ret
      exact ⟨rfl, hb3.trans (E11.mono hb3.size)⟩
  · have hne : (errAll (xs ++ ys) != 0) = true := by simp [he]
    go_wp2_with fail
    go_ret
    exact ⟨rfl, hb3⟩
set_option maxHeartbeats 1000000 in
theorem spanMembers_long (v u : Value) (xs ys : List Iv) (n : Int) (B : Nat) (w : World) (hx : SliceIv w B v xs) (hy : SliceIv w B u ys) (hl : ¬ (xs.length ≤ 30 ∧ ys.length ≤ 30)) :
    Calls Tryd.prog 5 #[v, u, .int .i64 n] w fun e w' => e = .returned (.bool true) ∧ Below w.heap.size w w' := by
  obtain ⟨A, c, rfl, _, _⟩ := hx
  obtain ⟨A', c', rfl, _, _⟩ := hy
  by_cases h1 : 30 < xs.length
  · have i1 : (30 : Int) < (xs.length : Int) := by omega
    clear hl
    go_enter Tryd.func5, Tryd.ntmps5
    go_wp2_with fail
    refine (awake_any _).mono ?_
    rintro e w0 ⟨rfl, hb0⟩
    go_wp2_with fail
    go_ret
    exact ⟨rfl, hb0⟩
  · have h2 : 30 < ys.length := by omega
    have i1 : (30 : Int) < (ys.length : Int) := by omega
    have i2 : (xs.length : Int) ≤ 30 := by omega
    clear hl
    go_enter Tryd.func5, Tryd.ntmps5
    go_wp2_with fail
    refine (awake_any _).mono ?_
    rintro e w0 ⟨rfl, hb0⟩
    go_wp2_with fail
    go_ret
    exact ⟨rfl, hb0⟩
theorem spanMembers_any (v u : Value) (xs ys : List Iv) (n : Int) (B : Nat) (w : World) (hG : HasEmpty w) (hx : SliceIv w B v xs) (hy : SliceIv w B u ys) (hB : B ≤ w.heap.size) :
    Calls Tryd.prog 5 #[v, u, .int .i64 n] w fun e w' => e = .returned (.bool true) ∧ Below w.heap.size w w' := by
  by_cases hl : xs.length ≤ 30 ∧ ys.length ≤ 30
  · exact spanMembers_ok v u xs ys n B w hG hx hy hB hl.1 hl.2
  · exact spanMembers_long v u xs ys n B w hx hy hl
end Go.Proofs.YtbhkbhaepefdgaaDoor
