/- Contracts of layer 3: the reference (Compare, Primitive, Turn). -/
import Derived.Test.YtdbcflgacjgdoaaVeW
import Derived.Test.YtdbcflgacjgdoaaVeX
import Derived.Test.YtdbcflgacjgdoaaVeV
import Derived.Test.YtdbcflgacjgdoaaVeT
namespace Go.Proofs.Ytdbcflgacjgdoaa
open Go.RowKit

def lessV (a b : V3) : Bool := decide (a.1 < b.1 ∨ (a.1 = b.1 ∧ (a.2.1 < b.2.1 ∨ (a.2.1 = b.2.1 ∧ a.2.2 < b.2.2))))
theorem lessV_cmp (a b : V3) : (if lessV a b then (-1 : Int) else if lessV b a then 1 else 0) = cmpV a b := by
  obtain ⟨x, y, z⟩ := a
  obtain ⟨x', y', z'⟩ := b
  simp only [lessV, cmpV, cmpI, decide_eq_true_eq]
  (repeat' split) <;> omega
set_option maxHeartbeats 1000000 in
theorem rLess (a b : V3) (w : World) : Calls Try.prog 28 #[vecV a, vecV b] w fun e w' => e = .returned (.bool (lessV a b)) ∧ Below w.heap.size w w' := by
  obtain ⟨x, y, z⟩ := a
  obtain ⟨x', y', z'⟩ := b
  have HR : Hid (lessV (x, y, z) (x', y', z') = decide (x < x' ∨ (x = x' ∧ (y < y' ∨ (y = y' ∧ z < z'))))) := rfl
  generalize lessV (x, y, z) (x', y', z') = r at HR ⊢
  go_enter Try.func28, Try.ntmps28
  go_wp2_with fail
  · rw [HR.out.trans (show _ = decide (x < x') from decide_eq_decide.2 (by have h : (x != x') = true := by assumption
                                                                           simp only [bne_iff_ne, ne_eq] at h; omega))]
    go_ret
    exact ⟨rfl, below2 _ _ _⟩
  · rw [HR.out.trans (show _ = decide (y < y') from decide_eq_decide.2 (by have h : (x != x') = false := by assumption
                                                                           have h' : (y != y') = true := by assumption
                                                                           simp only [bne_iff_ne, bne_eq_false_iff_eq, ne_eq] at h h'; omega))]
    go_ret
    exact ⟨rfl, below2 _ _ _⟩
  · rw [HR.out.trans (show _ = decide (z < z') from decide_eq_decide.2 (by have h : (x != x') = false := by assumption
                                                                           have h' : (y != y') = false := by assumption
                                                                           simp only [bne_eq_false_iff_eq] at h h'; omega))]
    go_ret
    exact ⟨rfl, below2 _ _ _⟩
set_option maxHeartbeats 1000000 in
theorem rComp (a b : V3) (w : World) : Calls Try.prog 11 #[vecV a, vecV b] w fun e w' => e = .returned (.int .i64 (cmpV a b)) ∧ Below w.heap.size w w' := by
  rw [← lessV_cmp]
  have h1 := fun W => rLess a b W
  have h2 := fun W => rLess b a W
  cases e1 : lessV a b <;> cases e2 : lessV b a
  all_goals
    rw [e1] at h1
    rw [e2] at h2
    have H1 := Lib.hid h1
    have H2 := Lib.hid h2
    clear h1 h2 e1 e2
    obtain ⟨x, y, z⟩ := a
    obtain ⟨x', y', z'⟩ := b
    go_enter Try.func11, Try.ntmps11
    go_wp2_with fail
    refine (H1.out _).mono ?_
    rintro e w1 ⟨rfl, hb1⟩
    obtain ⟨m1, m2, m3, m4⟩ := made2 w (.cells #[.int .i64 x, .int .i64 y, .int .i64 z] 23) (.cells #[.int .i64 x', .int .i64 y', .int .i64 z'] 23)
    obtain ⟨s1, s2, s3, _, _, _⟩ := own3 ((hb1.block _ (by rw [m4]; omega)).trans m1)
    obtain ⟨s4, s5, s6, _, _, _⟩ := own3 ((hb1.block _ (by rw [m4]; omega)).trans m2)
    have HB := Lib.hid (m3.trans (hb1.mono (by rw [m4]; omega)))
    clear m1 m2 m3 m4 hb1
    go_wp2_with fail
    first
      | (go_ret; exact ⟨rfl, HB.out⟩)
      | (refine (H2.out _).mono ?_
         rintro e w2 ⟨rfl, hb2⟩
         have HB2 := Lib.hid (HB.out.trans (hb2.mono HB.out.size))
         clear hb2
         go_wp2_with fail
         go_ret
         exact ⟨rfl, HB2.out⟩)
set_option maxHeartbeats 1000000 in
theorem rTurn (a b c : Pt) (ha : InP a) (hb : InP b) (hc : InP c) (w : World) : Calls Try.prog 33 #[ptV a, ptV b, ptV c] w fun e w' => e = .returned (.int .i64 (trn a b c)) ∧ Below w.heap.size w w' := by
  have HT : Hid (trn a b c = cmpI ((b.1 - a.1) * (c.2 - a.2)) ((b.2 - a.2) * (c.1 - a.1))) := rfl
  generalize trn a b c = r at HT ⊢
  obtain ⟨a1, a2⟩ := a
  obtain ⟨b1, b2⟩ := b
  obtain ⟨c1, c2⟩ := c
  simp only [InP] at ha hb hc HT
  obtain ⟨x1, x2, x3, x4⟩ := ha
  obtain ⟨y1, y2, y3, y4⟩ := hb
  obtain ⟨z1, z2, z3, z4⟩ := hc
  have p1 := two_mul (tw y1 y2 x1 x2) (tw z3 z4 x3 x4)
  have p2 := two_mul (tw y3 y4 x3 x4) (tw z1 z2 x1 x2)
  have e1 : wrap64 (b1 - a1) = b1 - a1 := IntWalk.wrap64_in _ (by omega)
  have e2 : wrap64 (c2 - a2) = c2 - a2 := IntWalk.wrap64_in _ (by omega)
  have e3 : wrap64 (b2 - a2) = b2 - a2 := IntWalk.wrap64_in _ (by omega)
  have e4 : wrap64 (c1 - a1) = c1 - a1 := IntWalk.wrap64_in _ (by omega)
  have e5 : wrap64 ((b1 - a1) * (c2 - a2)) = (b1 - a1) * (c2 - a2) := IntWalk.wrap64_in _ (by omega)
  have e6 : wrap64 ((b2 - a2) * (c1 - a1)) = (b2 - a2) * (c1 - a1) := IntWalk.wrap64_in _ (by omega)
  have e7 : wrap64 ((b1 - a1) * (c2 - a2) - (b2 - a2) * (c1 - a1)) = (b1 - a1) * (c2 - a2) - (b2 - a2) * (c1 - a1) := IntWalk.wrap64_in _ (by omega)
  have hr : r = if 0 < (b1 - a1) * (c2 - a2) - (b2 - a2) * (c1 - a1) then 1 else if (b1 - a1) * (c2 - a2) - (b2 - a2) * (c1 - a1) < 0 then -1 else 0 := by
    rw [HT.out, cmpI]
    generalize (b1 - a1) * (c2 - a2) = P
    generalize (b2 - a2) * (c1 - a1) = Q
    (repeat' split) <;> omega
  clear p1 p2 x1 x2 x3 x4 y1 y2 y3 y4 z1 z2 z3 z4 HT
  have HR := Lib.hid hr
  clear hr
  go_enter Try.func33, Try.ntmps33
  go_wp2_with fail
  all_goals
    rw [HR.out]
    first | rw [if_pos (by omega)] | rw [if_neg (by omega), if_pos (by omega)] | rw [if_neg (by omega), if_neg (by omega)]
    go_ret
    exact ⟨rfl, below3 _ _ _ _⟩
theorem ret_bool {a b : Bool} (h : a = b) : Ending.returned (.bool a) = .returned (.bool b) := by rw [h]
set_option maxRecDepth 20000 in
set_option maxHeartbeats 4000000 in
theorem rOn (a b c : Pt) (ha : InP a) (hb : InP b) (hc : InP c) (w : World) : Calls Try.prog 32 #[ptV a, ptV b, ptV c] w fun e w' => e = .returned (.bool (onR a b c)) ∧ Below w.heap.size w w' := by
  have hT := fun W => rTurn a b c ha hb hc W
  have hR : onR a b c = decide (trn a b c = 0 ∧ c.1 ≥ min a.1 b.1 ∧ c.1 ≤ max a.1 b.1 ∧ c.2 ≥ min a.2 b.2 ∧ c.2 ≤ max a.2 b.2) := rfl
  clear ha hb hc
  generalize onR a b c = r at hR ⊢
  generalize trn a b c = T at hT hR
  obtain ⟨a1, a2⟩ := a
  obtain ⟨b1, b2⟩ := b
  obtain ⟨c1, c2⟩ := c
  have HT := Lib.hid hT
  have HM := Lib.hid (fun t => made3 w (.cells #[.int .i64 a1, .int .i64 a2] t) (.cells #[.int .i64 b1, .int .i64 b2] t) (.cells #[.int .i64 c1, .int .i64 c2] t))
  simp only at hR
  have HR := Lib.hid hR
  clear hT hR
  by_cases h0 : T = 0
  · subst h0
    go_enter Try.func32, Try.ntmps32
    go_wp2_with fail
    refine (HT.out _).mono ?_
    rintro e w2 ⟨rfl, hb2⟩
    obtain ⟨m1, m2, m3, m4, m5⟩ := HM.out 35
    obtain ⟨p1, p2, _, _⟩ := own2 ((hb2.block _ (by rw [m5]; omega)).trans m1)
    obtain ⟨p3, p4, _, _⟩ := own2 ((hb2.block _ (by rw [m5]; omega)).trans m2)
    obtain ⟨p5, p6, _, _⟩ := own2 ((hb2.block _ (by rw [m5]; omega)).trans m3)
    have HB := Lib.hid (m4.trans (hb2.mono (by rw [m5]; omega)))
    clear m1 m2 m3 m4 m5 hb2 HM HT
    go_wp2_with fail
    all_goals
      go_ret
      refine ⟨ret_bool ?_, HB.out⟩
      rw [HR.out]
      first | exact decide_eq_decide.2 (by simp only [true_and, ge_iff_le]; omega) | exact (decide_eq_false (by simp only [true_and, ge_iff_le]; omega)).symm
  · have h0' : (T == 0) = false := by simp [h0]
    go_enter Try.func32, Try.ntmps32
    go_wp2_with fail
    refine (HT.out _).mono ?_
    rintro e w2 ⟨rfl, hb2⟩
    obtain ⟨m1, m2, m3, m4, m5⟩ := HM.out 35
    obtain ⟨p1, p2, _, _⟩ := own2 ((hb2.block _ (by rw [m5]; omega)).trans m1)
    obtain ⟨p3, p4, _, _⟩ := own2 ((hb2.block _ (by rw [m5]; omega)).trans m2)
    obtain ⟨p5, p6, _, _⟩ := own2 ((hb2.block _ (by rw [m5]; omega)).trans m3)
    have HB := Lib.hid (m4.trans (hb2.mono (by rw [m5]; omega)))
    clear m1 m2 m3 m4 m5 hb2 HM HT
    go_wp2_with fail
    all_goals
      go_ret
      refine ⟨ret_bool ?_, HB.out⟩
      rw [HR.out]
      exact (decide_eq_false (by omega)).symm
end Go.Proofs.Ytdbcflgacjgdoaa
