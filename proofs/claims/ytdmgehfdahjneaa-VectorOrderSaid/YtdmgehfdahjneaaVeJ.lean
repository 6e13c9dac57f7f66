/- The walk of VectorOrder. -/
import Derived.Test.YtdmgehfdahjneaaVeI
import Derived.Test.YtdmgehfdahjneaaVeY
namespace Go.Proofs.Ytdmgehfdahjneaa
open Go.RowKit

theorem cmpV_anti (a b : V3) : cmpV a b = - cmpV b a := by
  obtain ⟨x, y, z⟩ := a
  obtain ⟨x', y', z'⟩ := b
  simp only [cmpV, cmpI]
  (repeat' split) <;> omega
theorem cmpV_zero (a b : V3) : cmpV a b = 0 ↔ (a.1 = b.1 ∧ a.2.1 = b.2.1 ∧ a.2.2 = b.2.2) := by
  obtain ⟨x, y, z⟩ := a
  obtain ⟨x', y', z'⟩ := b
  simp only [cmpV, cmpI]
  (repeat' split) <;> omega
theorem cmpV_le (a b : V3) : -1 ≤ cmpV a b ∧ cmpV a b ≤ 1 := by
  simp only [cmpV, cmpI]
  (repeat' split) <;> omega
theorem cmpV_neg (a b : V3) : cmpV a b < 0 ↔ (a.1 < b.1 ∨ (a.1 = b.1 ∧ (a.2.1 < b.2.1 ∨ (a.2.1 = b.2.1 ∧ a.2.2 < b.2.2)))) := by
  obtain ⟨x, y, z⟩ := a
  obtain ⟨x', y', z'⟩ := b
  simp only [cmpV, cmpI]
  (repeat' split) <;> omega
theorem cmpV_trans (a b c : V3) (h1 : cmpV a b ≤ 0) (h2 : cmpV b c ≤ 0) : cmpV a c < 0 ∨ (cmpV a c = 0 ∧ cmpV a b = 0 ∧ cmpV b c = 0) := by
  have n1 := cmpV_neg a b
  have n2 := cmpV_neg b c
  have n3 := cmpV_neg a c
  have z1 := cmpV_zero a b
  have z2 := cmpV_zero b c
  have z3 := cmpV_zero a c
  generalize cmpV a b = M at *
  generalize cmpV b c = N at *
  generalize cmpV a c = O at *
  rcases Int.lt_or_eq_of_le h1 with g1 | g1 <;> rcases Int.lt_or_eq_of_le h2 with g2 | g2
  · left; rw [n3]; have := n1.1 g1; have := n2.1 g2; omega
  · left; rw [n3]; have := n1.1 g1; have := z2.1 g2; omega
  · left; rw [n3]; have := z1.1 g1; have := n2.1 g2; omega
  · right; exact ⟨z3.2 (by have := z1.1 g1; have := z2.1 g2; omega), g1, g2⟩

set_option maxRecDepth 20000 in
set_option maxHeartbeats 8000000 in
theorem vectorOrder_any (x y z x' y' z' x2 y2 z2 : Int) (w : World) : Calls Try.prog 9 #[.agg #[.int .i64 x, .int .i64 y, .int .i64 z], .agg #[.int .i64 x', .int .i64 y', .int .i64 z'], .agg #[.int .i64 x2, .int .i64 y2, .int .i64 z2]] w fun e w' => e = .returned (.bool true) ∧ Below w.heap.size w w' := by
  have HC : Hid (∀ x y z x' y' z' W, Calls Try.prog 17 #[.agg #[.int .i64 x, .int .i64 y, .int .i64 z], .agg #[.int .i64 x', .int .i64 y', .int .i64 z']] W fun e w' => e = .returned (.int .i64 (cmpV (x, y, z) (x', y', z'))) ∧ Below W.heap.size W w') := fun x y z x' y' z' W => compare_any (x, y, z) (x', y', z') W
  have HW := Lib.hid (fun W => awake_any W)
  have HM := Lib.hid (fun t => made3 w (.cells #[.int .i64 x, .int .i64 y, .int .i64 z] t) (.cells #[.int .i64 x', .int .i64 y', .int .i64 z'] t) (.cells #[.int .i64 x2, .int .i64 y2, .int .i64 z2] t))
  go_enter Try.func9, Try.ntmps9
  go_wp2_with fail
  refine (HW.out _).mono ?_
  rintro e w1 ⟨rfl, hb⟩
  obtain ⟨m1, m2, m3, m4, m5⟩ := HM.out 23
  have r1 := (hb.block _ (by rw [m5]; omega)).trans m1
  have r2 := (hb.block _ (by rw [m5]; omega)).trans m2
  have r3 := (hb.block _ (by rw [m5]; omega)).trans m3
  have HB := Lib.hid (m4.trans (hb.mono (by rw [m5]; omega)))
  clear m1 m2 m3 m4 m5 hb HM HW
  have HS : Hid (∀ w', Below w1.heap.size w1 w' → w'.cell? ⟨w.heap.size, 0, none⟩ = some (.int .i64 x) ∧ w'.cell? ⟨w.heap.size, 1, none⟩ = some (.int .i64 y) ∧ w'.cell? ⟨w.heap.size, 2, none⟩ = some (.int .i64 z) ∧ w'.cell? ⟨w.heap.size + 1, 0, none⟩ = some (.int .i64 x') ∧ w'.cell? ⟨w.heap.size + 1, 1, none⟩ = some (.int .i64 y') ∧ w'.cell? ⟨w.heap.size + 1, 2, none⟩ = some (.int .i64 z') ∧ w'.cell? ⟨w.heap.size + 1 + 1, 0, none⟩ = some (.int .i64 x2) ∧ w'.cell? ⟨w.heap.size + 1 + 1, 1, none⟩ = some (.int .i64 y2) ∧ w'.cell? ⟨w.heap.size + 1 + 1, 2, none⟩ = some (.int .i64 z2) ∧ Below w1.heap.size w1 w') := fun w' hB => by
    obtain ⟨a1, a2, a3, _⟩ := own3 ((hB.block _ (Array.getElem?_eq_some_iff.1 r1).1).trans r1)
    obtain ⟨a4, a5, a6, _⟩ := own3 ((hB.block _ (Array.getElem?_eq_some_iff.1 r2).1).trans r2)
    obtain ⟨a7, a8, a9, _⟩ := own3 ((hB.block _ (Array.getElem?_eq_some_iff.1 r3).1).trans r3)
    exact ⟨a1, a2, a3, a4, a5, a6, a7, a8, a9, hB⟩
  clear r1 r2 r3
  have hs0 := HS.out w1 (Below.refl _ _)
  obtain ⟨p1, p2, p3, p4, p5, p6, p7, p8, p9, _⟩ := hs0
  go_wp2_with fail
  go_region_held3 (fun w' => w'.cell? ⟨w.heap.size, 0, none⟩ = some (.int .i64 x) ∧ w'.cell? ⟨w.heap.size, 1, none⟩ = some (.int .i64 y) ∧ w'.cell? ⟨w.heap.size, 2, none⟩ = some (.int .i64 z) ∧ w'.cell? ⟨w.heap.size + 1, 0, none⟩ = some (.int .i64 x') ∧ w'.cell? ⟨w.heap.size + 1, 1, none⟩ = some (.int .i64 y') ∧ w'.cell? ⟨w.heap.size + 1, 2, none⟩ = some (.int .i64 z') ∧ w'.cell? ⟨w.heap.size + 1 + 1, 0, none⟩ = some (.int .i64 x2) ∧ w'.cell? ⟨w.heap.size + 1 + 1, 1, none⟩ = some (.int .i64 y2) ∧ w'.cell? ⟨w.heap.size + 1 + 1, 2, none⟩ = some (.int .i64 z2) ∧ Below w1.heap.size w1 w')
    ((refine HS.out _ ?_; repeat (first | exact Below.refl _ _ | (apply Hid.out; assumption) | refine bAl ?_ | refine Below.drew ?_)))
    (first | (go_at_call 17; refine (HC.out _ _ _ _ _ _ _).mono ?_; rintro e w' ⟨rfl, hbb⟩; have HBn : Hid (Below w1.heap.size w1 w') := (by unfold Hid; refine bNext ?_ hbb; repeat (first | exact Below.refl _ _ | (apply Hid.out; assumption) | refine bAl ?_ | refine Below.drew ?_))))
  rename_i hH
  obtain ⟨p1', p2', p3', p4', p5', p6', p7', p8', p9', hBn⟩ := hH
  have HB3 := Lib.hid hBn
  clear hBn p1 p2 p3 p4 p5 p6 p7 p8 p9
  have q1 := fun W => eqlVec x y z x' y' z' W
  have ha := cmpV_anti (x', y', z') (x, y, z)
  have hz := cmpV_zero (x, y, z) (x', y', z')
  have hl1 := cmpV_le (x, y, z) (x', y', z')
  have hl2 := cmpV_le (x', y', z') (x2, y2, z2)
  have hl3 := cmpV_le (x, y, z) (x2, y2, z2)
  have ht := cmpV_trans (x, y, z) (x', y', z') (x2, y2, z2)
  have hC2 := HC.out x' y' z' x y z
  simp only at hz
  generalize cmpV (x', y', z') (x, y, z) = M' at *
  generalize cmpV (x, y, z) (x', y', z') = M at *
  generalize cmpV (x', y', z') (x2, y2, z2) = N at *
  generalize cmpV (x, y, z) (x2, y2, z2) = O at *
  subst ha
  have hD : decide (x = x' ∧ y = y' ∧ z = z') = decide (M = 0) := decide_eq_decide.2 hz.symm
  rw [hD] at q1
  have HL2 := Lib.hid hl2
  have HL3 := Lib.hid hl3
  have HTR := Lib.hid ht
  have HC2 := Lib.hid hC2
  clear hz hD hl2 hl3 ht hC2 HC
  have h3 : M = -1 ∨ M = 0 ∨ M = 1 := by omega
  clear hl1
  rcases h3 with rfl | rfl | rfl
  all_goals
    first | rw [show decide ((-1 : Int) = 0) = false by decide] at q1 | rw [show decide ((0 : Int) = 0) = true by decide] at q1 | rw [show decide ((1 : Int) = 0) = false by decide] at q1
    go_wp2_with fail
    refine (HC2.out _).mono ?_
    rintro e w4 ⟨rfl, hbb⟩
    have HB4 := Lib.hid (HB.out.trans ((HB3.out.trans (hbb.mono HB3.out.size)).mono HB.out.size))
    have hs4 := HS.out w4 (bNext HB3.out hbb)
    obtain ⟨p1, p2, p3, p4, p5, p6, p7, p8, p9, _⟩ := hs4
    clear hbb HB3 HB
    go_wp2_with fail
    all_goals
      go_ret
      refine ⟨ret_bool ?_, HB4.out⟩
      have ht := HTR.out
      have h2 := HL2.out
      have h3 := HL3.out
      clear HS HC2 q1 p1 p2 p3 p4 p5 p6 p7 p8 p9
      first | rfl | (simp only [Bool.or_eq_true, decide_eq_true_eq, beq_iff_eq]; omega)
end Go.Proofs.Ytdmgehfdahjneaa
