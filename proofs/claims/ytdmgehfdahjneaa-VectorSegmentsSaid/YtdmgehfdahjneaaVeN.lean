/- The walk of VectorSegments. -/
import Derived.Test.YtdmgehfdahjneaaVeI
import Derived.Test.YtdmgehfdahjneaaVeY
namespace Go.Proofs.Ytdmgehfdahjneaa
open Go.RowKit

theorem ok3_swap (a b c : Pt) : ok3 a c b = ok3 a b c := by unfold ok3; cases inP a <;> cases inP b <;> cases inP c <;> rfl
theorem ok3_turn (a b c : Pt) : ok3 b c a = ok3 a b c := by unfold ok3; cases inP a <;> cases inP b <;> cases inP c <;> rfl
theorem ok4_swap (a b c d : Pt) : ok4 d c a b = ok4 a b c d := by unfold ok4; cases inP a <;> cases inP b <;> cases inP c <;> cases inP d <;> rfl
theorem ok4_both (a b c d : Pt) : ok4 b a d c = ok4 a b c d := by unfold ok4; cases inP a <;> cases inP b <;> cases inP c <;> cases inP d <;> rfl
theorem ok4_in {a b c d : Pt} (h : ok4 a b c d = true) : InP a ∧ InP b ∧ InP c ∧ InP d := by
  simp only [ok4, Bool.and_eq_true, inP_iff] at h
  exact ⟨h.1.1.1, h.1.1.2, h.1.2, h.2⟩
theorem turnV_swap (a b c : Pt) : turnV a c b = -turnV a b c := by unfold turnV; rw [ok3_swap, trn_swap]; split <;> omega
theorem turnV_turn (a b c : Pt) : turnV b c a = turnV a b c := by unfold turnV; rw [ok3_turn, trn_turn]
theorem turnV_le (a b c : Pt) : -1 ≤ turnV a b c ∧ turnV a b c ≤ 1 := by
  have := trn_le a b c
  unfold turnV
  split <;> omega
theorem meetV_one (a b c : Pt) : meetV a b c c = 0 ∨ meetV a b c c = 1 := by
  unfold meetV
  split
  · next h => obtain ⟨h1, h2, h3, _⟩ := ok4_in h; exact meetP_one h1 h2 h3
  · exact Or.inl rfl
theorem meetV_swap (a b c d : Pt) : meetV d c a b = meetV a b c d := by
  unfold meetV
  rw [ok4_swap]
  split
  · next h => obtain ⟨h1, h2, h3, h4⟩ := ok4_in h; exact meetP_swap h1 h2 h3 h4
  · rfl
theorem meetV_both (a b c d : Pt) : meetV b a d c = meetV a b c d := by
  unfold meetV
  rw [ok4_both]
  split
  · next h => obtain ⟨h1, h2, h3, h4⟩ := ok4_in h; exact meetP_both h1 h2 h3 h4
  · rfl
theorem meetV_self (a b : Pt) : (errOk (ok4 a b a b) = 6) ∨ (errOk (ok4 a b a b) = 0 ∧ meetV a b a b = if a = b then 1 else 2) := by
  unfold meetV
  cases h : ok4 a b a b with
  | false => exact Or.inl rfl
  | true =>
    obtain ⟨h1, h2, _, _⟩ := ok4_in h
    exact Or.inr ⟨rfl, by rw [if_pos rfl]; exact meetP_self h1 h2⟩

set_option maxRecDepth 20000 in
set_option maxHeartbeats 8000000 in
theorem vectorSegments_any (a1 a2 b1 b2 c1 c2 d1 d2 : Int) (w : World) : Calls Try.prog 11 #[.agg #[.int .i64 a1, .int .i64 a2], .agg #[.int .i64 b1, .int .i64 b2], .agg #[.int .i64 c1, .int .i64 c2], .agg #[.int .i64 d1, .int .i64 d2]] w fun e w' => e = .returned (.bool true) ∧ Below w.heap.size w w' := by
  have HT : Hid (∀ x1 x2 y1 y2 z1 z2 W, Calls Try.prog 29 #[.agg #[.int .i64 x1, .int .i64 x2], .agg #[.int .i64 y1, .int .i64 y2], .agg #[.int .i64 z1, .int .i64 z2]] W fun e w' => e = .returned (.tuple #[.int .i64 (turnV (x1, x2) (y1, y2) (z1, z2)), .int .i64 (errOk (ok3 (x1, x2) (y1, y2) (z1, z2)))]) ∧ Below W.heap.size W w') := fun x1 x2 y1 y2 z1 z2 W => turn_all (x1, x2) (y1, y2) (z1, z2) W
  have HO : Hid (∀ x1 x2 y1 y2 z1 z2 W, Calls Try.prog 30 #[.agg #[.int .i64 x1, .int .i64 x2], .agg #[.int .i64 y1, .int .i64 y2], .agg #[.int .i64 z1, .int .i64 z2]] W fun e w' => e = .returned (.tuple #[.bool (decide (meetV (x1, x2) (y1, y2) (z1, z2) (z1, z2) > 0)), .int .i64 (errOk (ok4 (x1, x2) (y1, y2) (z1, z2) (z1, z2)))]) ∧ Below W.heap.size W w') := fun x1 x2 y1 y2 z1 z2 W => on_all (x1, x2) (y1, y2) (z1, z2) W
  have HME : Hid (∀ x1 x2 y1 y2 z1 z2 u1 u2 W, Calls Try.prog 34 #[.agg #[.int .i64 x1, .int .i64 x2], .agg #[.int .i64 y1, .int .i64 y2], .agg #[.int .i64 z1, .int .i64 z2], .agg #[.int .i64 u1, .int .i64 u2]] W fun e w' => e = .returned (.tuple #[.int .i64 (meetV (x1, x2) (y1, y2) (z1, z2) (u1, u2)), .int .i64 (errOk (ok4 (x1, x2) (y1, y2) (z1, z2) (u1, u2)))]) ∧ Below W.heap.size W w') := fun x1 x2 y1 y2 z1 z2 u1 u2 W => meet_all (x1, x2) (y1, y2) (z1, z2) (u1, u2) W
  have HW := Lib.hid (fun W => awake_any W)
  have HMd := Lib.hid (fun t => made4 w (.cells #[.int .i64 a1, .int .i64 a2] t) (.cells #[.int .i64 b1, .int .i64 b2] t) (.cells #[.int .i64 c1, .int .i64 c2] t) (.cells #[.int .i64 d1, .int .i64 d2] t))
  go_enter Try.func11, Try.ntmps11
  go_wp2_with fail
  refine (HW.out _).mono ?_
  rintro e w1 ⟨rfl, hb⟩
  obtain ⟨m0, m1, m2, m3, m4, m5⟩ := HMd.out 46
  have r0 := (hb.block _ (by rw [m5]; omega)).trans m0
  have r1 := (hb.block _ (by rw [m5]; omega)).trans m1
  have r2 := (hb.block _ (by rw [m5]; omega)).trans m2
  have r3 := (hb.block _ (by rw [m5]; omega)).trans m3
  have HB := Lib.hid (m4.trans (hb.mono (by rw [m5]; omega)))
  clear m0 m1 m2 m3 m4 m5 hb HMd HW
  have HS : Hid (∀ w', Below w1.heap.size w1 w' → w'.cell? ⟨w.heap.size, 0, none⟩ = some (.int .i64 a1) ∧ w'.cell? ⟨w.heap.size, 1, none⟩ = some (.int .i64 a2) ∧ w'.cell? ⟨w.heap.size + 1, 0, none⟩ = some (.int .i64 b1) ∧ w'.cell? ⟨w.heap.size + 1, 1, none⟩ = some (.int .i64 b2) ∧ w'.cell? ⟨w.heap.size + 1 + 1, 0, none⟩ = some (.int .i64 c1) ∧ w'.cell? ⟨w.heap.size + 1 + 1, 1, none⟩ = some (.int .i64 c2) ∧ w'.cell? ⟨w.heap.size + 1 + 1 + 1, 0, none⟩ = some (.int .i64 d1) ∧ w'.cell? ⟨w.heap.size + 1 + 1 + 1, 1, none⟩ = some (.int .i64 d2) ∧ Below w1.heap.size w1 w') := fun w' hB => by
    obtain ⟨a0, b0, _⟩ := own2 ((hB.block _ (Array.getElem?_eq_some_iff.1 r0).1).trans r0)
    obtain ⟨a1, b1, _⟩ := own2 ((hB.block _ (Array.getElem?_eq_some_iff.1 r1).1).trans r1)
    obtain ⟨a2, b2, _⟩ := own2 ((hB.block _ (Array.getElem?_eq_some_iff.1 r2).1).trans r2)
    obtain ⟨a3, b3, _⟩ := own2 ((hB.block _ (Array.getElem?_eq_some_iff.1 r3).1).trans r3)
    exact ⟨a0, b0, a1, b1, a2, b2, a3, b3, hB⟩
  clear r0 r1 r2 r3
  have hs0 := HS.out w1 (Below.refl _ _)
  obtain ⟨p0, p1, p2, p3, p4, p5, p6, p7, _⟩ := hs0
  have f1 := turnV_swap (a1, a2) (b1, b2) (c1, c2)
  have f2 := turnV_turn (a1, a2) (b1, b2) (c1, c2)
  have f3 := turnV_le (a1, a2) (b1, b2) (c1, c2)
  have g1 := ok3_swap (a1, a2) (b1, b2) (c1, c2)
  have g2 := ok3_turn (a1, a2) (b1, b2) (c1, c2)
  have f4 : wrap64 (turnV (a1, a2) (b1, b2) (c1, c2)) = turnV (a1, a2) (b1, b2) (c1, c2) := IntWalk.wrap64_in _ (by omega)
  have f5 := meetV_one (a1, a2) (b1, b2) (c1, c2)
  have f6 := meetV_swap (a1, a2) (b1, b2) (c1, c2) (d1, d2)
  have f7 := meetV_both (a1, a2) (b1, b2) (c1, c2) (d1, d2)
  have g3 := ok4_swap (a1, a2) (b1, b2) (c1, c2) (d1, d2)
  have g4 := ok4_both (a1, a2) (b1, b2) (c1, c2) (d1, d2)
  have f8 := meetV_self (a1, a2) (b1, b2)
  have q1 := fun W => eqlPt a1 a2 b1 b2 W
  have q2 := fun W => neqPt a1 a2 b1 b2 W
  clear f3
  have h8 : (errOk (ok4 (a1, a2) (b1, b2) (a1, a2) (b1, b2)) = 6) ∨ (errOk (ok4 (a1, a2) (b1, b2) (a1, a2) (b1, b2)) = 0 ∧ meetV (a1, a2) (b1, b2) (a1, a2) (b1, b2) = 1 ∧ decide (a1 = b1 ∧ a2 = b2) = true) ∨ (errOk (ok4 (a1, a2) (b1, b2) (a1, a2) (b1, b2)) = 0 ∧ meetV (a1, a2) (b1, b2) (a1, a2) (b1, b2) = 2 ∧ decide (a1 = b1 ∧ a2 = b2) = false) := by
    rcases f8 with h | ⟨h, h'⟩
    · exact Or.inl h
    · by_cases hab : a1 = b1 ∧ a2 = b2
      · refine Or.inr (Or.inl ⟨h, ?_, decide_eq_true hab⟩)
        rw [h', if_pos (by rw [hab.1, hab.2])]
      · refine Or.inr (Or.inr ⟨h, ?_, decide_eq_false hab⟩)
        rw [h', if_neg (fun he => hab (by simpa using he))]
  clear f8
  rcases h8 with u1 | ⟨u1, u2, u3⟩ | ⟨u1, u2, u3⟩
  all_goals
    try rw [u3] at q1 q2
    try clear u3
    rcases f5 with f5 | f5
  all_goals
    go_wp2_with (first | (go_at_call 29; refine (HT.out _ _ _ _ _ _ _).mono ?_; rintro e w' ⟨rfl, hbb⟩; have HBn : Hid (Below w1.heap.size w1 w') := (by unfold Hid; refine bNext ?_ hbb; repeat (first | exact Below.refl _ _ | (apply Hid.out; assumption) | refine bAl ?_ | refine Below.drew ?_)); have hpp := HS.out w' HBn.out; obtain ⟨p0, p1, p2, p3, p4, p5, p6, p7, _⟩ := hpp; clear hbb) | (go_at_call 30; refine (HO.out _ _ _ _ _ _ _).mono ?_; rintro e w' ⟨rfl, hbb⟩; have HBn : Hid (Below w1.heap.size w1 w') := (by unfold Hid; refine bNext ?_ hbb; repeat (first | exact Below.refl _ _ | (apply Hid.out; assumption) | refine bAl ?_ | refine Below.drew ?_)); have hpp := HS.out w' HBn.out; obtain ⟨p0, p1, p2, p3, p4, p5, p6, p7, _⟩ := hpp; clear hbb) | (go_at_call 34; refine (HME.out _ _ _ _ _ _ _ _ _).mono ?_; rintro e w' ⟨rfl, hbb⟩; have HBn : Hid (Below w1.heap.size w1 w') := (by unfold Hid; refine bNext ?_ hbb; repeat (first | exact Below.refl _ _ | (apply Hid.out; assumption) | refine bAl ?_ | refine Below.drew ?_)); have hpp := HS.out w' HBn.out; obtain ⟨p0, p1, p2, p3, p4, p5, p6, p7, _⟩ := hpp; clear hbb))
  all_goals
    go_ret
    exact ⟨rfl, HB.out.trans (HBn.out.mono HB.out.size)⟩
end Go.Proofs.Ytdmgehfdahjneaa
