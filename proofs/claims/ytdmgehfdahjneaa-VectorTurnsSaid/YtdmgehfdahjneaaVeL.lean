/- The walk of VectorTurns. -/
import Derived.Test.YtdmgehfdahjneaaVeI
import Derived.Test.YtdmgehfdahjneaaVeY
import Derived.Test.YtdmgehfdahjneaaVeZ
namespace Go.Proofs.Ytdmgehfdahjneaa
open Go.RowKit

set_option maxRecDepth 20000 in
set_option maxHeartbeats 8000000 in
theorem vectorTurns_any (a1 a2 b1 b2 c1 c2 : Int) (w : World) : Calls Try.prog 6 #[.agg #[.int .i64 a1, .int .i64 a2], .agg #[.int .i64 b1, .int .i64 b2], .agg #[.int .i64 c1, .int .i64 c2]] w fun e w' => e = .returned (.bool true) ∧ Below w.heap.size w w' := by
  have HT : Hid (∀ x1 x2 y1 y2 z1 z2 W, Calls Try.prog 29 #[.agg #[.int .i64 x1, .int .i64 x2], .agg #[.int .i64 y1, .int .i64 y2], .agg #[.int .i64 z1, .int .i64 z2]] W fun e w' => e = .returned (.tuple #[.int .i64 (turnV (x1, x2) (y1, y2) (z1, z2)), .int .i64 (errOk (ok3 (x1, x2) (y1, y2) (z1, z2)))]) ∧ Below W.heap.size W w') := fun x1 x2 y1 y2 z1 z2 W => turn_all (x1, x2) (y1, y2) (z1, z2) W
  have HO : Hid (∀ x1 x2 y1 y2 z1 z2 W, Calls Try.prog 30 #[.agg #[.int .i64 x1, .int .i64 x2], .agg #[.int .i64 y1, .int .i64 y2], .agg #[.int .i64 z1, .int .i64 z2]] W fun e w' => e = .returned (.tuple #[.bool (decide (meetV (x1, x2) (y1, y2) (z1, z2) (z1, z2) > 0)), .int .i64 (errOk (ok4 (x1, x2) (y1, y2) (z1, z2) (z1, z2)))]) ∧ Below W.heap.size W w') := fun x1 x2 y1 y2 z1 z2 W => on_all (x1, x2) (y1, y2) (z1, z2) W
  have HI : Hid (∀ x1 x2 W, Calls Try.prog 31 #[.agg #[.int .i64 x1, .int .i64 x2]] W fun e w' => e = .returned (.bool (inP (x1, x2))) ∧ Below W.heap.size W w') := fun x1 x2 W => rInP (x1, x2) W
  have HW := Lib.hid (fun W => awake_any W)
  have HMd := Lib.hid (fun t => made3 w (.cells #[.int .i64 a1, .int .i64 a2] t) (.cells #[.int .i64 b1, .int .i64 b2] t) (.cells #[.int .i64 c1, .int .i64 c2] t))
  go_enter Try.func6, Try.ntmps6
  go_wp2_with fail
  refine (HW.out _).mono ?_
  rintro e w1 ⟨rfl, hb⟩
  obtain ⟨m0, m1, m2, m3, m4⟩ := HMd.out 46
  have r0 := (hb.block _ (by rw [m4]; omega)).trans m0
  have r1 := (hb.block _ (by rw [m4]; omega)).trans m1
  have r2 := (hb.block _ (by rw [m4]; omega)).trans m2
  have HB := Lib.hid (m3.trans (hb.mono (by rw [m4]; omega)))
  clear m0 m1 m2 m3 m4 hb HMd HW
  have HS : Hid (∀ w', Below w1.heap.size w1 w' → w'.cell? ⟨w.heap.size, 0, none⟩ = some (.int .i64 a1) ∧ w'.cell? ⟨w.heap.size, 1, none⟩ = some (.int .i64 a2) ∧ w'.cell? ⟨w.heap.size + 1, 0, none⟩ = some (.int .i64 b1) ∧ w'.cell? ⟨w.heap.size + 1, 1, none⟩ = some (.int .i64 b2) ∧ w'.cell? ⟨w.heap.size + 1 + 1, 0, none⟩ = some (.int .i64 c1) ∧ w'.cell? ⟨w.heap.size + 1 + 1, 1, none⟩ = some (.int .i64 c2) ∧ Below w1.heap.size w1 w') := fun w' hB => by
    obtain ⟨a0, b0, _⟩ := own2 ((hB.block _ (Array.getElem?_eq_some_iff.1 r0).1).trans r0)
    obtain ⟨a1, b1, _⟩ := own2 ((hB.block _ (Array.getElem?_eq_some_iff.1 r1).1).trans r1)
    obtain ⟨a2, b2, _⟩ := own2 ((hB.block _ (Array.getElem?_eq_some_iff.1 r2).1).trans r2)
    exact ⟨a0, b0, a1, b1, a2, b2, hB⟩
  clear r0 r1 r2
  have hs0 := HS.out w1 (Below.refl _ _)
  obtain ⟨p0, p1, p2, p3, p4, p5, _⟩ := hs0
  cases ia : inP (a1, a2) with
  | false =>
    have v1 : turnV (a1, a2) (b1, b2) (c1, c2) = 0 := by simp [turnV, ok3, ia]
    have v2 : errOk (ok3 (a1, a2) (b1, b2) (c1, c2)) = 6 := by simp [errOk, ok3, ia]
    have v3 : meetV (a1, a2) (b1, b2) (c1, c2) (c1, c2) = 0 := by simp [meetV, ok4, ia]
    have v4 : errOk (ok4 (a1, a2) (b1, b2) (c1, c2) (c1, c2)) = 6 := by simp [errOk, ok4, ia]
    go_wp2_with (first | (go_at_call 29; refine (HT.out _ _ _ _ _ _ _).mono ?_; rintro e w' ⟨rfl, hbb⟩; have HBn : Hid (Below w1.heap.size w1 w') := (by unfold Hid; refine bNext ?_ hbb; repeat (first | exact Below.refl _ _ | (apply Hid.out; assumption) | refine bAl ?_ | refine Below.drew ?_)); have hpp := HS.out w' HBn.out; obtain ⟨p0, p1, p2, p3, p4, p5, _⟩ := hpp; clear hbb) | (go_at_call 30; refine (HO.out _ _ _ _ _ _ _).mono ?_; rintro e w' ⟨rfl, hbb⟩; have HBn : Hid (Below w1.heap.size w1 w') := (by unfold Hid; refine bNext ?_ hbb; repeat (first | exact Below.refl _ _ | (apply Hid.out; assumption) | refine bAl ?_ | refine Below.drew ?_)); have hpp := HS.out w' HBn.out; obtain ⟨p0, p1, p2, p3, p4, p5, _⟩ := hpp; clear hbb) | (go_at_call 31; refine (HI.out _ _ _).mono ?_; rintro e w' ⟨rfl, hbb⟩; have HBn : Hid (Below w1.heap.size w1 w') := (by unfold Hid; refine bNext ?_ hbb; repeat (first | exact Below.refl _ _ | (apply Hid.out; assumption) | refine bAl ?_ | refine Below.drew ?_)); have hpp := HS.out w' HBn.out; obtain ⟨p0, p1, p2, p3, p4, p5, _⟩ := hpp; clear hbb))
    go_ret
    exact ⟨rfl, HB.out.trans (HBn.out.mono HB.out.size)⟩
  | true =>
  cases ib : inP (b1, b2) with
  | false =>
    have v1 : turnV (a1, a2) (b1, b2) (c1, c2) = 0 := by simp [turnV, ok3, ib]
    have v2 : errOk (ok3 (a1, a2) (b1, b2) (c1, c2)) = 6 := by simp [errOk, ok3, ib]
    have v3 : meetV (a1, a2) (b1, b2) (c1, c2) (c1, c2) = 0 := by simp [meetV, ok4, ib]
    have v4 : errOk (ok4 (a1, a2) (b1, b2) (c1, c2) (c1, c2)) = 6 := by simp [errOk, ok4, ib]
    go_wp2_with (first | (go_at_call 29; refine (HT.out _ _ _ _ _ _ _).mono ?_; rintro e w' ⟨rfl, hbb⟩; have HBn : Hid (Below w1.heap.size w1 w') := (by unfold Hid; refine bNext ?_ hbb; repeat (first | exact Below.refl _ _ | (apply Hid.out; assumption) | refine bAl ?_ | refine Below.drew ?_)); have hpp := HS.out w' HBn.out; obtain ⟨p0, p1, p2, p3, p4, p5, _⟩ := hpp; clear hbb) | (go_at_call 30; refine (HO.out _ _ _ _ _ _ _).mono ?_; rintro e w' ⟨rfl, hbb⟩; have HBn : Hid (Below w1.heap.size w1 w') := (by unfold Hid; refine bNext ?_ hbb; repeat (first | exact Below.refl _ _ | (apply Hid.out; assumption) | refine bAl ?_ | refine Below.drew ?_)); have hpp := HS.out w' HBn.out; obtain ⟨p0, p1, p2, p3, p4, p5, _⟩ := hpp; clear hbb) | (go_at_call 31; refine (HI.out _ _ _).mono ?_; rintro e w' ⟨rfl, hbb⟩; have HBn : Hid (Below w1.heap.size w1 w') := (by unfold Hid; refine bNext ?_ hbb; repeat (first | exact Below.refl _ _ | (apply Hid.out; assumption) | refine bAl ?_ | refine Below.drew ?_)); have hpp := HS.out w' HBn.out; obtain ⟨p0, p1, p2, p3, p4, p5, _⟩ := hpp; clear hbb))
    go_ret
    exact ⟨rfl, HB.out.trans (HBn.out.mono HB.out.size)⟩
  | true =>
  cases ic : inP (c1, c2) with
  | false =>
    have v1 : turnV (a1, a2) (b1, b2) (c1, c2) = 0 := by simp [turnV, ok3, ic]
    have v2 : errOk (ok3 (a1, a2) (b1, b2) (c1, c2)) = 6 := by simp [errOk, ok3, ic]
    have v3 : meetV (a1, a2) (b1, b2) (c1, c2) (c1, c2) = 0 := by simp [meetV, ok4, ic]
    have v4 : errOk (ok4 (a1, a2) (b1, b2) (c1, c2) (c1, c2)) = 6 := by simp [errOk, ok4, ic]
    go_wp2_with (first | (go_at_call 29; refine (HT.out _ _ _ _ _ _ _).mono ?_; rintro e w' ⟨rfl, hbb⟩; have HBn : Hid (Below w1.heap.size w1 w') := (by unfold Hid; refine bNext ?_ hbb; repeat (first | exact Below.refl _ _ | (apply Hid.out; assumption) | refine bAl ?_ | refine Below.drew ?_)); have hpp := HS.out w' HBn.out; obtain ⟨p0, p1, p2, p3, p4, p5, _⟩ := hpp; clear hbb) | (go_at_call 30; refine (HO.out _ _ _ _ _ _ _).mono ?_; rintro e w' ⟨rfl, hbb⟩; have HBn : Hid (Below w1.heap.size w1 w') := (by unfold Hid; refine bNext ?_ hbb; repeat (first | exact Below.refl _ _ | (apply Hid.out; assumption) | refine bAl ?_ | refine Below.drew ?_)); have hpp := HS.out w' HBn.out; obtain ⟨p0, p1, p2, p3, p4, p5, _⟩ := hpp; clear hbb) | (go_at_call 31; refine (HI.out _ _ _).mono ?_; rintro e w' ⟨rfl, hbb⟩; have HBn : Hid (Below w1.heap.size w1 w') := (by unfold Hid; refine bNext ?_ hbb; repeat (first | exact Below.refl _ _ | (apply Hid.out; assumption) | refine bAl ?_ | refine Below.drew ?_)); have hpp := HS.out w' HBn.out; obtain ⟨p0, p1, p2, p3, p4, p5, _⟩ := hpp; clear hbb))
    go_ret
    exact ⟨rfl, HB.out.trans (HBn.out.mono HB.out.size)⟩
  | true =>
    have v1 : turnV (a1, a2) (b1, b2) (c1, c2) = trn (a1, a2) (b1, b2) (c1, c2) := by simp [turnV, ok3, ia, ib, ic]
    have v2 : errOk (ok3 (a1, a2) (b1, b2) (c1, c2)) = 0 := by simp [errOk, ok3, ia, ib, ic]
    have v3 : decide (0 < meetV (a1, a2) (b1, b2) (c1, c2) (c1, c2)) = onR (a1, a2) (b1, b2) (c1, c2) := by
      rw [← on_eq ((inP_iff _).1 ia) ((inP_iff _).1 ib) ((inP_iff _).1 ic)]; simp [meetV, ok4, ia, ib, ic]
    have v4 : errOk (ok4 (a1, a2) (b1, b2) (c1, c2) (c1, c2)) = 0 := by simp [errOk, ok4, ia, ib, ic]
    have HRT := Lib.hid (fun W => rTurn (a1, a2) (b1, b2) (c1, c2) ((inP_iff _).1 ia) ((inP_iff _).1 ib) ((inP_iff _).1 ic) W)
    have HRO := Lib.hid (fun W => rOn (a1, a2) (b1, b2) (c1, c2) ((inP_iff _).1 ia) ((inP_iff _).1 ib) ((inP_iff _).1 ic) W)
    have v5 : (meetV (a1, a2) (b1, b2) (c1, c2) (c1, c2) > 0) = (onR (a1, a2) (b1, b2) (c1, c2) = true) := by
      rw [← v3]; simp
    cases hr : onR (a1, a2) (b1, b2) (c1, c2)
    all_goals
      rw [hr] at v3 v5 HRO
      go_wp2_with (first | (go_at_call 29; refine (HT.out _ _ _ _ _ _ _).mono ?_; rintro e w' ⟨rfl, hbb⟩; have HBn : Hid (Below w1.heap.size w1 w') := (by unfold Hid; refine bNext ?_ hbb; repeat (first | exact Below.refl _ _ | (apply Hid.out; assumption) | refine bAl ?_ | refine Below.drew ?_)); have hpp := HS.out w' HBn.out; obtain ⟨p0, p1, p2, p3, p4, p5, _⟩ := hpp; clear hbb) | (go_at_call 30; refine (HO.out _ _ _ _ _ _ _).mono ?_; rintro e w' ⟨rfl, hbb⟩; have HBn : Hid (Below w1.heap.size w1 w') := (by unfold Hid; refine bNext ?_ hbb; repeat (first | exact Below.refl _ _ | (apply Hid.out; assumption) | refine bAl ?_ | refine Below.drew ?_)); have hpp := HS.out w' HBn.out; obtain ⟨p0, p1, p2, p3, p4, p5, _⟩ := hpp; clear hbb) | (go_at_call 31; refine (HI.out _ _ _).mono ?_; rintro e w' ⟨rfl, hbb⟩; have HBn : Hid (Below w1.heap.size w1 w') := (by unfold Hid; refine bNext ?_ hbb; repeat (first | exact Below.refl _ _ | (apply Hid.out; assumption) | refine bAl ?_ | refine Below.drew ?_)); have hpp := HS.out w' HBn.out; obtain ⟨p0, p1, p2, p3, p4, p5, _⟩ := hpp; clear hbb) | (go_at_call 32; refine (HRT.out _).mono ?_; rintro e w' ⟨rfl, hbb⟩; have HBn : Hid (Below w1.heap.size w1 w') := (by unfold Hid; refine bNext ?_ hbb; repeat (first | exact Below.refl _ _ | (apply Hid.out; assumption) | refine bAl ?_ | refine Below.drew ?_)); have hpp := HS.out w' HBn.out; obtain ⟨p0, p1, p2, p3, p4, p5, _⟩ := hpp; clear hbb) | (go_at_call 33; refine (HRO.out _).mono ?_; rintro e w' ⟨rfl, hbb⟩; have HBn : Hid (Below w1.heap.size w1 w') := (by unfold Hid; refine bNext ?_ hbb; repeat (first | exact Below.refl _ _ | (apply Hid.out; assumption) | refine bAl ?_ | refine Below.drew ?_)); have hpp := HS.out w' HBn.out; obtain ⟨p0, p1, p2, p3, p4, p5, _⟩ := hpp; clear hbb))
      go_ret
      exact ⟨rfl, HB.out.trans (HBn.out.mono HB.out.size)⟩
end Go.Proofs.Ytdmgehfdahjneaa
