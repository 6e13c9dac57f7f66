/- The walk of PolygonOrients. -/
import Derived.Test.YtigjjmhekadniaaPoA
import Derived.Test.YtigjjmhekadniaaPoB
namespace Go.Proofs.Ytigjjmhekadniaa
open Go.RowKit

set_option maxRecDepth 20000 in
set_option maxHeartbeats 8000000 in
theorem polygonOrients_any (a1 a2 b1 b2 c1 c2 : Int) (w : World) : Calls Try.prog 4 #[.agg #[.int .i64 a1, .int .i64 a2], .agg #[.int .i64 b1, .int .i64 b2], .agg #[.int .i64 c1, .int .i64 c2]] w fun e w' => e = .returned (.bool true) ∧ Below w.heap.size w w' := by
  have HI : Hid (∀ x1 x2 W, Calls Try.prog 22 #[.agg #[.int .i64 x1, .int .i64 x2]] W fun e w' => e = .returned (.bool (inP (x1, x2))) ∧ Below W.heap.size W w') := fun x1 x2 W => rAllowed (x1, x2) W
  have HW := Lib.hid (fun W => awake_any W)
  have HMd := Lib.hid (fun t => made3 w (.cells #[.int .i64 a1, .int .i64 a2] t) (.cells #[.int .i64 b1, .int .i64 b2] t) (.cells #[.int .i64 c1, .int .i64 c2] t))
  go_enter Try.func4, Try.ntmps4
  go_wp2_with fail
  refine (HW.out _).mono ?_
  rintro e w1 ⟨rfl, hb⟩
  obtain ⟨m0, m1, m2, m3, m4⟩ := HMd.out 31
  have r0 := (hb.block _ (by rw [m4]; omega)).trans m0
  have r1 := (hb.block _ (by rw [m4]; omega)).trans m1
  have r2 := (hb.block _ (by rw [m4]; omega)).trans m2
  have HB := Lib.hid (m3.trans (hb.mono (by rw [m4]; omega)))
  clear m0 m1 m2 m3 m4 hb HMd HW
  have HS : Hid (∀ w', Below w1.heap.size w1 w' → w'.cell? ⟨w.heap.size, 0, none⟩ = some (.int .i64 a1) ∧ w'.cell? ⟨w.heap.size, 1, none⟩ = some (.int .i64 a2) ∧ w'.cell? ⟨w.heap.size + 1, 0, none⟩ = some (.int .i64 b1) ∧ w'.cell? ⟨w.heap.size + 1, 1, none⟩ = some (.int .i64 b2) ∧ w'.cell? ⟨w.heap.size + 1 + 1, 0, none⟩ = some (.int .i64 c1) ∧ w'.cell? ⟨w.heap.size + 1 + 1, 1, none⟩ = some (.int .i64 c2) ∧ Below w1.heap.size w1 w') := fun w' hB => by
    obtain ⟨a0, b0, _⟩ := own2 ((hB.block _ (Array.getElem?_eq_some_iff.1 r0).1).trans r0)
    obtain ⟨a1, b1, _⟩ := own2 ((hB.block _ (Array.getElem?_eq_some_iff.1 r1).1).trans r1)
    obtain ⟨a2, b2, _⟩ := own2 ((hB.block _ (Array.getElem?_eq_some_iff.1 r2).1).trans r2)
    exact ⟨a0, b0, a1, b1, a2, b2, hB⟩
  clear r0 r1 r2
  have hs0 := HS.out w1 (Below.refl _ _)
  obtain ⟨p0, p1, p2, p3, p4, p5, _⟩ := hs0
  cases ia : inP (a1, a2) with
  | false =>
    go_wp2_with (first | (go_at_call 22; refine (HI.out _ _ _).mono ?_; rintro e w' ⟨rfl, hbb⟩; have HBn : Hid (Below w1.heap.size w1 w') := (by unfold Hid; refine bNext ?_ hbb; repeat (first | exact Below.refl _ _ | (apply Hid.out; assumption) | refine bAl ?_ | refine Below.drew ?_)); have hpp := HS.out w' HBn.out; obtain ⟨p0, p1, p2, p3, p4, p5, _⟩ := hpp; clear hbb))
    go_ret
    exact ⟨rfl, HB.out.trans (HBn.out.mono HB.out.size)⟩
  | true =>
  cases ib : inP (b1, b2) with
  | false =>
    go_wp2_with (first | (go_at_call 22; refine (HI.out _ _ _).mono ?_; rintro e w' ⟨rfl, hbb⟩; have HBn : Hid (Below w1.heap.size w1 w') := (by unfold Hid; refine bNext ?_ hbb; repeat (first | exact Below.refl _ _ | (apply Hid.out; assumption) | refine bAl ?_ | refine Below.drew ?_)); have hpp := HS.out w' HBn.out; obtain ⟨p0, p1, p2, p3, p4, p5, _⟩ := hpp; clear hbb))
    go_ret
    exact ⟨rfl, HB.out.trans (HBn.out.mono HB.out.size)⟩
  | true =>
  cases ic : inP (c1, c2) with
  | false =>
    go_wp2_with (first | (go_at_call 22; refine (HI.out _ _ _).mono ?_; rintro e w' ⟨rfl, hbb⟩; have HBn : Hid (Below w1.heap.size w1 w') := (by unfold Hid; refine bNext ?_ hbb; repeat (first | exact Below.refl _ _ | (apply Hid.out; assumption) | refine bAl ?_ | refine Below.drew ?_)); have hpp := HS.out w' HBn.out; obtain ⟨p0, p1, p2, p3, p4, p5, _⟩ := hpp; clear hbb))
    go_ret
    exact ⟨rfl, HB.out.trans (HBn.out.mono HB.out.size)⟩
  | true =>
    have HO : Hid (∀ x1 x2 y1 y2 z1 z2 W, inP (x1, x2) = true → inP (y1, y2) = true → inP (z1, z2) = true → Calls Try.prog 23 #[.agg #[.int .i64 x1, .int .i64 x2], .agg #[.int .i64 y1, .int .i64 y2], .agg #[.int .i64 z1, .int .i64 z2]] W fun e w' => e = .returned (.int .i64 (trn (x1, x2) (y1, y2) (z1, z2))) ∧ Below W.heap.size W w') := fun x1 x2 y1 y2 z1 z2 W h1 h2 h3 => orient_ok (x1, x2) (y1, y2) (z1, z2) h1 h2 h3 W
    have HR := Lib.hid (fun W => rOrient (a1, a2) (b1, b2) (c1, c2) ((inP_iff _).1 ia) ((inP_iff _).1 ib) ((inP_iff _).1 ic) W)
    have e2 := trn_swap12 (a1, a2) (b1, b2) (c1, c2)
    have e3 := trn_turn (a1, a2) (b1, b2) (c1, c2)
    obtain ⟨t1, t2⟩ := trn_le (a1, a2) (b1, b2) (c1, c2)
    have hn : trn (a1, a2) (b1, b2) (c1, c2) = -1 ∨ trn (a1, a2) (b1, b2) (c1, c2) = 0 ∨ trn (a1, a2) (b1, b2) (c1, c2) = 1 := by omega
    clear t1 t2
    rcases hn with e1 | e1 | e1
    all_goals
      rw [e1] at e2 e3 HR
      try simp only [Int.neg_neg, Int.neg_zero, Int.reduceNeg] at e2
      go_wp2_with (first | (go_at_call 22; refine (HI.out _ _ _).mono ?_; rintro e w' ⟨rfl, hbb⟩; have HBn : Hid (Below w1.heap.size w1 w') := (by unfold Hid; refine bNext ?_ hbb; repeat (first | exact Below.refl _ _ | (apply Hid.out; assumption) | refine bAl ?_ | refine Below.drew ?_)); have hpp := HS.out w' HBn.out; obtain ⟨p0, p1, p2, p3, p4, p5, _⟩ := hpp; clear hbb) | (go_at_call 23; refine (HO.out _ _ _ _ _ _ _ (by assumption) (by assumption) (by assumption)).mono ?_; rintro e w' ⟨rfl, hbb⟩; have HBn : Hid (Below w1.heap.size w1 w') := (by unfold Hid; refine bNext ?_ hbb; repeat (first | exact Below.refl _ _ | (apply Hid.out; assumption) | refine bAl ?_ | refine Below.drew ?_)); have hpp := HS.out w' HBn.out; obtain ⟨p0, p1, p2, p3, p4, p5, _⟩ := hpp; clear hbb) | (go_at_call 24; refine (HR.out _).mono ?_; rintro e w' ⟨rfl, hbb⟩; have HBn : Hid (Below w1.heap.size w1 w') := (by unfold Hid; refine bNext ?_ hbb; repeat (first | exact Below.refl _ _ | (apply Hid.out; assumption) | refine bAl ?_ | refine Below.drew ?_)); have hpp := HS.out w' HBn.out; obtain ⟨p0, p1, p2, p3, p4, p5, _⟩ := hpp; clear hbb))
      go_ret
      exact ⟨rfl, HB.out.trans (HBn.out.mono HB.out.size)⟩
end Go.Proofs.Ytigjjmhekadniaa
