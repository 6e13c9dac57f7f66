/- The walk of VectorProducts. -/
import Derived.Test.YtdmgehfdahjneaaVeI
import Derived.Test.YtdmgehfdahjneaaVeY
import Derived.Test.YtdmgehfdahjneaaVeZ
import Derived.Deep.RegionHeld3
namespace Go.Proofs.Ytdmgehfdahjneaa
open Go.RowKit

set_option maxRecDepth 20000 in
set_option maxHeartbeats 8000000 in
theorem vectorProducts_any (a1 a2 a3 b1 b2 b3 : Int) (w : World) : Calls Try.prog 4 #[.agg #[.int .i64 a1, .int .i64 a2, .int .i64 a3], .agg #[.int .i64 b1, .int .i64 b2, .int .i64 b3]] w fun e w' => e = .returned (.bool true) ∧ Below w.heap.size w w' := by
  have HDt := Lib.hid (fun W => dotP_any (a1, a2, a3) (b1, b2, b3) W)
  have HCr := Lib.hid (fun W => cross_all (a1, a2, a3) (b1, b2, b3) W)
  have HDs := Lib.hid (fun W => distP_any (a1, a2, a3) (b1, b2, b3) W)
  have HIa := Lib.hid (fun W => rIn (a1, a2, a3) W)
  have HIb := Lib.hid (fun W => rIn (b1, b2, b3) W)
  have HW := Lib.hid (fun W => awake_any W)
  have HMd := Lib.hid (fun t => made2 w (.cells #[.int .i64 a1, .int .i64 a2, .int .i64 a3] t) (.cells #[.int .i64 b1, .int .i64 b2, .int .i64 b3] t))
  go_enter Try.func4, Try.ntmps4
  go_wp2_with fail
  refine (HW.out _).mono ?_
  rintro e w1 ⟨rfl, hb⟩
  obtain ⟨m0, m1, m2, m3⟩ := HMd.out 23
  have Ra := Lib.hid ((hb.block _ (by rw [m3]; omega)).trans m0)
  have Rb := Lib.hid ((hb.block _ (by rw [m3]; omega)).trans m1)
  have HB := Lib.hid (m2.trans (hb.mono (by rw [m3]; omega)))
  clear m0 m1 m2 m3 hb HMd HW
  obtain ⟨kax, kay, kaz, _, _, _⟩ := own3 Ra.out
  have kal := (Array.getElem?_eq_some_iff.1 Ra.out).1
  obtain ⟨kbx, kby, kbz, _, _, _⟩ := own3 Rb.out
  have kbl := (Array.getElem?_eq_some_iff.1 Rb.out).1
  cases hva : inV (a1, a2, a3) with
  | false =>
    rw [show okV (a1, a2, a3) (b1, b2, b3) = false by simp [okV, hva], if_neg (by simp), show errOk false = 6 from rfl] at HDt HDs
    rw [show crossW (a1, a2, a3) (b1, b2, b3) = (0, 0, 0) by simp [crossW, okV, hva], show okV (a1, a2, a3) (b1, b2, b3) = false by simp [okV, hva], show errOk false = 6 from rfl] at HCr
    have qz := fun W => eqlA3 0 0 0 0 0 0 W
    rw [show decide ((0 : Int) = 0 ∧ (0 : Int) = 0 ∧ (0 : Int) = 0) = true by decide] at qz
    rw [hva] at HIa
    clear hva
    go_wp2_with fail
    refine (HDt.out _).mono ?_
    rintro e v1 ⟨rfl, hb1⟩
    clear kax kay kaz kal kbx kby kbz kbl
    have Ra := Lib.hid ((hb1.block _ (Array.getElem?_eq_some_iff.1 Ra.out).1).trans Ra.out)
    have Rb := Lib.hid ((hb1.block _ (Array.getElem?_eq_some_iff.1 Rb.out).1).trans Rb.out)
    have HB := Lib.hid (HB.out.trans (hb1.mono HB.out.size))
    clear hb1
    obtain ⟨kax, kay, kaz, _, _, _⟩ := own3 Ra.out
    have kal := (Array.getElem?_eq_some_iff.1 Ra.out).1
    obtain ⟨kbx, kby, kbz, _, _, _⟩ := own3 Rb.out
    have kbl := (Array.getElem?_eq_some_iff.1 Rb.out).1
    go_wp2_with fail
    refine (HCr.out _).mono ?_
    rintro e v2 ⟨rfl, hb2⟩
    clear kax kay kaz kal kbx kby kbz kbl
    have Ra := Lib.hid ((hb2.block _ (Array.getElem?_eq_some_iff.1 Ra.out).1).trans Ra.out)
    have Rb := Lib.hid ((hb2.block _ (Array.getElem?_eq_some_iff.1 Rb.out).1).trans Rb.out)
    have HB := Lib.hid (HB.out.trans (hb2.mono HB.out.size))
    clear hb2
    obtain ⟨kax, kay, kaz, _, _, _⟩ := own3 Ra.out
    have kal := (Array.getElem?_eq_some_iff.1 Ra.out).1
    obtain ⟨kbx, kby, kbz, _, _, _⟩ := own3 Rb.out
    have kbl := (Array.getElem?_eq_some_iff.1 Rb.out).1
    go_wp2_with fail
    refine (HDs.out _).mono ?_
    rintro e v3 ⟨rfl, hb3⟩
    clear kax kay kaz kal kbx kby kbz kbl
    have Ra := Lib.hid ((hb3.block _ (Array.getElem?_eq_some_iff.1 (hOld v2 (.cells #[.int .i64 (0), .int .i64 (0), .int .i64 (0)] 36) _ _ (Array.getElem?_eq_some_iff.1 Ra.out).1 Ra.out)).1).trans (hOld v2 (.cells #[.int .i64 (0), .int .i64 (0), .int .i64 (0)] 36) _ _ (Array.getElem?_eq_some_iff.1 Ra.out).1 Ra.out))
    have Rb := Lib.hid ((hb3.block _ (Array.getElem?_eq_some_iff.1 (hOld v2 (.cells #[.int .i64 (0), .int .i64 (0), .int .i64 (0)] 36) _ _ (Array.getElem?_eq_some_iff.1 Rb.out).1 Rb.out)).1).trans (hOld v2 (.cells #[.int .i64 (0), .int .i64 (0), .int .i64 (0)] 36) _ _ (Array.getElem?_eq_some_iff.1 Rb.out).1 Rb.out))
    have Rc := Lib.hid ((hb3.block _ (Array.getElem?_eq_some_iff.1 (hNew v2 (.cells #[.int .i64 (0), .int .i64 (0), .int .i64 (0)] 36) v2.heap.size rfl)).1).trans (hNew v2 (.cells #[.int .i64 (0), .int .i64 (0), .int .i64 (0)] 36) v2.heap.size rfl))
    have HB := Lib.hid ((HB.out.alloc HB.out.size (.cells #[.int .i64 (0), .int .i64 (0), .int .i64 (0)] 36)).trans (hb3.mono (HB.out.alloc HB.out.size (.cells #[.int .i64 (0), .int .i64 (0), .int .i64 (0)] 36)).size))
    generalize v2.heap.size = gc at Rc ⊢
    clear hb3
    obtain ⟨kax, kay, kaz, _, _, _⟩ := own3 Ra.out
    have kal := (Array.getElem?_eq_some_iff.1 Ra.out).1
    obtain ⟨kbx, kby, kbz, _, _, _⟩ := own3 Rb.out
    have kbl := (Array.getElem?_eq_some_iff.1 Rb.out).1
    obtain ⟨kcx, kcy, kcz, _, _, _⟩ := own3 Rc.out
    have kcl := (Array.getElem?_eq_some_iff.1 Rc.out).1
    go_wp2_with fail
    refine (HIa.out _).mono ?_
    rintro e v4 ⟨rfl, hb4⟩
    clear kax kay kaz kal kbx kby kbz kbl kcx kcy kcz kcl
    have Ra := Lib.hid ((hb4.block _ (Array.getElem?_eq_some_iff.1 Ra.out).1).trans Ra.out)
    have Rb := Lib.hid ((hb4.block _ (Array.getElem?_eq_some_iff.1 Rb.out).1).trans Rb.out)
    have Rc := Lib.hid ((hb4.block _ (Array.getElem?_eq_some_iff.1 Rc.out).1).trans Rc.out)
    have HB := Lib.hid (HB.out.trans (hb4.mono HB.out.size))
    clear hb4
    obtain ⟨kax, kay, kaz, _, _, _⟩ := own3 Ra.out
    have kal := (Array.getElem?_eq_some_iff.1 Ra.out).1
    obtain ⟨kbx, kby, kbz, _, _, _⟩ := own3 Rb.out
    have kbl := (Array.getElem?_eq_some_iff.1 Rb.out).1
    obtain ⟨kcx, kcy, kcz, _, _, _⟩ := own3 Rc.out
    have kcl := (Array.getElem?_eq_some_iff.1 Rc.out).1
    go_wp2_with fail
    go_ret
    exact ⟨rfl, HB.out⟩
  | true =>
    cases hvb : inV (b1, b2, b3) with
    | false =>
      rw [show okV (a1, a2, a3) (b1, b2, b3) = false by simp [okV, hvb], if_neg (by simp), show errOk false = 6 from rfl] at HDt HDs
      rw [show crossW (a1, a2, a3) (b1, b2, b3) = (0, 0, 0) by simp [crossW, okV, hvb], show okV (a1, a2, a3) (b1, b2, b3) = false by simp [okV, hvb], show errOk false = 6 from rfl] at HCr
      have qz := fun W => eqlA3 0 0 0 0 0 0 W
      rw [show decide ((0 : Int) = 0 ∧ (0 : Int) = 0 ∧ (0 : Int) = 0) = true by decide] at qz
      rw [hva] at HIa
      rw [hvb] at HIb
      clear hva hvb
      go_wp2_with fail
      refine (HDt.out _).mono ?_
      rintro e v1 ⟨rfl, hb1⟩
      clear kax kay kaz kal kbx kby kbz kbl
      have Ra := Lib.hid ((hb1.block _ (Array.getElem?_eq_some_iff.1 Ra.out).1).trans Ra.out)
      have Rb := Lib.hid ((hb1.block _ (Array.getElem?_eq_some_iff.1 Rb.out).1).trans Rb.out)
      have HB := Lib.hid (HB.out.trans (hb1.mono HB.out.size))
      clear hb1
      obtain ⟨kax, kay, kaz, _, _, _⟩ := own3 Ra.out
      have kal := (Array.getElem?_eq_some_iff.1 Ra.out).1
      obtain ⟨kbx, kby, kbz, _, _, _⟩ := own3 Rb.out
      have kbl := (Array.getElem?_eq_some_iff.1 Rb.out).1
      go_wp2_with fail
      refine (HCr.out _).mono ?_
      rintro e v2 ⟨rfl, hb2⟩
      clear kax kay kaz kal kbx kby kbz kbl
      have Ra := Lib.hid ((hb2.block _ (Array.getElem?_eq_some_iff.1 Ra.out).1).trans Ra.out)
      have Rb := Lib.hid ((hb2.block _ (Array.getElem?_eq_some_iff.1 Rb.out).1).trans Rb.out)
      have HB := Lib.hid (HB.out.trans (hb2.mono HB.out.size))
      clear hb2
      obtain ⟨kax, kay, kaz, _, _, _⟩ := own3 Ra.out
      have kal := (Array.getElem?_eq_some_iff.1 Ra.out).1
      obtain ⟨kbx, kby, kbz, _, _, _⟩ := own3 Rb.out
      have kbl := (Array.getElem?_eq_some_iff.1 Rb.out).1
      go_wp2_with fail
      refine (HDs.out _).mono ?_
      rintro e v3 ⟨rfl, hb3⟩
      clear kax kay kaz kal kbx kby kbz kbl
      have Ra := Lib.hid ((hb3.block _ (Array.getElem?_eq_some_iff.1 (hOld v2 (.cells #[.int .i64 (0), .int .i64 (0), .int .i64 (0)] 36) _ _ (Array.getElem?_eq_some_iff.1 Ra.out).1 Ra.out)).1).trans (hOld v2 (.cells #[.int .i64 (0), .int .i64 (0), .int .i64 (0)] 36) _ _ (Array.getElem?_eq_some_iff.1 Ra.out).1 Ra.out))
      have Rb := Lib.hid ((hb3.block _ (Array.getElem?_eq_some_iff.1 (hOld v2 (.cells #[.int .i64 (0), .int .i64 (0), .int .i64 (0)] 36) _ _ (Array.getElem?_eq_some_iff.1 Rb.out).1 Rb.out)).1).trans (hOld v2 (.cells #[.int .i64 (0), .int .i64 (0), .int .i64 (0)] 36) _ _ (Array.getElem?_eq_some_iff.1 Rb.out).1 Rb.out))
      have Rc := Lib.hid ((hb3.block _ (Array.getElem?_eq_some_iff.1 (hNew v2 (.cells #[.int .i64 (0), .int .i64 (0), .int .i64 (0)] 36) v2.heap.size rfl)).1).trans (hNew v2 (.cells #[.int .i64 (0), .int .i64 (0), .int .i64 (0)] 36) v2.heap.size rfl))
      have HB := Lib.hid ((HB.out.alloc HB.out.size (.cells #[.int .i64 (0), .int .i64 (0), .int .i64 (0)] 36)).trans (hb3.mono (HB.out.alloc HB.out.size (.cells #[.int .i64 (0), .int .i64 (0), .int .i64 (0)] 36)).size))
      generalize v2.heap.size = gc at Rc ⊢
      clear hb3
      obtain ⟨kax, kay, kaz, _, _, _⟩ := own3 Ra.out
      have kal := (Array.getElem?_eq_some_iff.1 Ra.out).1
      obtain ⟨kbx, kby, kbz, _, _, _⟩ := own3 Rb.out
      have kbl := (Array.getElem?_eq_some_iff.1 Rb.out).1
      obtain ⟨kcx, kcy, kcz, _, _, _⟩ := own3 Rc.out
      have kcl := (Array.getElem?_eq_some_iff.1 Rc.out).1
      go_wp2_with fail
      refine (HIa.out _).mono ?_
      rintro e v4 ⟨rfl, hb4⟩
      clear kax kay kaz kal kbx kby kbz kbl kcx kcy kcz kcl
      have Ra := Lib.hid ((hb4.block _ (Array.getElem?_eq_some_iff.1 Ra.out).1).trans Ra.out)
      have Rb := Lib.hid ((hb4.block _ (Array.getElem?_eq_some_iff.1 Rb.out).1).trans Rb.out)
      have Rc := Lib.hid ((hb4.block _ (Array.getElem?_eq_some_iff.1 Rc.out).1).trans Rc.out)
      have HB := Lib.hid (HB.out.trans (hb4.mono HB.out.size))
      clear hb4
      obtain ⟨kax, kay, kaz, _, _, _⟩ := own3 Ra.out
      have kal := (Array.getElem?_eq_some_iff.1 Ra.out).1
      obtain ⟨kbx, kby, kbz, _, _, _⟩ := own3 Rb.out
      have kbl := (Array.getElem?_eq_some_iff.1 Rb.out).1
      obtain ⟨kcx, kcy, kcz, _, _, _⟩ := own3 Rc.out
      have kcl := (Array.getElem?_eq_some_iff.1 Rc.out).1
      go_wp2_with fail
      refine (HIb.out _).mono ?_
      rintro e v5 ⟨rfl, hb5⟩
      clear kax kay kaz kal kbx kby kbz kbl kcx kcy kcz kcl
      have Ra := Lib.hid ((hb5.block _ (Array.getElem?_eq_some_iff.1 Ra.out).1).trans Ra.out)
      have Rb := Lib.hid ((hb5.block _ (Array.getElem?_eq_some_iff.1 Rb.out).1).trans Rb.out)
      have Rc := Lib.hid ((hb5.block _ (Array.getElem?_eq_some_iff.1 Rc.out).1).trans Rc.out)
      have HB := Lib.hid (HB.out.trans (hb5.mono HB.out.size))
      clear hb5
      obtain ⟨kax, kay, kaz, _, _, _⟩ := own3 Ra.out
      have kal := (Array.getElem?_eq_some_iff.1 Ra.out).1
      obtain ⟨kbx, kby, kbz, _, _, _⟩ := own3 Rb.out
      have kbl := (Array.getElem?_eq_some_iff.1 Rb.out).1
      obtain ⟨kcx, kcy, kcz, _, _, _⟩ := own3 Rc.out
      have kcl := (Array.getElem?_eq_some_iff.1 Rc.out).1
      go_wp2_with fail
      go_ret
      exact ⟨rfl, HB.out⟩
    | true =>
      have hok : okV (a1, a2, a3) (b1, b2, b3) = true := by simp [okV, hva, hvb]
      rw [hok, if_pos rfl, show errOk true = 0 from rfl] at HDt HDs
      rw [show crossW (a1, a2, a3) (b1, b2, b3) = crossV (a1, a2, a3) (b1, b2, b3) by simp [crossW, hok, crossV3, crossV], hok, show errOk true = 0 from rfl] at HCr
      have HRS := Lib.hid (fun W => rSub (a1, a2, a3) (b1, b2, b3) hok W)
      have HRD := Lib.hid (fun W => rDot (a1, a2, a3) (b1, b2, b3) (two_of hva) (two_of hvb) W)
      have HRC := Lib.hid (fun W => rCross (a1, a2, a3) (b1, b2, b3) (two_of hva) (two_of hvb) W)
      have HRE := Lib.hid (fun W => rDot (subV (a1, a2, a3) (b1, b2, b3)) (subV (a1, a2, a3) (b1, b2, b3)) (two_sub hva hvb) (two_sub hva hvb) W)
      rw [hva] at HIa
      rw [hvb] at HIb
      clear hva hvb hok
      generalize dotV (subV (a1, a2, a3) (b1, b2, b3)) (subV (a1, a2, a3) (b1, b2, b3)) = D at HDs HRE
      generalize subV (a1, a2, a3) (b1, b2, b3) = s at HRS HRE
      generalize dotV (a1, a2, a3) (b1, b2, b3) = N at HDt HRD
      generalize crossV (a1, a2, a3) (b1, b2, b3) = c at HCr HRC
      obtain ⟨s1, s2, s3⟩ := s
      obtain ⟨c1, c2, c3⟩ := c
      have qc := fun W => eqlA3 c1 c2 c3 c1 c2 c3 W
      rw [decide_eq_true ⟨rfl, rfl, rfl⟩] at qc
      go_wp2_with fail
      refine (HDt.out _).mono ?_
      rintro e v1 ⟨rfl, hb1⟩
      clear kax kay kaz kal kbx kby kbz kbl
      have Ra := Lib.hid ((hb1.block _ (Array.getElem?_eq_some_iff.1 Ra.out).1).trans Ra.out)
      have Rb := Lib.hid ((hb1.block _ (Array.getElem?_eq_some_iff.1 Rb.out).1).trans Rb.out)
      have HB := Lib.hid (HB.out.trans (hb1.mono HB.out.size))
      clear hb1
      obtain ⟨kax, kay, kaz, _, _, _⟩ := own3 Ra.out
      have kal := (Array.getElem?_eq_some_iff.1 Ra.out).1
      obtain ⟨kbx, kby, kbz, _, _, _⟩ := own3 Rb.out
      have kbl := (Array.getElem?_eq_some_iff.1 Rb.out).1
      go_wp2_with fail
      refine (HCr.out _).mono ?_
      rintro e v2 ⟨rfl, hb2⟩
      clear kax kay kaz kal kbx kby kbz kbl
      have Ra := Lib.hid ((hb2.block _ (Array.getElem?_eq_some_iff.1 Ra.out).1).trans Ra.out)
      have Rb := Lib.hid ((hb2.block _ (Array.getElem?_eq_some_iff.1 Rb.out).1).trans Rb.out)
      have HB := Lib.hid (HB.out.trans (hb2.mono HB.out.size))
      clear hb2
      obtain ⟨kax, kay, kaz, _, _, _⟩ := own3 Ra.out
      have kal := (Array.getElem?_eq_some_iff.1 Ra.out).1
      obtain ⟨kbx, kby, kbz, _, _, _⟩ := own3 Rb.out
      have kbl := (Array.getElem?_eq_some_iff.1 Rb.out).1
      go_wp2_with fail
      refine (HDs.out _).mono ?_
      rintro e v3 ⟨rfl, hb3⟩
      clear kax kay kaz kal kbx kby kbz kbl
      have Ra := Lib.hid ((hb3.block _ (Array.getElem?_eq_some_iff.1 (hOld v2 (.cells #[.int .i64 (c1), .int .i64 (c2), .int .i64 (c3)] 36) _ _ (Array.getElem?_eq_some_iff.1 Ra.out).1 Ra.out)).1).trans (hOld v2 (.cells #[.int .i64 (c1), .int .i64 (c2), .int .i64 (c3)] 36) _ _ (Array.getElem?_eq_some_iff.1 Ra.out).1 Ra.out))
      have Rb := Lib.hid ((hb3.block _ (Array.getElem?_eq_some_iff.1 (hOld v2 (.cells #[.int .i64 (c1), .int .i64 (c2), .int .i64 (c3)] 36) _ _ (Array.getElem?_eq_some_iff.1 Rb.out).1 Rb.out)).1).trans (hOld v2 (.cells #[.int .i64 (c1), .int .i64 (c2), .int .i64 (c3)] 36) _ _ (Array.getElem?_eq_some_iff.1 Rb.out).1 Rb.out))
      have Rc := Lib.hid ((hb3.block _ (Array.getElem?_eq_some_iff.1 (hNew v2 (.cells #[.int .i64 (c1), .int .i64 (c2), .int .i64 (c3)] 36) v2.heap.size rfl)).1).trans (hNew v2 (.cells #[.int .i64 (c1), .int .i64 (c2), .int .i64 (c3)] 36) v2.heap.size rfl))
      have HB := Lib.hid ((HB.out.alloc HB.out.size (.cells #[.int .i64 (c1), .int .i64 (c2), .int .i64 (c3)] 36)).trans (hb3.mono (HB.out.alloc HB.out.size (.cells #[.int .i64 (c1), .int .i64 (c2), .int .i64 (c3)] 36)).size))
      generalize v2.heap.size = gc at Rc ⊢
      clear hb3
      obtain ⟨kax, kay, kaz, _, _, _⟩ := own3 Ra.out
      have kal := (Array.getElem?_eq_some_iff.1 Ra.out).1
      obtain ⟨kbx, kby, kbz, _, _, _⟩ := own3 Rb.out
      have kbl := (Array.getElem?_eq_some_iff.1 Rb.out).1
      obtain ⟨kcx, kcy, kcz, _, _, _⟩ := own3 Rc.out
      have kcl := (Array.getElem?_eq_some_iff.1 Rc.out).1
      go_wp2_with fail
      refine (HIa.out _).mono ?_
      rintro e v4 ⟨rfl, hb4⟩
      clear kax kay kaz kal kbx kby kbz kbl kcx kcy kcz kcl
      have Ra := Lib.hid ((hb4.block _ (Array.getElem?_eq_some_iff.1 Ra.out).1).trans Ra.out)
      have Rb := Lib.hid ((hb4.block _ (Array.getElem?_eq_some_iff.1 Rb.out).1).trans Rb.out)
      have Rc := Lib.hid ((hb4.block _ (Array.getElem?_eq_some_iff.1 Rc.out).1).trans Rc.out)
      have HB := Lib.hid (HB.out.trans (hb4.mono HB.out.size))
      clear hb4
      obtain ⟨kax, kay, kaz, _, _, _⟩ := own3 Ra.out
      have kal := (Array.getElem?_eq_some_iff.1 Ra.out).1
      obtain ⟨kbx, kby, kbz, _, _, _⟩ := own3 Rb.out
      have kbl := (Array.getElem?_eq_some_iff.1 Rb.out).1
      obtain ⟨kcx, kcy, kcz, _, _, _⟩ := own3 Rc.out
      have kcl := (Array.getElem?_eq_some_iff.1 Rc.out).1
      go_wp2_with fail
      refine (HIb.out _).mono ?_
      rintro e v5 ⟨rfl, hb5⟩
      clear kax kay kaz kal kbx kby kbz kbl kcx kcy kcz kcl
      have Ra := Lib.hid ((hb5.block _ (Array.getElem?_eq_some_iff.1 Ra.out).1).trans Ra.out)
      have Rb := Lib.hid ((hb5.block _ (Array.getElem?_eq_some_iff.1 Rb.out).1).trans Rb.out)
      have Rc := Lib.hid ((hb5.block _ (Array.getElem?_eq_some_iff.1 Rc.out).1).trans Rc.out)
      have HB := Lib.hid (HB.out.trans (hb5.mono HB.out.size))
      clear hb5
      obtain ⟨kax, kay, kaz, _, _, _⟩ := own3 Ra.out
      have kal := (Array.getElem?_eq_some_iff.1 Ra.out).1
      obtain ⟨kbx, kby, kbz, _, _, _⟩ := own3 Rb.out
      have kbl := (Array.getElem?_eq_some_iff.1 Rb.out).1
      obtain ⟨kcx, kcy, kcz, _, _, _⟩ := own3 Rc.out
      have kcl := (Array.getElem?_eq_some_iff.1 Rc.out).1
      go_wp2_with fail
      refine (HRS.out _).mono ?_
      rintro e v6 ⟨rfl, hb6⟩
      clear kax kay kaz kal kbx kby kbz kbl kcx kcy kcz kcl
      have Ra := Lib.hid ((hb6.block _ (Array.getElem?_eq_some_iff.1 Ra.out).1).trans Ra.out)
      have Rb := Lib.hid ((hb6.block _ (Array.getElem?_eq_some_iff.1 Rb.out).1).trans Rb.out)
      have Rc := Lib.hid ((hb6.block _ (Array.getElem?_eq_some_iff.1 Rc.out).1).trans Rc.out)
      have HB := Lib.hid (HB.out.trans (hb6.mono HB.out.size))
      clear hb6
      obtain ⟨kax, kay, kaz, _, _, _⟩ := own3 Ra.out
      have kal := (Array.getElem?_eq_some_iff.1 Ra.out).1
      obtain ⟨kbx, kby, kbz, _, _, _⟩ := own3 Rb.out
      have kbl := (Array.getElem?_eq_some_iff.1 Rb.out).1
      obtain ⟨kcx, kcy, kcz, _, _, _⟩ := own3 Rc.out
      have kcl := (Array.getElem?_eq_some_iff.1 Rc.out).1
      go_wp2_with fail
      clear kax kay kaz kal kbx kby kbz kbl kcx kcy kcz kcl
      have Ra := Lib.hid (hOld v6 (.cells #[.int .i64 (s1), .int .i64 (s2), .int .i64 (s3)] 23) _ _ (Array.getElem?_eq_some_iff.1 Ra.out).1 Ra.out)
      have Rb := Lib.hid (hOld v6 (.cells #[.int .i64 (s1), .int .i64 (s2), .int .i64 (s3)] 23) _ _ (Array.getElem?_eq_some_iff.1 Rb.out).1 Rb.out)
      have Rc := Lib.hid (hOld v6 (.cells #[.int .i64 (s1), .int .i64 (s2), .int .i64 (s3)] 23) _ _ (Array.getElem?_eq_some_iff.1 Rc.out).1 Rc.out)
      have Rs := Lib.hid (hNew v6 (.cells #[.int .i64 (s1), .int .i64 (s2), .int .i64 (s3)] 23) v6.heap.size rfl)
      have HB := Lib.hid (HB.out.alloc HB.out.size (.cells #[.int .i64 (s1), .int .i64 (s2), .int .i64 (s3)] 23))
      generalize v6.alloc (.cells #[.int .i64 (s1), .int .i64 (s2), .int .i64 (s3)] 23) = wB at Ra Rb Rc Rs HB ⊢
      generalize v6.heap.size = gs at Rs ⊢
      have HSS : Hid (∀ w', Below wB.heap.size wB w' → w'.cell? ⟨w.heap.size, 0, none⟩ = some (.int .i64 (a1)) ∧ w'.cell? ⟨w.heap.size, 1, none⟩ = some (.int .i64 (a2)) ∧ w'.cell? ⟨w.heap.size, 2, none⟩ = some (.int .i64 (a3)) ∧ w'.cell? ⟨w.heap.size + 1, 0, none⟩ = some (.int .i64 (b1)) ∧ w'.cell? ⟨w.heap.size + 1, 1, none⟩ = some (.int .i64 (b2)) ∧ w'.cell? ⟨w.heap.size + 1, 2, none⟩ = some (.int .i64 (b3)) ∧ w'.cell? ⟨gc, 0, none⟩ = some (.int .i64 (c1)) ∧ w'.cell? ⟨gc, 1, none⟩ = some (.int .i64 (c2)) ∧ w'.cell? ⟨gc, 2, none⟩ = some (.int .i64 (c3)) ∧ w'.cell? ⟨gs, 0, none⟩ = some (.int .i64 (s1)) ∧ w'.cell? ⟨gs, 1, none⟩ = some (.int .i64 (s2)) ∧ w'.cell? ⟨gs, 2, none⟩ = some (.int .i64 (s3)) ∧ Below wB.heap.size wB w') := fun w' hB => by
        obtain ⟨au, av, aw, _, _, _⟩ := own3 ((hB.block _ (Array.getElem?_eq_some_iff.1 Ra.out).1).trans Ra.out)
        obtain ⟨bu, bv, bw, _, _, _⟩ := own3 ((hB.block _ (Array.getElem?_eq_some_iff.1 Rb.out).1).trans Rb.out)
        obtain ⟨cu, cv, cw, _, _, _⟩ := own3 ((hB.block _ (Array.getElem?_eq_some_iff.1 Rc.out).1).trans Rc.out)
        obtain ⟨su, sv, sw, _, _, _⟩ := own3 ((hB.block _ (Array.getElem?_eq_some_iff.1 Rs.out).1).trans Rs.out)
        exact ⟨au, av, aw, bu, bv, bw, cu, cv, cw, su, sv, sw, hB⟩
      go_region_held3 (fun w' => w'.cell? ⟨w.heap.size, 0, none⟩ = some (.int .i64 (a1)) ∧ w'.cell? ⟨w.heap.size, 1, none⟩ = some (.int .i64 (a2)) ∧ w'.cell? ⟨w.heap.size, 2, none⟩ = some (.int .i64 (a3)) ∧ w'.cell? ⟨w.heap.size + 1, 0, none⟩ = some (.int .i64 (b1)) ∧ w'.cell? ⟨w.heap.size + 1, 1, none⟩ = some (.int .i64 (b2)) ∧ w'.cell? ⟨w.heap.size + 1, 2, none⟩ = some (.int .i64 (b3)) ∧ w'.cell? ⟨gc, 0, none⟩ = some (.int .i64 (c1)) ∧ w'.cell? ⟨gc, 1, none⟩ = some (.int .i64 (c2)) ∧ w'.cell? ⟨gc, 2, none⟩ = some (.int .i64 (c3)) ∧ w'.cell? ⟨gs, 0, none⟩ = some (.int .i64 (s1)) ∧ w'.cell? ⟨gs, 1, none⟩ = some (.int .i64 (s2)) ∧ w'.cell? ⟨gs, 2, none⟩ = some (.int .i64 (s3)) ∧ Below wB.heap.size wB w')
        ((refine HSS.out _ ?_; repeat (first | exact Below.refl _ _ | (apply Hid.out; assumption) | refine bAl ?_ | refine Below.drew ?_)))
        (first | (go_at_call_of 25 (Value.agg #[Value.int IntKind.i64 a1, Value.int IntKind.i64 a2, Value.int IntKind.i64 a3]); refine (HRD.out _).mono ?_; rintro e w' ⟨rfl, hbb⟩; have HBn : Hid (Below wB.heap.size wB w') := (by unfold Hid; refine bNext ?_ hbb; repeat (first | exact Below.refl _ _ | (apply Hid.out; assumption) | refine bAl ?_ | refine Below.drew ?_))) | (go_at_call 26; refine (HRC.out _).mono ?_; rintro e w' ⟨rfl, hbb⟩; have HBn : Hid (Below wB.heap.size wB w') := (by unfold Hid; refine bNext ?_ hbb; repeat (first | exact Below.refl _ _ | (apply Hid.out; assumption) | refine bAl ?_ | refine Below.drew ?_))) | (go_at_call_of 25 (Value.agg #[Value.int IntKind.i64 s1, Value.int IntKind.i64 s2, Value.int IntKind.i64 s3]); refine (HRE.out _).mono ?_; rintro e w' ⟨rfl, hbb⟩; have HBn : Hid (Below wB.heap.size wB w') := (by unfold Hid; refine bNext ?_ hbb; repeat (first | exact Below.refl _ _ | (apply Hid.out; assumption) | refine bAl ?_ | refine Below.drew ?_))))
      rename_i hH
      have hBB := hH.2.2.2.2.2.2.2.2.2.2.2.2
      clear hH HSS
      have Ra := Lib.hid ((hBB.block _ (Array.getElem?_eq_some_iff.1 Ra.out).1).trans Ra.out)
      have Rb := Lib.hid ((hBB.block _ (Array.getElem?_eq_some_iff.1 Rb.out).1).trans Rb.out)
      have Rc := Lib.hid ((hBB.block _ (Array.getElem?_eq_some_iff.1 Rc.out).1).trans Rc.out)
      have Rs := Lib.hid ((hBB.block _ (Array.getElem?_eq_some_iff.1 Rs.out).1).trans Rs.out)
      have HB := Lib.hid (HB.out.trans (hBB.mono HB.out.size))
      clear hBB
      obtain ⟨kax, kay, kaz, _, _, _⟩ := own3 Ra.out
      have kal := (Array.getElem?_eq_some_iff.1 Ra.out).1
      obtain ⟨kbx, kby, kbz, _, _, _⟩ := own3 Rb.out
      have kbl := (Array.getElem?_eq_some_iff.1 Rb.out).1
      obtain ⟨kcx, kcy, kcz, _, _, _⟩ := own3 Rc.out
      have kcl := (Array.getElem?_eq_some_iff.1 Rc.out).1
      obtain ⟨ksx, ksy, ksz, _, _, _⟩ := own3 Rs.out
      have ksl := (Array.getElem?_eq_some_iff.1 Rs.out).1
      go_wp2_with fail
      go_ret
      exact ⟨rfl, HB.out⟩
end Go.Proofs.Ytdmgehfdahjneaa
