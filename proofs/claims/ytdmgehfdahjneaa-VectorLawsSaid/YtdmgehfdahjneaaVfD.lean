/- The walk of VectorLaws. -/
import Derived.Test.YtdmgehfdahjneaaVeI
import Derived.Test.YtdmgehfdahjneaaVeY
import Derived.Test.YtdmgehfdahjneaaVeZ
namespace Go.Proofs.Ytdmgehfdahjneaa
open Go.RowKit

theorem okV_swap (a b : V3) : okV b a = okV a b := Bool.and_comm _ _
theorem dotV_swap (a b : V3) : dotV b a = dotV a b := by unfold dotV; rw [Int.mul_comm b.1, Int.mul_comm b.2.1, Int.mul_comm b.2.2]
theorem crossW_swap (a b : V3) : crossW b a = (-(crossW a b).1, -(crossW a b).2.1, -(crossW a b).2.2) := by
  unfold crossW
  rw [okV_swap]
  split
  · simp only [crossV3]
    refine Prod.ext ?_ (Prod.ext ?_ ?_) <;> simp only <;> grind
  · rfl
theorem cross_orth1 (a b : V3) : a.1 * (crossV3 a b).1 + a.2.1 * (crossV3 a b).2.1 + a.2.2 * (crossV3 a b).2.2 = 0 := by simp only [crossV3]; grind
theorem cross_orth2 (a b : V3) : b.1 * (crossV3 a b).1 + b.2.1 * (crossV3 a b).2.1 + b.2.2 * (crossV3 a b).2.2 = 0 := by simp only [crossV3]; grind
theorem inV_nats {a : V3} : inV a = true ↔ a.1.natAbs ≤ 1000000 ∧ a.2.1.natAbs ≤ 1000000 ∧ a.2.2.natAbs ≤ 1000000 := by
  simp [inV, inC]
  omega
theorem cross_bd {a b : V3} (ha : inV a = true) (hb : inV b = true) : (crossV3 a b).1.natAbs ≤ 2000000000000 ∧ (crossV3 a b).2.1.natAbs ≤ 2000000000000 ∧ (crossV3 a b).2.2.natAbs ≤ 2000000000000 := by
  obtain ⟨x1, y1, z1⟩ := inV_nats.1 ha
  obtain ⟨x2, y2, z2⟩ := inV_nats.1 hb
  have m1 := mul_bd y1 z2
  have m2 := mul_bd z1 y2
  have m3 := mul_bd z1 x2
  have m4 := mul_bd x1 z2
  have m5 := mul_bd x1 y2
  have m6 := mul_bd y1 x2
  simp only [crossV3]
  omega
theorem sub_add (a b c : V3) : subV (addV a c) (addV b c) = subV a b := by
  simp only [subV, addV]
  refine Prod.ext ?_ (Prod.ext ?_ ?_) <;> simp only <;> omega
theorem res_cases (a c : V3) : resE (okV a c) (addV a c) = 6 ∨ (resE (okV a c) (addV a c) = 0 ∧ resV (okV a c) (addV a c) = addV a c ∧ inV (addV a c) = true ∧ inV a = true) := by
  cases h1 : okV a c with
  | false => left; simp [resE]
  | true =>
    rw [okV, Bool.and_eq_true] at h1
    cases h2 : inV (addV a c) with
    | false => left; simp [resE, h2]
    | true => right; exact ⟨by simp [resE, h2], by simp [resV, h2], rfl, h1.1⟩
theorem sub_back (a b : V3) : subV (addV a b) b = a := by
  simp only [subV, addV]
  refine Prod.ext ?_ (Prod.ext ?_ ?_) <;> simp only <;> omega

set_option maxRecDepth 20000 in
set_option maxHeartbeats 8000000 in
theorem vectorLaws_any (a1 a2 a3 b1 b2 b3 c1 c2 c3 : Int) (w : World) : Calls Try.prog 8 #[.agg #[.int .i64 a1, .int .i64 a2, .int .i64 a3], .agg #[.int .i64 b1, .int .i64 b2, .int .i64 b3], .agg #[.int .i64 c1, .int .i64 c2, .int .i64 c3]] w fun e w' => e = .returned (.bool true) ∧ Below w.heap.size w w' := by
  have HA1 := Lib.hid (fun W => add_any (a1, a2, a3) (b1, b2, b3) W)
  have HA2 := Lib.hid (fun W => add_any (a1, a2, a3) (c1, c2, c3) W)
  have HA3 := Lib.hid (fun W => add_any (b1, b2, b3) (c1, c2, c3) W)
  have HD1 := Lib.hid (fun W => dotP_any (a1, a2, a3) (b1, b2, b3) W)
  have HD2 := Lib.hid (fun W => dotP_any (b1, b2, b3) (a1, a2, a3) W)
  have HX1 := Lib.hid (fun W => cross_all (a1, a2, a3) (b1, b2, b3) W)
  have HX2 := Lib.hid (fun W => cross_all (b1, b2, b3) (a1, a2, a3) W)
  have HS1 := Lib.hid (fun W => distP_any (a1, a2, a3) (b1, b2, b3) W)
  rw [okV_swap, dotV_swap] at HD2
  rw [okV_swap, crossW_swap] at HX2
  have HW := Lib.hid (fun W => awake_any W)
  have HMd := Lib.hid (fun t => made3 w (.cells #[.int .i64 a1, .int .i64 a2, .int .i64 a3] t) (.cells #[.int .i64 b1, .int .i64 b2, .int .i64 b3] t) (.cells #[.int .i64 c1, .int .i64 c2, .int .i64 c3] t))
  go_enter Try.func8, Try.ntmps8
  go_wp2_with fail
  refine (HW.out _).mono ?_
  rintro e w1 ⟨rfl, hb⟩
  obtain ⟨m0, m1, m2, m3, m4⟩ := HMd.out 23
  have Ra := Lib.hid ((hb.block _ (by rw [m4]; omega)).trans m0)
  have Rb := Lib.hid ((hb.block _ (by rw [m4]; omega)).trans m1)
  have Rc := Lib.hid ((hb.block _ (by rw [m4]; omega)).trans m2)
  have HB := Lib.hid (m3.trans (hb.mono (by rw [m4]; omega)))
  clear m0 m1 m2 m3 m4 hb HMd HW
  obtain ⟨kax, kay, kaz, _, _, _⟩ := own3 Ra.out
  have kal := (Array.getElem?_eq_some_iff.1 Ra.out).1
  obtain ⟨kbx, kby, kbz, _, _, _⟩ := own3 Rb.out
  have kbl := (Array.getElem?_eq_some_iff.1 Rb.out).1
  obtain ⟨kcx, kcy, kcz, _, _, _⟩ := own3 Rc.out
  have kcl := (Array.getElem?_eq_some_iff.1 Rc.out).1
  cases hok : okV (a1, a2, a3) (b1, b2, b3) with
  | false =>
    rw [hok, show ∀ s, resV false s = (0, 0, 0) from fun _ => rfl, show ∀ s, resE false s = 6 from fun _ => rfl] at HA1
    rw [show crossW (a1, a2, a3) (b1, b2, b3) = (0, 0, 0) by simp [crossW, hok], hok, show errOk false = 6 from rfl] at HX1
    rw [show crossW (a1, a2, a3) (b1, b2, b3) = (0, 0, 0) by simp [crossW, hok], hok, show errOk false = 6 from rfl] at HX2
    simp only [Int.neg_zero] at HX2
    rw [hok, if_neg (by simp), show errOk false = 6 from rfl] at HD1 HD2
    clear HS1
    rcases res_cases (a1, a2, a3) (c1, c2, c3) with e2 | ⟨e2, r2, i2, ia⟩
    · rw [e2] at HA2
      generalize resV (okV (a1, a2, a3) (c1, c2, c3)) (addV (a1, a2, a3) (c1, c2, c3)) = P at HA2
      generalize resV (okV (b1, b2, b3) (c1, c2, c3)) (addV (b1, b2, b3) (c1, c2, c3)) = Q at HA3
      generalize resE (okV (b1, b2, b3) (c1, c2, c3)) (addV (b1, b2, b3) (c1, c2, c3)) = k at HA3
      obtain ⟨P1, P2, P3⟩ := P
      obtain ⟨Q1, Q2, Q3⟩ := Q
      clear e2
      go_wp2_with fail
      refine (HA1.out _).mono ?_
      rintro e v1 ⟨rfl, hb1⟩
      clear kax kay kaz kal kbx kby kbz kbl kcx kcy kcz kcl
      have Ra := Lib.hid ((hb1.block _ (Array.getElem?_eq_some_iff.1 Ra.out).1).trans Ra.out)
      have Rb := Lib.hid ((hb1.block _ (Array.getElem?_eq_some_iff.1 Rb.out).1).trans Rb.out)
      have Rc := Lib.hid ((hb1.block _ (Array.getElem?_eq_some_iff.1 Rc.out).1).trans Rc.out)
      have HB := Lib.hid (HB.out.trans (hb1.mono HB.out.size))
      clear hb1
      obtain ⟨kax, kay, kaz, _, _, _⟩ := own3 Ra.out
      have kal := (Array.getElem?_eq_some_iff.1 Ra.out).1
      obtain ⟨kbx, kby, kbz, _, _, _⟩ := own3 Rb.out
      have kbl := (Array.getElem?_eq_some_iff.1 Rb.out).1
      obtain ⟨kcx, kcy, kcz, _, _, _⟩ := own3 Rc.out
      have kcl := (Array.getElem?_eq_some_iff.1 Rc.out).1
      go_wp2_with fail
      refine (HD1.out _).mono ?_
      rintro e v2 ⟨rfl, hb2⟩
      clear kax kay kaz kal kbx kby kbz kbl kcx kcy kcz kcl
      have Ra := Lib.hid ((hb2.block _ (Array.getElem?_eq_some_iff.1 (hOld v1 (.cells #[.int .i64 (0), .int .i64 (0), .int .i64 (0)] 23) _ _ (Array.getElem?_eq_some_iff.1 Ra.out).1 Ra.out)).1).trans (hOld v1 (.cells #[.int .i64 (0), .int .i64 (0), .int .i64 (0)] 23) _ _ (Array.getElem?_eq_some_iff.1 Ra.out).1 Ra.out))
      have Rb := Lib.hid ((hb2.block _ (Array.getElem?_eq_some_iff.1 (hOld v1 (.cells #[.int .i64 (0), .int .i64 (0), .int .i64 (0)] 23) _ _ (Array.getElem?_eq_some_iff.1 Rb.out).1 Rb.out)).1).trans (hOld v1 (.cells #[.int .i64 (0), .int .i64 (0), .int .i64 (0)] 23) _ _ (Array.getElem?_eq_some_iff.1 Rb.out).1 Rb.out))
      have Rc := Lib.hid ((hb2.block _ (Array.getElem?_eq_some_iff.1 (hOld v1 (.cells #[.int .i64 (0), .int .i64 (0), .int .i64 (0)] 23) _ _ (Array.getElem?_eq_some_iff.1 Rc.out).1 Rc.out)).1).trans (hOld v1 (.cells #[.int .i64 (0), .int .i64 (0), .int .i64 (0)] 23) _ _ (Array.getElem?_eq_some_iff.1 Rc.out).1 Rc.out))
      have Rs := Lib.hid ((hb2.block _ (Array.getElem?_eq_some_iff.1 (hNew v1 (.cells #[.int .i64 (0), .int .i64 (0), .int .i64 (0)] 23) v1.heap.size rfl)).1).trans (hNew v1 (.cells #[.int .i64 (0), .int .i64 (0), .int .i64 (0)] 23) v1.heap.size rfl))
      have HB := Lib.hid ((HB.out.alloc HB.out.size (.cells #[.int .i64 (0), .int .i64 (0), .int .i64 (0)] 23)).trans (hb2.mono (HB.out.alloc HB.out.size (.cells #[.int .i64 (0), .int .i64 (0), .int .i64 (0)] 23)).size))
      generalize v1.heap.size = gs at Rs ⊢
      clear hb2
      obtain ⟨kax, kay, kaz, _, _, _⟩ := own3 Ra.out
      have kal := (Array.getElem?_eq_some_iff.1 Ra.out).1
      obtain ⟨kbx, kby, kbz, _, _, _⟩ := own3 Rb.out
      have kbl := (Array.getElem?_eq_some_iff.1 Rb.out).1
      obtain ⟨kcx, kcy, kcz, _, _, _⟩ := own3 Rc.out
      have kcl := (Array.getElem?_eq_some_iff.1 Rc.out).1
      obtain ⟨ksx, ksy, ksz, _, _, _⟩ := own3 Rs.out
      have ksl := (Array.getElem?_eq_some_iff.1 Rs.out).1
      go_wp2_with fail
      refine (HD2.out _).mono ?_
      rintro e v3 ⟨rfl, hb3⟩
      clear kax kay kaz kal kbx kby kbz kbl kcx kcy kcz kcl ksx ksy ksz ksl
      have Ra := Lib.hid ((hb3.block _ (Array.getElem?_eq_some_iff.1 Ra.out).1).trans Ra.out)
      have Rb := Lib.hid ((hb3.block _ (Array.getElem?_eq_some_iff.1 Rb.out).1).trans Rb.out)
      have Rc := Lib.hid ((hb3.block _ (Array.getElem?_eq_some_iff.1 Rc.out).1).trans Rc.out)
      have Rs := Lib.hid ((hb3.block _ (Array.getElem?_eq_some_iff.1 Rs.out).1).trans Rs.out)
      have HB := Lib.hid (HB.out.trans (hb3.mono HB.out.size))
      clear hb3
      obtain ⟨kax, kay, kaz, _, _, _⟩ := own3 Ra.out
      have kal := (Array.getElem?_eq_some_iff.1 Ra.out).1
      obtain ⟨kbx, kby, kbz, _, _, _⟩ := own3 Rb.out
      have kbl := (Array.getElem?_eq_some_iff.1 Rb.out).1
      obtain ⟨kcx, kcy, kcz, _, _, _⟩ := own3 Rc.out
      have kcl := (Array.getElem?_eq_some_iff.1 Rc.out).1
      obtain ⟨ksx, ksy, ksz, _, _, _⟩ := own3 Rs.out
      have ksl := (Array.getElem?_eq_some_iff.1 Rs.out).1
      go_wp2_with fail
      refine (HX1.out _).mono ?_
      rintro e v4 ⟨rfl, hb4⟩
      clear kax kay kaz kal kbx kby kbz kbl kcx kcy kcz kcl ksx ksy ksz ksl
      have Ra := Lib.hid ((hb4.block _ (Array.getElem?_eq_some_iff.1 Ra.out).1).trans Ra.out)
      have Rb := Lib.hid ((hb4.block _ (Array.getElem?_eq_some_iff.1 Rb.out).1).trans Rb.out)
      have Rc := Lib.hid ((hb4.block _ (Array.getElem?_eq_some_iff.1 Rc.out).1).trans Rc.out)
      have Rs := Lib.hid ((hb4.block _ (Array.getElem?_eq_some_iff.1 Rs.out).1).trans Rs.out)
      have HB := Lib.hid (HB.out.trans (hb4.mono HB.out.size))
      clear hb4
      obtain ⟨kax, kay, kaz, _, _, _⟩ := own3 Ra.out
      have kal := (Array.getElem?_eq_some_iff.1 Ra.out).1
      obtain ⟨kbx, kby, kbz, _, _, _⟩ := own3 Rb.out
      have kbl := (Array.getElem?_eq_some_iff.1 Rb.out).1
      obtain ⟨kcx, kcy, kcz, _, _, _⟩ := own3 Rc.out
      have kcl := (Array.getElem?_eq_some_iff.1 Rc.out).1
      obtain ⟨ksx, ksy, ksz, _, _, _⟩ := own3 Rs.out
      have ksl := (Array.getElem?_eq_some_iff.1 Rs.out).1
      go_wp2_with fail
      refine (HX2.out _).mono ?_
      rintro e v5 ⟨rfl, hb5⟩
      clear kax kay kaz kal kbx kby kbz kbl kcx kcy kcz kcl ksx ksy ksz ksl
      have Ra := Lib.hid ((hb5.block _ (Array.getElem?_eq_some_iff.1 (hOld v4 (.cells #[.int .i64 (0), .int .i64 (0), .int .i64 (0)] 36) _ _ (Array.getElem?_eq_some_iff.1 Ra.out).1 Ra.out)).1).trans (hOld v4 (.cells #[.int .i64 (0), .int .i64 (0), .int .i64 (0)] 36) _ _ (Array.getElem?_eq_some_iff.1 Ra.out).1 Ra.out))
      have Rb := Lib.hid ((hb5.block _ (Array.getElem?_eq_some_iff.1 (hOld v4 (.cells #[.int .i64 (0), .int .i64 (0), .int .i64 (0)] 36) _ _ (Array.getElem?_eq_some_iff.1 Rb.out).1 Rb.out)).1).trans (hOld v4 (.cells #[.int .i64 (0), .int .i64 (0), .int .i64 (0)] 36) _ _ (Array.getElem?_eq_some_iff.1 Rb.out).1 Rb.out))
      have Rc := Lib.hid ((hb5.block _ (Array.getElem?_eq_some_iff.1 (hOld v4 (.cells #[.int .i64 (0), .int .i64 (0), .int .i64 (0)] 36) _ _ (Array.getElem?_eq_some_iff.1 Rc.out).1 Rc.out)).1).trans (hOld v4 (.cells #[.int .i64 (0), .int .i64 (0), .int .i64 (0)] 36) _ _ (Array.getElem?_eq_some_iff.1 Rc.out).1 Rc.out))
      have Rs := Lib.hid ((hb5.block _ (Array.getElem?_eq_some_iff.1 (hOld v4 (.cells #[.int .i64 (0), .int .i64 (0), .int .i64 (0)] 36) _ _ (Array.getElem?_eq_some_iff.1 Rs.out).1 Rs.out)).1).trans (hOld v4 (.cells #[.int .i64 (0), .int .i64 (0), .int .i64 (0)] 36) _ _ (Array.getElem?_eq_some_iff.1 Rs.out).1 Rs.out))
      have Rx := Lib.hid ((hb5.block _ (Array.getElem?_eq_some_iff.1 (hNew v4 (.cells #[.int .i64 (0), .int .i64 (0), .int .i64 (0)] 36) v4.heap.size rfl)).1).trans (hNew v4 (.cells #[.int .i64 (0), .int .i64 (0), .int .i64 (0)] 36) v4.heap.size rfl))
      have HB := Lib.hid ((HB.out.alloc HB.out.size (.cells #[.int .i64 (0), .int .i64 (0), .int .i64 (0)] 36)).trans (hb5.mono (HB.out.alloc HB.out.size (.cells #[.int .i64 (0), .int .i64 (0), .int .i64 (0)] 36)).size))
      generalize v4.heap.size = gx at Rx ⊢
      clear hb5
      obtain ⟨kax, kay, kaz, _, _, _⟩ := own3 Ra.out
      have kal := (Array.getElem?_eq_some_iff.1 Ra.out).1
      obtain ⟨kbx, kby, kbz, _, _, _⟩ := own3 Rb.out
      have kbl := (Array.getElem?_eq_some_iff.1 Rb.out).1
      obtain ⟨kcx, kcy, kcz, _, _, _⟩ := own3 Rc.out
      have kcl := (Array.getElem?_eq_some_iff.1 Rc.out).1
      obtain ⟨ksx, ksy, ksz, _, _, _⟩ := own3 Rs.out
      have ksl := (Array.getElem?_eq_some_iff.1 Rs.out).1
      obtain ⟨kxx, kxy, kxz, _, _, _⟩ := own3 Rx.out
      have kxl := (Array.getElem?_eq_some_iff.1 Rx.out).1
      go_wp2_with fail
      refine (HA2.out _).mono ?_
      rintro e v6 ⟨rfl, hb6⟩
      clear kax kay kaz kal kbx kby kbz kbl kcx kcy kcz kcl ksx ksy ksz ksl kxx kxy kxz kxl
      have Ra := Lib.hid ((hb6.block _ (Array.getElem?_eq_some_iff.1 (hOld v5 (.cells #[.int .i64 (0), .int .i64 (0), .int .i64 (0)] 36) _ _ (Array.getElem?_eq_some_iff.1 Ra.out).1 Ra.out)).1).trans (hOld v5 (.cells #[.int .i64 (0), .int .i64 (0), .int .i64 (0)] 36) _ _ (Array.getElem?_eq_some_iff.1 Ra.out).1 Ra.out))
      have Rb := Lib.hid ((hb6.block _ (Array.getElem?_eq_some_iff.1 (hOld v5 (.cells #[.int .i64 (0), .int .i64 (0), .int .i64 (0)] 36) _ _ (Array.getElem?_eq_some_iff.1 Rb.out).1 Rb.out)).1).trans (hOld v5 (.cells #[.int .i64 (0), .int .i64 (0), .int .i64 (0)] 36) _ _ (Array.getElem?_eq_some_iff.1 Rb.out).1 Rb.out))
      have Rc := Lib.hid ((hb6.block _ (Array.getElem?_eq_some_iff.1 (hOld v5 (.cells #[.int .i64 (0), .int .i64 (0), .int .i64 (0)] 36) _ _ (Array.getElem?_eq_some_iff.1 Rc.out).1 Rc.out)).1).trans (hOld v5 (.cells #[.int .i64 (0), .int .i64 (0), .int .i64 (0)] 36) _ _ (Array.getElem?_eq_some_iff.1 Rc.out).1 Rc.out))
      have Rs := Lib.hid ((hb6.block _ (Array.getElem?_eq_some_iff.1 (hOld v5 (.cells #[.int .i64 (0), .int .i64 (0), .int .i64 (0)] 36) _ _ (Array.getElem?_eq_some_iff.1 Rs.out).1 Rs.out)).1).trans (hOld v5 (.cells #[.int .i64 (0), .int .i64 (0), .int .i64 (0)] 36) _ _ (Array.getElem?_eq_some_iff.1 Rs.out).1 Rs.out))
      have Rx := Lib.hid ((hb6.block _ (Array.getElem?_eq_some_iff.1 (hOld v5 (.cells #[.int .i64 (0), .int .i64 (0), .int .i64 (0)] 36) _ _ (Array.getElem?_eq_some_iff.1 Rx.out).1 Rx.out)).1).trans (hOld v5 (.cells #[.int .i64 (0), .int .i64 (0), .int .i64 (0)] 36) _ _ (Array.getElem?_eq_some_iff.1 Rx.out).1 Rx.out))
      have Ry := Lib.hid ((hb6.block _ (Array.getElem?_eq_some_iff.1 (hNew v5 (.cells #[.int .i64 (0), .int .i64 (0), .int .i64 (0)] 36) v5.heap.size rfl)).1).trans (hNew v5 (.cells #[.int .i64 (0), .int .i64 (0), .int .i64 (0)] 36) v5.heap.size rfl))
      have HB := Lib.hid ((HB.out.alloc HB.out.size (.cells #[.int .i64 (0), .int .i64 (0), .int .i64 (0)] 36)).trans (hb6.mono (HB.out.alloc HB.out.size (.cells #[.int .i64 (0), .int .i64 (0), .int .i64 (0)] 36)).size))
      generalize v5.heap.size = gy at Ry ⊢
      clear hb6
      obtain ⟨kax, kay, kaz, _, _, _⟩ := own3 Ra.out
      have kal := (Array.getElem?_eq_some_iff.1 Ra.out).1
      obtain ⟨kbx, kby, kbz, _, _, _⟩ := own3 Rb.out
      have kbl := (Array.getElem?_eq_some_iff.1 Rb.out).1
      obtain ⟨kcx, kcy, kcz, _, _, _⟩ := own3 Rc.out
      have kcl := (Array.getElem?_eq_some_iff.1 Rc.out).1
      obtain ⟨ksx, ksy, ksz, _, _, _⟩ := own3 Rs.out
      have ksl := (Array.getElem?_eq_some_iff.1 Rs.out).1
      obtain ⟨kxx, kxy, kxz, _, _, _⟩ := own3 Rx.out
      have kxl := (Array.getElem?_eq_some_iff.1 Rx.out).1
      obtain ⟨kyx, kyy, kyz, _, _, _⟩ := own3 Ry.out
      have kyl := (Array.getElem?_eq_some_iff.1 Ry.out).1
      go_wp2_with fail
      refine (HA3.out _).mono ?_
      rintro e v7 ⟨rfl, hb7⟩
      clear kax kay kaz kal kbx kby kbz kbl kcx kcy kcz kcl ksx ksy ksz ksl kxx kxy kxz kxl kyx kyy kyz kyl
      have Ra := Lib.hid ((hb7.block _ (Array.getElem?_eq_some_iff.1 (hOld v6 (.cells #[.int .i64 (P1), .int .i64 (P2), .int .i64 (P3)] 23) _ _ (Array.getElem?_eq_some_iff.1 Ra.out).1 Ra.out)).1).trans (hOld v6 (.cells #[.int .i64 (P1), .int .i64 (P2), .int .i64 (P3)] 23) _ _ (Array.getElem?_eq_some_iff.1 Ra.out).1 Ra.out))
      have Rb := Lib.hid ((hb7.block _ (Array.getElem?_eq_some_iff.1 (hOld v6 (.cells #[.int .i64 (P1), .int .i64 (P2), .int .i64 (P3)] 23) _ _ (Array.getElem?_eq_some_iff.1 Rb.out).1 Rb.out)).1).trans (hOld v6 (.cells #[.int .i64 (P1), .int .i64 (P2), .int .i64 (P3)] 23) _ _ (Array.getElem?_eq_some_iff.1 Rb.out).1 Rb.out))
      have Rc := Lib.hid ((hb7.block _ (Array.getElem?_eq_some_iff.1 (hOld v6 (.cells #[.int .i64 (P1), .int .i64 (P2), .int .i64 (P3)] 23) _ _ (Array.getElem?_eq_some_iff.1 Rc.out).1 Rc.out)).1).trans (hOld v6 (.cells #[.int .i64 (P1), .int .i64 (P2), .int .i64 (P3)] 23) _ _ (Array.getElem?_eq_some_iff.1 Rc.out).1 Rc.out))
      have Rs := Lib.hid ((hb7.block _ (Array.getElem?_eq_some_iff.1 (hOld v6 (.cells #[.int .i64 (P1), .int .i64 (P2), .int .i64 (P3)] 23) _ _ (Array.getElem?_eq_some_iff.1 Rs.out).1 Rs.out)).1).trans (hOld v6 (.cells #[.int .i64 (P1), .int .i64 (P2), .int .i64 (P3)] 23) _ _ (Array.getElem?_eq_some_iff.1 Rs.out).1 Rs.out))
      have Rx := Lib.hid ((hb7.block _ (Array.getElem?_eq_some_iff.1 (hOld v6 (.cells #[.int .i64 (P1), .int .i64 (P2), .int .i64 (P3)] 23) _ _ (Array.getElem?_eq_some_iff.1 Rx.out).1 Rx.out)).1).trans (hOld v6 (.cells #[.int .i64 (P1), .int .i64 (P2), .int .i64 (P3)] 23) _ _ (Array.getElem?_eq_some_iff.1 Rx.out).1 Rx.out))
      have Ry := Lib.hid ((hb7.block _ (Array.getElem?_eq_some_iff.1 (hOld v6 (.cells #[.int .i64 (P1), .int .i64 (P2), .int .i64 (P3)] 23) _ _ (Array.getElem?_eq_some_iff.1 Ry.out).1 Ry.out)).1).trans (hOld v6 (.cells #[.int .i64 (P1), .int .i64 (P2), .int .i64 (P3)] 23) _ _ (Array.getElem?_eq_some_iff.1 Ry.out).1 Ry.out))
      have Rp := Lib.hid ((hb7.block _ (Array.getElem?_eq_some_iff.1 (hNew v6 (.cells #[.int .i64 (P1), .int .i64 (P2), .int .i64 (P3)] 23) v6.heap.size rfl)).1).trans (hNew v6 (.cells #[.int .i64 (P1), .int .i64 (P2), .int .i64 (P3)] 23) v6.heap.size rfl))
      have HB := Lib.hid ((HB.out.alloc HB.out.size (.cells #[.int .i64 (P1), .int .i64 (P2), .int .i64 (P3)] 23)).trans (hb7.mono (HB.out.alloc HB.out.size (.cells #[.int .i64 (P1), .int .i64 (P2), .int .i64 (P3)] 23)).size))
      generalize v6.heap.size = gp at Rp ⊢
      clear hb7
      obtain ⟨kax, kay, kaz, _, _, _⟩ := own3 Ra.out
      have kal := (Array.getElem?_eq_some_iff.1 Ra.out).1
      obtain ⟨kbx, kby, kbz, _, _, _⟩ := own3 Rb.out
      have kbl := (Array.getElem?_eq_some_iff.1 Rb.out).1
      obtain ⟨kcx, kcy, kcz, _, _, _⟩ := own3 Rc.out
      have kcl := (Array.getElem?_eq_some_iff.1 Rc.out).1
      obtain ⟨ksx, ksy, ksz, _, _, _⟩ := own3 Rs.out
      have ksl := (Array.getElem?_eq_some_iff.1 Rs.out).1
      obtain ⟨kxx, kxy, kxz, _, _, _⟩ := own3 Rx.out
      have kxl := (Array.getElem?_eq_some_iff.1 Rx.out).1
      obtain ⟨kyx, kyy, kyz, _, _, _⟩ := own3 Ry.out
      have kyl := (Array.getElem?_eq_some_iff.1 Ry.out).1
      obtain ⟨kpx, kpy, kpz, _, _, _⟩ := own3 Rp.out
      have kpl := (Array.getElem?_eq_some_iff.1 Rp.out).1
      go_wp2_with fail
      go_ret
      exact ⟨rfl, HB.out.alloc HB.out.size _⟩
    · rcases res_cases (b1, b2, b3) (c1, c2, c3) with e3 | ⟨e3, r3, i3, ib⟩
      · rw [e2] at HA2
        rw [e3] at HA3
        generalize resV (okV (a1, a2, a3) (c1, c2, c3)) (addV (a1, a2, a3) (c1, c2, c3)) = P at HA2 r2
        generalize resV (okV (b1, b2, b3) (c1, c2, c3)) (addV (b1, b2, b3) (c1, c2, c3)) = Q at HA3
        obtain ⟨P1, P2, P3⟩ := P
        obtain ⟨Q1, Q2, Q3⟩ := Q
        clear e2 e3 r2 i2 ia
        go_wp2_with fail
        refine (HA1.out _).mono ?_
        rintro e v1 ⟨rfl, hb1⟩
        clear kax kay kaz kal kbx kby kbz kbl kcx kcy kcz kcl
        have Ra := Lib.hid ((hb1.block _ (Array.getElem?_eq_some_iff.1 Ra.out).1).trans Ra.out)
        have Rb := Lib.hid ((hb1.block _ (Array.getElem?_eq_some_iff.1 Rb.out).1).trans Rb.out)
        have Rc := Lib.hid ((hb1.block _ (Array.getElem?_eq_some_iff.1 Rc.out).1).trans Rc.out)
        have HB := Lib.hid (HB.out.trans (hb1.mono HB.out.size))
        clear hb1
        obtain ⟨kax, kay, kaz, _, _, _⟩ := own3 Ra.out
        have kal := (Array.getElem?_eq_some_iff.1 Ra.out).1
        obtain ⟨kbx, kby, kbz, _, _, _⟩ := own3 Rb.out
        have kbl := (Array.getElem?_eq_some_iff.1 Rb.out).1
        obtain ⟨kcx, kcy, kcz, _, _, _⟩ := own3 Rc.out
        have kcl := (Array.getElem?_eq_some_iff.1 Rc.out).1
        go_wp2_with fail
        refine (HD1.out _).mono ?_
        rintro e v2 ⟨rfl, hb2⟩
        clear kax kay kaz kal kbx kby kbz kbl kcx kcy kcz kcl
        have Ra := Lib.hid ((hb2.block _ (Array.getElem?_eq_some_iff.1 (hOld v1 (.cells #[.int .i64 (0), .int .i64 (0), .int .i64 (0)] 23) _ _ (Array.getElem?_eq_some_iff.1 Ra.out).1 Ra.out)).1).trans (hOld v1 (.cells #[.int .i64 (0), .int .i64 (0), .int .i64 (0)] 23) _ _ (Array.getElem?_eq_some_iff.1 Ra.out).1 Ra.out))
        have Rb := Lib.hid ((hb2.block _ (Array.getElem?_eq_some_iff.1 (hOld v1 (.cells #[.int .i64 (0), .int .i64 (0), .int .i64 (0)] 23) _ _ (Array.getElem?_eq_some_iff.1 Rb.out).1 Rb.out)).1).trans (hOld v1 (.cells #[.int .i64 (0), .int .i64 (0), .int .i64 (0)] 23) _ _ (Array.getElem?_eq_some_iff.1 Rb.out).1 Rb.out))
        have Rc := Lib.hid ((hb2.block _ (Array.getElem?_eq_some_iff.1 (hOld v1 (.cells #[.int .i64 (0), .int .i64 (0), .int .i64 (0)] 23) _ _ (Array.getElem?_eq_some_iff.1 Rc.out).1 Rc.out)).1).trans (hOld v1 (.cells #[.int .i64 (0), .int .i64 (0), .int .i64 (0)] 23) _ _ (Array.getElem?_eq_some_iff.1 Rc.out).1 Rc.out))
        have Rs := Lib.hid ((hb2.block _ (Array.getElem?_eq_some_iff.1 (hNew v1 (.cells #[.int .i64 (0), .int .i64 (0), .int .i64 (0)] 23) v1.heap.size rfl)).1).trans (hNew v1 (.cells #[.int .i64 (0), .int .i64 (0), .int .i64 (0)] 23) v1.heap.size rfl))
        have HB := Lib.hid ((HB.out.alloc HB.out.size (.cells #[.int .i64 (0), .int .i64 (0), .int .i64 (0)] 23)).trans (hb2.mono (HB.out.alloc HB.out.size (.cells #[.int .i64 (0), .int .i64 (0), .int .i64 (0)] 23)).size))
        generalize v1.heap.size = gs at Rs ⊢
        clear hb2
        obtain ⟨kax, kay, kaz, _, _, _⟩ := own3 Ra.out
        have kal := (Array.getElem?_eq_some_iff.1 Ra.out).1
        obtain ⟨kbx, kby, kbz, _, _, _⟩ := own3 Rb.out
        have kbl := (Array.getElem?_eq_some_iff.1 Rb.out).1
        obtain ⟨kcx, kcy, kcz, _, _, _⟩ := own3 Rc.out
        have kcl := (Array.getElem?_eq_some_iff.1 Rc.out).1
        obtain ⟨ksx, ksy, ksz, _, _, _⟩ := own3 Rs.out
        have ksl := (Array.getElem?_eq_some_iff.1 Rs.out).1
        go_wp2_with fail
        refine (HD2.out _).mono ?_
        rintro e v3 ⟨rfl, hb3⟩
        clear kax kay kaz kal kbx kby kbz kbl kcx kcy kcz kcl ksx ksy ksz ksl
        have Ra := Lib.hid ((hb3.block _ (Array.getElem?_eq_some_iff.1 Ra.out).1).trans Ra.out)
        have Rb := Lib.hid ((hb3.block _ (Array.getElem?_eq_some_iff.1 Rb.out).1).trans Rb.out)
        have Rc := Lib.hid ((hb3.block _ (Array.getElem?_eq_some_iff.1 Rc.out).1).trans Rc.out)
        have Rs := Lib.hid ((hb3.block _ (Array.getElem?_eq_some_iff.1 Rs.out).1).trans Rs.out)
        have HB := Lib.hid (HB.out.trans (hb3.mono HB.out.size))
        clear hb3
        obtain ⟨kax, kay, kaz, _, _, _⟩ := own3 Ra.out
        have kal := (Array.getElem?_eq_some_iff.1 Ra.out).1
        obtain ⟨kbx, kby, kbz, _, _, _⟩ := own3 Rb.out
        have kbl := (Array.getElem?_eq_some_iff.1 Rb.out).1
        obtain ⟨kcx, kcy, kcz, _, _, _⟩ := own3 Rc.out
        have kcl := (Array.getElem?_eq_some_iff.1 Rc.out).1
        obtain ⟨ksx, ksy, ksz, _, _, _⟩ := own3 Rs.out
        have ksl := (Array.getElem?_eq_some_iff.1 Rs.out).1
        go_wp2_with fail
        refine (HX1.out _).mono ?_
        rintro e v4 ⟨rfl, hb4⟩
        clear kax kay kaz kal kbx kby kbz kbl kcx kcy kcz kcl ksx ksy ksz ksl
        have Ra := Lib.hid ((hb4.block _ (Array.getElem?_eq_some_iff.1 Ra.out).1).trans Ra.out)
        have Rb := Lib.hid ((hb4.block _ (Array.getElem?_eq_some_iff.1 Rb.out).1).trans Rb.out)
        have Rc := Lib.hid ((hb4.block _ (Array.getElem?_eq_some_iff.1 Rc.out).1).trans Rc.out)
        have Rs := Lib.hid ((hb4.block _ (Array.getElem?_eq_some_iff.1 Rs.out).1).trans Rs.out)
        have HB := Lib.hid (HB.out.trans (hb4.mono HB.out.size))
        clear hb4
        obtain ⟨kax, kay, kaz, _, _, _⟩ := own3 Ra.out
        have kal := (Array.getElem?_eq_some_iff.1 Ra.out).1
        obtain ⟨kbx, kby, kbz, _, _, _⟩ := own3 Rb.out
        have kbl := (Array.getElem?_eq_some_iff.1 Rb.out).1
        obtain ⟨kcx, kcy, kcz, _, _, _⟩ := own3 Rc.out
        have kcl := (Array.getElem?_eq_some_iff.1 Rc.out).1
        obtain ⟨ksx, ksy, ksz, _, _, _⟩ := own3 Rs.out
        have ksl := (Array.getElem?_eq_some_iff.1 Rs.out).1
        go_wp2_with fail
        refine (HX2.out _).mono ?_
        rintro e v5 ⟨rfl, hb5⟩
        clear kax kay kaz kal kbx kby kbz kbl kcx kcy kcz kcl ksx ksy ksz ksl
        have Ra := Lib.hid ((hb5.block _ (Array.getElem?_eq_some_iff.1 (hOld v4 (.cells #[.int .i64 (0), .int .i64 (0), .int .i64 (0)] 36) _ _ (Array.getElem?_eq_some_iff.1 Ra.out).1 Ra.out)).1).trans (hOld v4 (.cells #[.int .i64 (0), .int .i64 (0), .int .i64 (0)] 36) _ _ (Array.getElem?_eq_some_iff.1 Ra.out).1 Ra.out))
        have Rb := Lib.hid ((hb5.block _ (Array.getElem?_eq_some_iff.1 (hOld v4 (.cells #[.int .i64 (0), .int .i64 (0), .int .i64 (0)] 36) _ _ (Array.getElem?_eq_some_iff.1 Rb.out).1 Rb.out)).1).trans (hOld v4 (.cells #[.int .i64 (0), .int .i64 (0), .int .i64 (0)] 36) _ _ (Array.getElem?_eq_some_iff.1 Rb.out).1 Rb.out))
        have Rc := Lib.hid ((hb5.block _ (Array.getElem?_eq_some_iff.1 (hOld v4 (.cells #[.int .i64 (0), .int .i64 (0), .int .i64 (0)] 36) _ _ (Array.getElem?_eq_some_iff.1 Rc.out).1 Rc.out)).1).trans (hOld v4 (.cells #[.int .i64 (0), .int .i64 (0), .int .i64 (0)] 36) _ _ (Array.getElem?_eq_some_iff.1 Rc.out).1 Rc.out))
        have Rs := Lib.hid ((hb5.block _ (Array.getElem?_eq_some_iff.1 (hOld v4 (.cells #[.int .i64 (0), .int .i64 (0), .int .i64 (0)] 36) _ _ (Array.getElem?_eq_some_iff.1 Rs.out).1 Rs.out)).1).trans (hOld v4 (.cells #[.int .i64 (0), .int .i64 (0), .int .i64 (0)] 36) _ _ (Array.getElem?_eq_some_iff.1 Rs.out).1 Rs.out))
        have Rx := Lib.hid ((hb5.block _ (Array.getElem?_eq_some_iff.1 (hNew v4 (.cells #[.int .i64 (0), .int .i64 (0), .int .i64 (0)] 36) v4.heap.size rfl)).1).trans (hNew v4 (.cells #[.int .i64 (0), .int .i64 (0), .int .i64 (0)] 36) v4.heap.size rfl))
        have HB := Lib.hid ((HB.out.alloc HB.out.size (.cells #[.int .i64 (0), .int .i64 (0), .int .i64 (0)] 36)).trans (hb5.mono (HB.out.alloc HB.out.size (.cells #[.int .i64 (0), .int .i64 (0), .int .i64 (0)] 36)).size))
        generalize v4.heap.size = gx at Rx ⊢
        clear hb5
        obtain ⟨kax, kay, kaz, _, _, _⟩ := own3 Ra.out
        have kal := (Array.getElem?_eq_some_iff.1 Ra.out).1
        obtain ⟨kbx, kby, kbz, _, _, _⟩ := own3 Rb.out
        have kbl := (Array.getElem?_eq_some_iff.1 Rb.out).1
        obtain ⟨kcx, kcy, kcz, _, _, _⟩ := own3 Rc.out
        have kcl := (Array.getElem?_eq_some_iff.1 Rc.out).1
        obtain ⟨ksx, ksy, ksz, _, _, _⟩ := own3 Rs.out
        have ksl := (Array.getElem?_eq_some_iff.1 Rs.out).1
        obtain ⟨kxx, kxy, kxz, _, _, _⟩ := own3 Rx.out
        have kxl := (Array.getElem?_eq_some_iff.1 Rx.out).1
        go_wp2_with fail
        refine (HA2.out _).mono ?_
        rintro e v6 ⟨rfl, hb6⟩
        clear kax kay kaz kal kbx kby kbz kbl kcx kcy kcz kcl ksx ksy ksz ksl kxx kxy kxz kxl
        have Ra := Lib.hid ((hb6.block _ (Array.getElem?_eq_some_iff.1 (hOld v5 (.cells #[.int .i64 (0), .int .i64 (0), .int .i64 (0)] 36) _ _ (Array.getElem?_eq_some_iff.1 Ra.out).1 Ra.out)).1).trans (hOld v5 (.cells #[.int .i64 (0), .int .i64 (0), .int .i64 (0)] 36) _ _ (Array.getElem?_eq_some_iff.1 Ra.out).1 Ra.out))
        have Rb := Lib.hid ((hb6.block _ (Array.getElem?_eq_some_iff.1 (hOld v5 (.cells #[.int .i64 (0), .int .i64 (0), .int .i64 (0)] 36) _ _ (Array.getElem?_eq_some_iff.1 Rb.out).1 Rb.out)).1).trans (hOld v5 (.cells #[.int .i64 (0), .int .i64 (0), .int .i64 (0)] 36) _ _ (Array.getElem?_eq_some_iff.1 Rb.out).1 Rb.out))
        have Rc := Lib.hid ((hb6.block _ (Array.getElem?_eq_some_iff.1 (hOld v5 (.cells #[.int .i64 (0), .int .i64 (0), .int .i64 (0)] 36) _ _ (Array.getElem?_eq_some_iff.1 Rc.out).1 Rc.out)).1).trans (hOld v5 (.cells #[.int .i64 (0), .int .i64 (0), .int .i64 (0)] 36) _ _ (Array.getElem?_eq_some_iff.1 Rc.out).1 Rc.out))
        have Rs := Lib.hid ((hb6.block _ (Array.getElem?_eq_some_iff.1 (hOld v5 (.cells #[.int .i64 (0), .int .i64 (0), .int .i64 (0)] 36) _ _ (Array.getElem?_eq_some_iff.1 Rs.out).1 Rs.out)).1).trans (hOld v5 (.cells #[.int .i64 (0), .int .i64 (0), .int .i64 (0)] 36) _ _ (Array.getElem?_eq_some_iff.1 Rs.out).1 Rs.out))
        have Rx := Lib.hid ((hb6.block _ (Array.getElem?_eq_some_iff.1 (hOld v5 (.cells #[.int .i64 (0), .int .i64 (0), .int .i64 (0)] 36) _ _ (Array.getElem?_eq_some_iff.1 Rx.out).1 Rx.out)).1).trans (hOld v5 (.cells #[.int .i64 (0), .int .i64 (0), .int .i64 (0)] 36) _ _ (Array.getElem?_eq_some_iff.1 Rx.out).1 Rx.out))
        have Ry := Lib.hid ((hb6.block _ (Array.getElem?_eq_some_iff.1 (hNew v5 (.cells #[.int .i64 (0), .int .i64 (0), .int .i64 (0)] 36) v5.heap.size rfl)).1).trans (hNew v5 (.cells #[.int .i64 (0), .int .i64 (0), .int .i64 (0)] 36) v5.heap.size rfl))
        have HB := Lib.hid ((HB.out.alloc HB.out.size (.cells #[.int .i64 (0), .int .i64 (0), .int .i64 (0)] 36)).trans (hb6.mono (HB.out.alloc HB.out.size (.cells #[.int .i64 (0), .int .i64 (0), .int .i64 (0)] 36)).size))
        generalize v5.heap.size = gy at Ry ⊢
        clear hb6
        obtain ⟨kax, kay, kaz, _, _, _⟩ := own3 Ra.out
        have kal := (Array.getElem?_eq_some_iff.1 Ra.out).1
        obtain ⟨kbx, kby, kbz, _, _, _⟩ := own3 Rb.out
        have kbl := (Array.getElem?_eq_some_iff.1 Rb.out).1
        obtain ⟨kcx, kcy, kcz, _, _, _⟩ := own3 Rc.out
        have kcl := (Array.getElem?_eq_some_iff.1 Rc.out).1
        obtain ⟨ksx, ksy, ksz, _, _, _⟩ := own3 Rs.out
        have ksl := (Array.getElem?_eq_some_iff.1 Rs.out).1
        obtain ⟨kxx, kxy, kxz, _, _, _⟩ := own3 Rx.out
        have kxl := (Array.getElem?_eq_some_iff.1 Rx.out).1
        obtain ⟨kyx, kyy, kyz, _, _, _⟩ := own3 Ry.out
        have kyl := (Array.getElem?_eq_some_iff.1 Ry.out).1
        go_wp2_with fail
        refine (HA3.out _).mono ?_
        rintro e v7 ⟨rfl, hb7⟩
        clear kax kay kaz kal kbx kby kbz kbl kcx kcy kcz kcl ksx ksy ksz ksl kxx kxy kxz kxl kyx kyy kyz kyl
        have Ra := Lib.hid ((hb7.block _ (Array.getElem?_eq_some_iff.1 (hOld v6 (.cells #[.int .i64 (P1), .int .i64 (P2), .int .i64 (P3)] 23) _ _ (Array.getElem?_eq_some_iff.1 Ra.out).1 Ra.out)).1).trans (hOld v6 (.cells #[.int .i64 (P1), .int .i64 (P2), .int .i64 (P3)] 23) _ _ (Array.getElem?_eq_some_iff.1 Ra.out).1 Ra.out))
        have Rb := Lib.hid ((hb7.block _ (Array.getElem?_eq_some_iff.1 (hOld v6 (.cells #[.int .i64 (P1), .int .i64 (P2), .int .i64 (P3)] 23) _ _ (Array.getElem?_eq_some_iff.1 Rb.out).1 Rb.out)).1).trans (hOld v6 (.cells #[.int .i64 (P1), .int .i64 (P2), .int .i64 (P3)] 23) _ _ (Array.getElem?_eq_some_iff.1 Rb.out).1 Rb.out))
        have Rc := Lib.hid ((hb7.block _ (Array.getElem?_eq_some_iff.1 (hOld v6 (.cells #[.int .i64 (P1), .int .i64 (P2), .int .i64 (P3)] 23) _ _ (Array.getElem?_eq_some_iff.1 Rc.out).1 Rc.out)).1).trans (hOld v6 (.cells #[.int .i64 (P1), .int .i64 (P2), .int .i64 (P3)] 23) _ _ (Array.getElem?_eq_some_iff.1 Rc.out).1 Rc.out))
        have Rs := Lib.hid ((hb7.block _ (Array.getElem?_eq_some_iff.1 (hOld v6 (.cells #[.int .i64 (P1), .int .i64 (P2), .int .i64 (P3)] 23) _ _ (Array.getElem?_eq_some_iff.1 Rs.out).1 Rs.out)).1).trans (hOld v6 (.cells #[.int .i64 (P1), .int .i64 (P2), .int .i64 (P3)] 23) _ _ (Array.getElem?_eq_some_iff.1 Rs.out).1 Rs.out))
        have Rx := Lib.hid ((hb7.block _ (Array.getElem?_eq_some_iff.1 (hOld v6 (.cells #[.int .i64 (P1), .int .i64 (P2), .int .i64 (P3)] 23) _ _ (Array.getElem?_eq_some_iff.1 Rx.out).1 Rx.out)).1).trans (hOld v6 (.cells #[.int .i64 (P1), .int .i64 (P2), .int .i64 (P3)] 23) _ _ (Array.getElem?_eq_some_iff.1 Rx.out).1 Rx.out))
        have Ry := Lib.hid ((hb7.block _ (Array.getElem?_eq_some_iff.1 (hOld v6 (.cells #[.int .i64 (P1), .int .i64 (P2), .int .i64 (P3)] 23) _ _ (Array.getElem?_eq_some_iff.1 Ry.out).1 Ry.out)).1).trans (hOld v6 (.cells #[.int .i64 (P1), .int .i64 (P2), .int .i64 (P3)] 23) _ _ (Array.getElem?_eq_some_iff.1 Ry.out).1 Ry.out))
        have Rp := Lib.hid ((hb7.block _ (Array.getElem?_eq_some_iff.1 (hNew v6 (.cells #[.int .i64 (P1), .int .i64 (P2), .int .i64 (P3)] 23) v6.heap.size rfl)).1).trans (hNew v6 (.cells #[.int .i64 (P1), .int .i64 (P2), .int .i64 (P3)] 23) v6.heap.size rfl))
        have HB := Lib.hid ((HB.out.alloc HB.out.size (.cells #[.int .i64 (P1), .int .i64 (P2), .int .i64 (P3)] 23)).trans (hb7.mono (HB.out.alloc HB.out.size (.cells #[.int .i64 (P1), .int .i64 (P2), .int .i64 (P3)] 23)).size))
        generalize v6.heap.size = gp at Rp ⊢
        clear hb7
        obtain ⟨kax, kay, kaz, _, _, _⟩ := own3 Ra.out
        have kal := (Array.getElem?_eq_some_iff.1 Ra.out).1
        obtain ⟨kbx, kby, kbz, _, _, _⟩ := own3 Rb.out
        have kbl := (Array.getElem?_eq_some_iff.1 Rb.out).1
        obtain ⟨kcx, kcy, kcz, _, _, _⟩ := own3 Rc.out
        have kcl := (Array.getElem?_eq_some_iff.1 Rc.out).1
        obtain ⟨ksx, ksy, ksz, _, _, _⟩ := own3 Rs.out
        have ksl := (Array.getElem?_eq_some_iff.1 Rs.out).1
        obtain ⟨kxx, kxy, kxz, _, _, _⟩ := own3 Rx.out
        have kxl := (Array.getElem?_eq_some_iff.1 Rx.out).1
        obtain ⟨kyx, kyy, kyz, _, _, _⟩ := own3 Ry.out
        have kyl := (Array.getElem?_eq_some_iff.1 Ry.out).1
        obtain ⟨kpx, kpy, kpz, _, _, _⟩ := own3 Rp.out
        have kpl := (Array.getElem?_eq_some_iff.1 Rp.out).1
        go_wp2_with fail
        go_ret
        exact ⟨rfl, HB.out.alloc HB.out.size _⟩
      · exact absurd (by rw [okV, ia, ib]; rfl) (Bool.eq_false_iff.1 hok)
  | true =>
    have hok' := hok
    rw [okV, Bool.and_eq_true] at hok'
    obtain ⟨hva, hvb⟩ := hok'
    obtain ⟨ba1, ba2, ba3⟩ := inV_nats.1 hva
    obtain ⟨bb1, bb2, bb3⟩ := inV_nats.1 hvb
    obtain ⟨x1, x2, x3⟩ := cross_bd hva hvb
    have o1 := cross_orth1 (a1, a2, a3) (b1, b2, b3)
    have o2 := cross_orth2 (a1, a2, a3) (b1, b2, b3)
    rw [show crossW (a1, a2, a3) (b1, b2, b3) = crossV3 (a1, a2, a3) (b1, b2, b3) by simp [crossW, hok], hok, show errOk true = 0 from rfl] at HX1 HX2
    rw [hok, if_pos rfl, show errOk true = 0 from rfl] at HD1 HD2 HS1
    generalize crossV3 (a1, a2, a3) (b1, b2, b3) = X at HX1 HX2 x1 x2 x3 o1 o2
    generalize dotV (a1, a2, a3) (b1, b2, b3) = D at HD1 HD2
    obtain ⟨X1, X2, X3⟩ := X
    simp only at ba1 ba2 ba3 bb1 bb2 bb3 x1 x2 x3 o1 o2
    have p1 := mul_bd ba1 x1
    have p2 := mul_bd ba2 x2
    have p3 := mul_bd ba3 x3
    have p4 := mul_bd bb1 x1
    have p5 := mul_bd bb2 x2
    have p6 := mul_bd bb3 x3
    have n1 : wrap64 X1 = X1 := IntWalk.wrap64_in _ (by omega)
    have n2 : wrap64 X2 = X2 := IntWalk.wrap64_in _ (by omega)
    have n3 : wrap64 X3 = X3 := IntWalk.wrap64_in _ (by omega)
    have w1' : wrap64 (a1 * X1) = a1 * X1 := IntWalk.wrap64_in _ (by omega)
    have w2' : wrap64 (a2 * X2) = a2 * X2 := IntWalk.wrap64_in _ (by omega)
    have w3' : wrap64 (a3 * X3) = a3 * X3 := IntWalk.wrap64_in _ (by omega)
    have w4' : wrap64 (a1 * X1 + a2 * X2) = a1 * X1 + a2 * X2 := IntWalk.wrap64_in _ (by omega)
    have w5' : wrap64 (b1 * X1) = b1 * X1 := IntWalk.wrap64_in _ (by omega)
    have w6' : wrap64 (b2 * X2) = b2 * X2 := IntWalk.wrap64_in _ (by omega)
    have w7' : wrap64 (b3 * X3) = b3 * X3 := IntWalk.wrap64_in _ (by omega)
    have w8' : wrap64 (b1 * X1 + b2 * X2) = b1 * X1 + b2 * X2 := IntWalk.wrap64_in _ (by omega)
    clear p1 p2 p3 p4 p5 p6 x1 x2 x3 ba1 ba2 ba3 bb1 bb2 bb3
    rw [hok] at HA1
    cases hs : inV (addV (a1, a2, a3) (b1, b2, b3)) with
    | true =>
      have HS0 := Lib.hid (fun W => sub_any (addV (a1, a2, a3) (b1, b2, b3)) (b1, b2, b3) W)
      rw [sub_back, show okV (addV (a1, a2, a3) (b1, b2, b3)) (b1, b2, b3) = true by simp [okV, hs, hvb], show resV true (a1, a2, a3) = (a1, a2, a3) by simp [resV, hva], show resE true (a1, a2, a3) = 0 by simp [resE, hva]] at HS0
      rw [show resV true (addV (a1, a2, a3) (b1, b2, b3)) = addV (a1, a2, a3) (b1, b2, b3) by simp [resV, hs], show resE true (addV (a1, a2, a3) (b1, b2, b3)) = 0 by simp [resE, hs]] at HA1
      generalize addV (a1, a2, a3) (b1, b2, b3) = s at HA1 HS0
      obtain ⟨s1, s2, s3⟩ := s
      have qa := fun W => neqVec a1 a2 a3 a1 a2 a3 W
      rw [decide_eq_true ⟨rfl, rfl, rfl⟩] at qa
      clear hva hvb hs hok
      rcases res_cases (a1, a2, a3) (c1, c2, c3) with e2 | ⟨e2, r2, i2, ia⟩
      · rw [e2] at HA2
        generalize resV (okV (a1, a2, a3) (c1, c2, c3)) (addV (a1, a2, a3) (c1, c2, c3)) = P at HA2
        generalize resV (okV (b1, b2, b3) (c1, c2, c3)) (addV (b1, b2, b3) (c1, c2, c3)) = Q at HA3
        generalize resE (okV (b1, b2, b3) (c1, c2, c3)) (addV (b1, b2, b3) (c1, c2, c3)) = k at HA3
        obtain ⟨P1, P2, P3⟩ := P
        obtain ⟨Q1, Q2, Q3⟩ := Q
        clear e2
        go_wp2_with fail
        refine (HA1.out _).mono ?_
        rintro e v1 ⟨rfl, hb1⟩
        clear kax kay kaz kal kbx kby kbz kbl kcx kcy kcz kcl
        have Ra := Lib.hid ((hb1.block _ (Array.getElem?_eq_some_iff.1 Ra.out).1).trans Ra.out)
        have Rb := Lib.hid ((hb1.block _ (Array.getElem?_eq_some_iff.1 Rb.out).1).trans Rb.out)
        have Rc := Lib.hid ((hb1.block _ (Array.getElem?_eq_some_iff.1 Rc.out).1).trans Rc.out)
        have HB := Lib.hid (HB.out.trans (hb1.mono HB.out.size))
        clear hb1
        obtain ⟨kax, kay, kaz, _, _, _⟩ := own3 Ra.out
        have kal := (Array.getElem?_eq_some_iff.1 Ra.out).1
        obtain ⟨kbx, kby, kbz, _, _, _⟩ := own3 Rb.out
        have kbl := (Array.getElem?_eq_some_iff.1 Rb.out).1
        obtain ⟨kcx, kcy, kcz, _, _, _⟩ := own3 Rc.out
        have kcl := (Array.getElem?_eq_some_iff.1 Rc.out).1
        go_wp2_with fail
        refine (HS0.out _).mono ?_
        rintro e v2 ⟨rfl, hb2⟩
        clear kax kay kaz kal kbx kby kbz kbl kcx kcy kcz kcl
        have Ra := Lib.hid ((hb2.block _ (Array.getElem?_eq_some_iff.1 (hOld v1 (.cells #[.int .i64 (s1), .int .i64 (s2), .int .i64 (s3)] 23) _ _ (Array.getElem?_eq_some_iff.1 Ra.out).1 Ra.out)).1).trans (hOld v1 (.cells #[.int .i64 (s1), .int .i64 (s2), .int .i64 (s3)] 23) _ _ (Array.getElem?_eq_some_iff.1 Ra.out).1 Ra.out))
        have Rb := Lib.hid ((hb2.block _ (Array.getElem?_eq_some_iff.1 (hOld v1 (.cells #[.int .i64 (s1), .int .i64 (s2), .int .i64 (s3)] 23) _ _ (Array.getElem?_eq_some_iff.1 Rb.out).1 Rb.out)).1).trans (hOld v1 (.cells #[.int .i64 (s1), .int .i64 (s2), .int .i64 (s3)] 23) _ _ (Array.getElem?_eq_some_iff.1 Rb.out).1 Rb.out))
        have Rc := Lib.hid ((hb2.block _ (Array.getElem?_eq_some_iff.1 (hOld v1 (.cells #[.int .i64 (s1), .int .i64 (s2), .int .i64 (s3)] 23) _ _ (Array.getElem?_eq_some_iff.1 Rc.out).1 Rc.out)).1).trans (hOld v1 (.cells #[.int .i64 (s1), .int .i64 (s2), .int .i64 (s3)] 23) _ _ (Array.getElem?_eq_some_iff.1 Rc.out).1 Rc.out))
        have Rs := Lib.hid ((hb2.block _ (Array.getElem?_eq_some_iff.1 (hNew v1 (.cells #[.int .i64 (s1), .int .i64 (s2), .int .i64 (s3)] 23) v1.heap.size rfl)).1).trans (hNew v1 (.cells #[.int .i64 (s1), .int .i64 (s2), .int .i64 (s3)] 23) v1.heap.size rfl))
        have HB := Lib.hid ((HB.out.alloc HB.out.size (.cells #[.int .i64 (s1), .int .i64 (s2), .int .i64 (s3)] 23)).trans (hb2.mono (HB.out.alloc HB.out.size (.cells #[.int .i64 (s1), .int .i64 (s2), .int .i64 (s3)] 23)).size))
        generalize v1.heap.size = gs at Rs ⊢
        clear hb2
        obtain ⟨kax, kay, kaz, _, _, _⟩ := own3 Ra.out
        have kal := (Array.getElem?_eq_some_iff.1 Ra.out).1
        obtain ⟨kbx, kby, kbz, _, _, _⟩ := own3 Rb.out
        have kbl := (Array.getElem?_eq_some_iff.1 Rb.out).1
        obtain ⟨kcx, kcy, kcz, _, _, _⟩ := own3 Rc.out
        have kcl := (Array.getElem?_eq_some_iff.1 Rc.out).1
        obtain ⟨ksx, ksy, ksz, _, _, _⟩ := own3 Rs.out
        have ksl := (Array.getElem?_eq_some_iff.1 Rs.out).1
        go_wp2_with fail
        refine (HD1.out _).mono ?_
        rintro e v3 ⟨rfl, hb3⟩
        clear kax kay kaz kal kbx kby kbz kbl kcx kcy kcz kcl ksx ksy ksz ksl
        have Ra := Lib.hid ((hb3.block _ (Array.getElem?_eq_some_iff.1 (hOld v2 (.cells #[.int .i64 (a1), .int .i64 (a2), .int .i64 (a3)] 23) _ _ (Array.getElem?_eq_some_iff.1 Ra.out).1 Ra.out)).1).trans (hOld v2 (.cells #[.int .i64 (a1), .int .i64 (a2), .int .i64 (a3)] 23) _ _ (Array.getElem?_eq_some_iff.1 Ra.out).1 Ra.out))
        have Rb := Lib.hid ((hb3.block _ (Array.getElem?_eq_some_iff.1 (hOld v2 (.cells #[.int .i64 (a1), .int .i64 (a2), .int .i64 (a3)] 23) _ _ (Array.getElem?_eq_some_iff.1 Rb.out).1 Rb.out)).1).trans (hOld v2 (.cells #[.int .i64 (a1), .int .i64 (a2), .int .i64 (a3)] 23) _ _ (Array.getElem?_eq_some_iff.1 Rb.out).1 Rb.out))
        have Rc := Lib.hid ((hb3.block _ (Array.getElem?_eq_some_iff.1 (hOld v2 (.cells #[.int .i64 (a1), .int .i64 (a2), .int .i64 (a3)] 23) _ _ (Array.getElem?_eq_some_iff.1 Rc.out).1 Rc.out)).1).trans (hOld v2 (.cells #[.int .i64 (a1), .int .i64 (a2), .int .i64 (a3)] 23) _ _ (Array.getElem?_eq_some_iff.1 Rc.out).1 Rc.out))
        have Rs := Lib.hid ((hb3.block _ (Array.getElem?_eq_some_iff.1 (hOld v2 (.cells #[.int .i64 (a1), .int .i64 (a2), .int .i64 (a3)] 23) _ _ (Array.getElem?_eq_some_iff.1 Rs.out).1 Rs.out)).1).trans (hOld v2 (.cells #[.int .i64 (a1), .int .i64 (a2), .int .i64 (a3)] 23) _ _ (Array.getElem?_eq_some_iff.1 Rs.out).1 Rs.out))
        have Rt := Lib.hid ((hb3.block _ (Array.getElem?_eq_some_iff.1 (hNew v2 (.cells #[.int .i64 (a1), .int .i64 (a2), .int .i64 (a3)] 23) v2.heap.size rfl)).1).trans (hNew v2 (.cells #[.int .i64 (a1), .int .i64 (a2), .int .i64 (a3)] 23) v2.heap.size rfl))
        have HB := Lib.hid ((HB.out.alloc HB.out.size (.cells #[.int .i64 (a1), .int .i64 (a2), .int .i64 (a3)] 23)).trans (hb3.mono (HB.out.alloc HB.out.size (.cells #[.int .i64 (a1), .int .i64 (a2), .int .i64 (a3)] 23)).size))
        generalize v2.heap.size = gt at Rt ⊢
        clear hb3
        obtain ⟨kax, kay, kaz, _, _, _⟩ := own3 Ra.out
        have kal := (Array.getElem?_eq_some_iff.1 Ra.out).1
        obtain ⟨kbx, kby, kbz, _, _, _⟩ := own3 Rb.out
        have kbl := (Array.getElem?_eq_some_iff.1 Rb.out).1
        obtain ⟨kcx, kcy, kcz, _, _, _⟩ := own3 Rc.out
        have kcl := (Array.getElem?_eq_some_iff.1 Rc.out).1
        obtain ⟨ksx, ksy, ksz, _, _, _⟩ := own3 Rs.out
        have ksl := (Array.getElem?_eq_some_iff.1 Rs.out).1
        obtain ⟨ktx, kty, ktz, _, _, _⟩ := own3 Rt.out
        have ktl := (Array.getElem?_eq_some_iff.1 Rt.out).1
        go_wp2_with fail
        refine (HD2.out _).mono ?_
        rintro e v4 ⟨rfl, hb4⟩
        clear kax kay kaz kal kbx kby kbz kbl kcx kcy kcz kcl ksx ksy ksz ksl ktx kty ktz ktl
        have Ra := Lib.hid ((hb4.block _ (Array.getElem?_eq_some_iff.1 Ra.out).1).trans Ra.out)
        have Rb := Lib.hid ((hb4.block _ (Array.getElem?_eq_some_iff.1 Rb.out).1).trans Rb.out)
        have Rc := Lib.hid ((hb4.block _ (Array.getElem?_eq_some_iff.1 Rc.out).1).trans Rc.out)
        have Rs := Lib.hid ((hb4.block _ (Array.getElem?_eq_some_iff.1 Rs.out).1).trans Rs.out)
        have Rt := Lib.hid ((hb4.block _ (Array.getElem?_eq_some_iff.1 Rt.out).1).trans Rt.out)
        have HB := Lib.hid (HB.out.trans (hb4.mono HB.out.size))
        clear hb4
        obtain ⟨kax, kay, kaz, _, _, _⟩ := own3 Ra.out
        have kal := (Array.getElem?_eq_some_iff.1 Ra.out).1
        obtain ⟨kbx, kby, kbz, _, _, _⟩ := own3 Rb.out
        have kbl := (Array.getElem?_eq_some_iff.1 Rb.out).1
        obtain ⟨kcx, kcy, kcz, _, _, _⟩ := own3 Rc.out
        have kcl := (Array.getElem?_eq_some_iff.1 Rc.out).1
        obtain ⟨ksx, ksy, ksz, _, _, _⟩ := own3 Rs.out
        have ksl := (Array.getElem?_eq_some_iff.1 Rs.out).1
        obtain ⟨ktx, kty, ktz, _, _, _⟩ := own3 Rt.out
        have ktl := (Array.getElem?_eq_some_iff.1 Rt.out).1
        go_wp2_with fail
        refine (HX1.out _).mono ?_
        rintro e v5 ⟨rfl, hb5⟩
        clear kax kay kaz kal kbx kby kbz kbl kcx kcy kcz kcl ksx ksy ksz ksl ktx kty ktz ktl
        have Ra := Lib.hid ((hb5.block _ (Array.getElem?_eq_some_iff.1 Ra.out).1).trans Ra.out)
        have Rb := Lib.hid ((hb5.block _ (Array.getElem?_eq_some_iff.1 Rb.out).1).trans Rb.out)
        have Rc := Lib.hid ((hb5.block _ (Array.getElem?_eq_some_iff.1 Rc.out).1).trans Rc.out)
        have Rs := Lib.hid ((hb5.block _ (Array.getElem?_eq_some_iff.1 Rs.out).1).trans Rs.out)
        have Rt := Lib.hid ((hb5.block _ (Array.getElem?_eq_some_iff.1 Rt.out).1).trans Rt.out)
        have HB := Lib.hid (HB.out.trans (hb5.mono HB.out.size))
        clear hb5
        obtain ⟨kax, kay, kaz, _, _, _⟩ := own3 Ra.out
        have kal := (Array.getElem?_eq_some_iff.1 Ra.out).1
        obtain ⟨kbx, kby, kbz, _, _, _⟩ := own3 Rb.out
        have kbl := (Array.getElem?_eq_some_iff.1 Rb.out).1
        obtain ⟨kcx, kcy, kcz, _, _, _⟩ := own3 Rc.out
        have kcl := (Array.getElem?_eq_some_iff.1 Rc.out).1
        obtain ⟨ksx, ksy, ksz, _, _, _⟩ := own3 Rs.out
        have ksl := (Array.getElem?_eq_some_iff.1 Rs.out).1
        obtain ⟨ktx, kty, ktz, _, _, _⟩ := own3 Rt.out
        have ktl := (Array.getElem?_eq_some_iff.1 Rt.out).1
        go_wp2_with fail
        refine (HX2.out _).mono ?_
        rintro e v6 ⟨rfl, hb6⟩
        clear kax kay kaz kal kbx kby kbz kbl kcx kcy kcz kcl ksx ksy ksz ksl ktx kty ktz ktl
        have Ra := Lib.hid ((hb6.block _ (Array.getElem?_eq_some_iff.1 (hOld v5 (.cells #[.int .i64 (X1), .int .i64 (X2), .int .i64 (X3)] 36) _ _ (Array.getElem?_eq_some_iff.1 Ra.out).1 Ra.out)).1).trans (hOld v5 (.cells #[.int .i64 (X1), .int .i64 (X2), .int .i64 (X3)] 36) _ _ (Array.getElem?_eq_some_iff.1 Ra.out).1 Ra.out))
        have Rb := Lib.hid ((hb6.block _ (Array.getElem?_eq_some_iff.1 (hOld v5 (.cells #[.int .i64 (X1), .int .i64 (X2), .int .i64 (X3)] 36) _ _ (Array.getElem?_eq_some_iff.1 Rb.out).1 Rb.out)).1).trans (hOld v5 (.cells #[.int .i64 (X1), .int .i64 (X2), .int .i64 (X3)] 36) _ _ (Array.getElem?_eq_some_iff.1 Rb.out).1 Rb.out))
        have Rc := Lib.hid ((hb6.block _ (Array.getElem?_eq_some_iff.1 (hOld v5 (.cells #[.int .i64 (X1), .int .i64 (X2), .int .i64 (X3)] 36) _ _ (Array.getElem?_eq_some_iff.1 Rc.out).1 Rc.out)).1).trans (hOld v5 (.cells #[.int .i64 (X1), .int .i64 (X2), .int .i64 (X3)] 36) _ _ (Array.getElem?_eq_some_iff.1 Rc.out).1 Rc.out))
        have Rs := Lib.hid ((hb6.block _ (Array.getElem?_eq_some_iff.1 (hOld v5 (.cells #[.int .i64 (X1), .int .i64 (X2), .int .i64 (X3)] 36) _ _ (Array.getElem?_eq_some_iff.1 Rs.out).1 Rs.out)).1).trans (hOld v5 (.cells #[.int .i64 (X1), .int .i64 (X2), .int .i64 (X3)] 36) _ _ (Array.getElem?_eq_some_iff.1 Rs.out).1 Rs.out))
        have Rt := Lib.hid ((hb6.block _ (Array.getElem?_eq_some_iff.1 (hOld v5 (.cells #[.int .i64 (X1), .int .i64 (X2), .int .i64 (X3)] 36) _ _ (Array.getElem?_eq_some_iff.1 Rt.out).1 Rt.out)).1).trans (hOld v5 (.cells #[.int .i64 (X1), .int .i64 (X2), .int .i64 (X3)] 36) _ _ (Array.getElem?_eq_some_iff.1 Rt.out).1 Rt.out))
        have Rx := Lib.hid ((hb6.block _ (Array.getElem?_eq_some_iff.1 (hNew v5 (.cells #[.int .i64 (X1), .int .i64 (X2), .int .i64 (X3)] 36) v5.heap.size rfl)).1).trans (hNew v5 (.cells #[.int .i64 (X1), .int .i64 (X2), .int .i64 (X3)] 36) v5.heap.size rfl))
        have HB := Lib.hid ((HB.out.alloc HB.out.size (.cells #[.int .i64 (X1), .int .i64 (X2), .int .i64 (X3)] 36)).trans (hb6.mono (HB.out.alloc HB.out.size (.cells #[.int .i64 (X1), .int .i64 (X2), .int .i64 (X3)] 36)).size))
        generalize v5.heap.size = gx at Rx ⊢
        clear hb6
        obtain ⟨kax, kay, kaz, _, _, _⟩ := own3 Ra.out
        have kal := (Array.getElem?_eq_some_iff.1 Ra.out).1
        obtain ⟨kbx, kby, kbz, _, _, _⟩ := own3 Rb.out
        have kbl := (Array.getElem?_eq_some_iff.1 Rb.out).1
        obtain ⟨kcx, kcy, kcz, _, _, _⟩ := own3 Rc.out
        have kcl := (Array.getElem?_eq_some_iff.1 Rc.out).1
        obtain ⟨ksx, ksy, ksz, _, _, _⟩ := own3 Rs.out
        have ksl := (Array.getElem?_eq_some_iff.1 Rs.out).1
        obtain ⟨ktx, kty, ktz, _, _, _⟩ := own3 Rt.out
        have ktl := (Array.getElem?_eq_some_iff.1 Rt.out).1
        obtain ⟨kxx, kxy, kxz, _, _, _⟩ := own3 Rx.out
        have kxl := (Array.getElem?_eq_some_iff.1 Rx.out).1
        go_wp2_with fail
        refine (HA2.out _).mono ?_
        rintro e v7 ⟨rfl, hb7⟩
        clear kax kay kaz kal kbx kby kbz kbl kcx kcy kcz kcl ksx ksy ksz ksl ktx kty ktz ktl kxx kxy kxz kxl
        have Ra := Lib.hid ((hb7.block _ (Array.getElem?_eq_some_iff.1 (hOld v6 (.cells #[.int .i64 (-X1), .int .i64 (-X2), .int .i64 (-X3)] 36) _ _ (Array.getElem?_eq_some_iff.1 Ra.out).1 Ra.out)).1).trans (hOld v6 (.cells #[.int .i64 (-X1), .int .i64 (-X2), .int .i64 (-X3)] 36) _ _ (Array.getElem?_eq_some_iff.1 Ra.out).1 Ra.out))
        have Rb := Lib.hid ((hb7.block _ (Array.getElem?_eq_some_iff.1 (hOld v6 (.cells #[.int .i64 (-X1), .int .i64 (-X2), .int .i64 (-X3)] 36) _ _ (Array.getElem?_eq_some_iff.1 Rb.out).1 Rb.out)).1).trans (hOld v6 (.cells #[.int .i64 (-X1), .int .i64 (-X2), .int .i64 (-X3)] 36) _ _ (Array.getElem?_eq_some_iff.1 Rb.out).1 Rb.out))
        have Rc := Lib.hid ((hb7.block _ (Array.getElem?_eq_some_iff.1 (hOld v6 (.cells #[.int .i64 (-X1), .int .i64 (-X2), .int .i64 (-X3)] 36) _ _ (Array.getElem?_eq_some_iff.1 Rc.out).1 Rc.out)).1).trans (hOld v6 (.cells #[.int .i64 (-X1), .int .i64 (-X2), .int .i64 (-X3)] 36) _ _ (Array.getElem?_eq_some_iff.1 Rc.out).1 Rc.out))
        have Rs := Lib.hid ((hb7.block _ (Array.getElem?_eq_some_iff.1 (hOld v6 (.cells #[.int .i64 (-X1), .int .i64 (-X2), .int .i64 (-X3)] 36) _ _ (Array.getElem?_eq_some_iff.1 Rs.out).1 Rs.out)).1).trans (hOld v6 (.cells #[.int .i64 (-X1), .int .i64 (-X2), .int .i64 (-X3)] 36) _ _ (Array.getElem?_eq_some_iff.1 Rs.out).1 Rs.out))
        have Rt := Lib.hid ((hb7.block _ (Array.getElem?_eq_some_iff.1 (hOld v6 (.cells #[.int .i64 (-X1), .int .i64 (-X2), .int .i64 (-X3)] 36) _ _ (Array.getElem?_eq_some_iff.1 Rt.out).1 Rt.out)).1).trans (hOld v6 (.cells #[.int .i64 (-X1), .int .i64 (-X2), .int .i64 (-X3)] 36) _ _ (Array.getElem?_eq_some_iff.1 Rt.out).1 Rt.out))
        have Rx := Lib.hid ((hb7.block _ (Array.getElem?_eq_some_iff.1 (hOld v6 (.cells #[.int .i64 (-X1), .int .i64 (-X2), .int .i64 (-X3)] 36) _ _ (Array.getElem?_eq_some_iff.1 Rx.out).1 Rx.out)).1).trans (hOld v6 (.cells #[.int .i64 (-X1), .int .i64 (-X2), .int .i64 (-X3)] 36) _ _ (Array.getElem?_eq_some_iff.1 Rx.out).1 Rx.out))
        have Ry := Lib.hid ((hb7.block _ (Array.getElem?_eq_some_iff.1 (hNew v6 (.cells #[.int .i64 (-X1), .int .i64 (-X2), .int .i64 (-X3)] 36) v6.heap.size rfl)).1).trans (hNew v6 (.cells #[.int .i64 (-X1), .int .i64 (-X2), .int .i64 (-X3)] 36) v6.heap.size rfl))
        have HB := Lib.hid ((HB.out.alloc HB.out.size (.cells #[.int .i64 (-X1), .int .i64 (-X2), .int .i64 (-X3)] 36)).trans (hb7.mono (HB.out.alloc HB.out.size (.cells #[.int .i64 (-X1), .int .i64 (-X2), .int .i64 (-X3)] 36)).size))
        generalize v6.heap.size = gy at Ry ⊢
        clear hb7
        obtain ⟨kax, kay, kaz, _, _, _⟩ := own3 Ra.out
        have kal := (Array.getElem?_eq_some_iff.1 Ra.out).1
        obtain ⟨kbx, kby, kbz, _, _, _⟩ := own3 Rb.out
        have kbl := (Array.getElem?_eq_some_iff.1 Rb.out).1
        obtain ⟨kcx, kcy, kcz, _, _, _⟩ := own3 Rc.out
        have kcl := (Array.getElem?_eq_some_iff.1 Rc.out).1
        obtain ⟨ksx, ksy, ksz, _, _, _⟩ := own3 Rs.out
        have ksl := (Array.getElem?_eq_some_iff.1 Rs.out).1
        obtain ⟨ktx, kty, ktz, _, _, _⟩ := own3 Rt.out
        have ktl := (Array.getElem?_eq_some_iff.1 Rt.out).1
        obtain ⟨kxx, kxy, kxz, _, _, _⟩ := own3 Rx.out
        have kxl := (Array.getElem?_eq_some_iff.1 Rx.out).1
        obtain ⟨kyx, kyy, kyz, _, _, _⟩ := own3 Ry.out
        have kyl := (Array.getElem?_eq_some_iff.1 Ry.out).1
        go_wp2_with fail
        refine (HA3.out _).mono ?_
        rintro e v8 ⟨rfl, hb8⟩
        clear kax kay kaz kal kbx kby kbz kbl kcx kcy kcz kcl ksx ksy ksz ksl ktx kty ktz ktl kxx kxy kxz kxl kyx kyy kyz kyl
        have Ra := Lib.hid ((hb8.block _ (Array.getElem?_eq_some_iff.1 (hOld v7 (.cells #[.int .i64 (P1), .int .i64 (P2), .int .i64 (P3)] 23) _ _ (Array.getElem?_eq_some_iff.1 Ra.out).1 Ra.out)).1).trans (hOld v7 (.cells #[.int .i64 (P1), .int .i64 (P2), .int .i64 (P3)] 23) _ _ (Array.getElem?_eq_some_iff.1 Ra.out).1 Ra.out))
        have Rb := Lib.hid ((hb8.block _ (Array.getElem?_eq_some_iff.1 (hOld v7 (.cells #[.int .i64 (P1), .int .i64 (P2), .int .i64 (P3)] 23) _ _ (Array.getElem?_eq_some_iff.1 Rb.out).1 Rb.out)).1).trans (hOld v7 (.cells #[.int .i64 (P1), .int .i64 (P2), .int .i64 (P3)] 23) _ _ (Array.getElem?_eq_some_iff.1 Rb.out).1 Rb.out))
        have Rc := Lib.hid ((hb8.block _ (Array.getElem?_eq_some_iff.1 (hOld v7 (.cells #[.int .i64 (P1), .int .i64 (P2), .int .i64 (P3)] 23) _ _ (Array.getElem?_eq_some_iff.1 Rc.out).1 Rc.out)).1).trans (hOld v7 (.cells #[.int .i64 (P1), .int .i64 (P2), .int .i64 (P3)] 23) _ _ (Array.getElem?_eq_some_iff.1 Rc.out).1 Rc.out))
        have Rs := Lib.hid ((hb8.block _ (Array.getElem?_eq_some_iff.1 (hOld v7 (.cells #[.int .i64 (P1), .int .i64 (P2), .int .i64 (P3)] 23) _ _ (Array.getElem?_eq_some_iff.1 Rs.out).1 Rs.out)).1).trans (hOld v7 (.cells #[.int .i64 (P1), .int .i64 (P2), .int .i64 (P3)] 23) _ _ (Array.getElem?_eq_some_iff.1 Rs.out).1 Rs.out))
        have Rt := Lib.hid ((hb8.block _ (Array.getElem?_eq_some_iff.1 (hOld v7 (.cells #[.int .i64 (P1), .int .i64 (P2), .int .i64 (P3)] 23) _ _ (Array.getElem?_eq_some_iff.1 Rt.out).1 Rt.out)).1).trans (hOld v7 (.cells #[.int .i64 (P1), .int .i64 (P2), .int .i64 (P3)] 23) _ _ (Array.getElem?_eq_some_iff.1 Rt.out).1 Rt.out))
        have Rx := Lib.hid ((hb8.block _ (Array.getElem?_eq_some_iff.1 (hOld v7 (.cells #[.int .i64 (P1), .int .i64 (P2), .int .i64 (P3)] 23) _ _ (Array.getElem?_eq_some_iff.1 Rx.out).1 Rx.out)).1).trans (hOld v7 (.cells #[.int .i64 (P1), .int .i64 (P2), .int .i64 (P3)] 23) _ _ (Array.getElem?_eq_some_iff.1 Rx.out).1 Rx.out))
        have Ry := Lib.hid ((hb8.block _ (Array.getElem?_eq_some_iff.1 (hOld v7 (.cells #[.int .i64 (P1), .int .i64 (P2), .int .i64 (P3)] 23) _ _ (Array.getElem?_eq_some_iff.1 Ry.out).1 Ry.out)).1).trans (hOld v7 (.cells #[.int .i64 (P1), .int .i64 (P2), .int .i64 (P3)] 23) _ _ (Array.getElem?_eq_some_iff.1 Ry.out).1 Ry.out))
        have Rp := Lib.hid ((hb8.block _ (Array.getElem?_eq_some_iff.1 (hNew v7 (.cells #[.int .i64 (P1), .int .i64 (P2), .int .i64 (P3)] 23) v7.heap.size rfl)).1).trans (hNew v7 (.cells #[.int .i64 (P1), .int .i64 (P2), .int .i64 (P3)] 23) v7.heap.size rfl))
        have HB := Lib.hid ((HB.out.alloc HB.out.size (.cells #[.int .i64 (P1), .int .i64 (P2), .int .i64 (P3)] 23)).trans (hb8.mono (HB.out.alloc HB.out.size (.cells #[.int .i64 (P1), .int .i64 (P2), .int .i64 (P3)] 23)).size))
        generalize v7.heap.size = gp at Rp ⊢
        clear hb8
        obtain ⟨kax, kay, kaz, _, _, _⟩ := own3 Ra.out
        have kal := (Array.getElem?_eq_some_iff.1 Ra.out).1
        obtain ⟨kbx, kby, kbz, _, _, _⟩ := own3 Rb.out
        have kbl := (Array.getElem?_eq_some_iff.1 Rb.out).1
        obtain ⟨kcx, kcy, kcz, _, _, _⟩ := own3 Rc.out
        have kcl := (Array.getElem?_eq_some_iff.1 Rc.out).1
        obtain ⟨ksx, ksy, ksz, _, _, _⟩ := own3 Rs.out
        have ksl := (Array.getElem?_eq_some_iff.1 Rs.out).1
        obtain ⟨ktx, kty, ktz, _, _, _⟩ := own3 Rt.out
        have ktl := (Array.getElem?_eq_some_iff.1 Rt.out).1
        obtain ⟨kxx, kxy, kxz, _, _, _⟩ := own3 Rx.out
        have kxl := (Array.getElem?_eq_some_iff.1 Rx.out).1
        obtain ⟨kyx, kyy, kyz, _, _, _⟩ := own3 Ry.out
        have kyl := (Array.getElem?_eq_some_iff.1 Ry.out).1
        obtain ⟨kpx, kpy, kpz, _, _, _⟩ := own3 Rp.out
        have kpl := (Array.getElem?_eq_some_iff.1 Rp.out).1
        go_wp2_with fail
        go_ret
        exact ⟨rfl, HB.out.alloc HB.out.size _⟩
      · rcases res_cases (b1, b2, b3) (c1, c2, c3) with e3 | ⟨e3, r3, i3, ib⟩
        · rw [e2] at HA2
          rw [e3] at HA3
          generalize resV (okV (a1, a2, a3) (c1, c2, c3)) (addV (a1, a2, a3) (c1, c2, c3)) = P at HA2 r2
          generalize resV (okV (b1, b2, b3) (c1, c2, c3)) (addV (b1, b2, b3) (c1, c2, c3)) = Q at HA3
          obtain ⟨P1, P2, P3⟩ := P
          obtain ⟨Q1, Q2, Q3⟩ := Q
          clear e2 e3 r2 i2 ia
          go_wp2_with fail
          refine (HA1.out _).mono ?_
          rintro e v1 ⟨rfl, hb1⟩
          clear kax kay kaz kal kbx kby kbz kbl kcx kcy kcz kcl
          have Ra := Lib.hid ((hb1.block _ (Array.getElem?_eq_some_iff.1 Ra.out).1).trans Ra.out)
          have Rb := Lib.hid ((hb1.block _ (Array.getElem?_eq_some_iff.1 Rb.out).1).trans Rb.out)
          have Rc := Lib.hid ((hb1.block _ (Array.getElem?_eq_some_iff.1 Rc.out).1).trans Rc.out)
          have HB := Lib.hid (HB.out.trans (hb1.mono HB.out.size))
          clear hb1
          obtain ⟨kax, kay, kaz, _, _, _⟩ := own3 Ra.out
          have kal := (Array.getElem?_eq_some_iff.1 Ra.out).1
          obtain ⟨kbx, kby, kbz, _, _, _⟩ := own3 Rb.out
          have kbl := (Array.getElem?_eq_some_iff.1 Rb.out).1
          obtain ⟨kcx, kcy, kcz, _, _, _⟩ := own3 Rc.out
          have kcl := (Array.getElem?_eq_some_iff.1 Rc.out).1
          go_wp2_with fail
          refine (HS0.out _).mono ?_
          rintro e v2 ⟨rfl, hb2⟩
          clear kax kay kaz kal kbx kby kbz kbl kcx kcy kcz kcl
          have Ra := Lib.hid ((hb2.block _ (Array.getElem?_eq_some_iff.1 (hOld v1 (.cells #[.int .i64 (s1), .int .i64 (s2), .int .i64 (s3)] 23) _ _ (Array.getElem?_eq_some_iff.1 Ra.out).1 Ra.out)).1).trans (hOld v1 (.cells #[.int .i64 (s1), .int .i64 (s2), .int .i64 (s3)] 23) _ _ (Array.getElem?_eq_some_iff.1 Ra.out).1 Ra.out))
          have Rb := Lib.hid ((hb2.block _ (Array.getElem?_eq_some_iff.1 (hOld v1 (.cells #[.int .i64 (s1), .int .i64 (s2), .int .i64 (s3)] 23) _ _ (Array.getElem?_eq_some_iff.1 Rb.out).1 Rb.out)).1).trans (hOld v1 (.cells #[.int .i64 (s1), .int .i64 (s2), .int .i64 (s3)] 23) _ _ (Array.getElem?_eq_some_iff.1 Rb.out).1 Rb.out))
          have Rc := Lib.hid ((hb2.block _ (Array.getElem?_eq_some_iff.1 (hOld v1 (.cells #[.int .i64 (s1), .int .i64 (s2), .int .i64 (s3)] 23) _ _ (Array.getElem?_eq_some_iff.1 Rc.out).1 Rc.out)).1).trans (hOld v1 (.cells #[.int .i64 (s1), .int .i64 (s2), .int .i64 (s3)] 23) _ _ (Array.getElem?_eq_some_iff.1 Rc.out).1 Rc.out))
          have Rs := Lib.hid ((hb2.block _ (Array.getElem?_eq_some_iff.1 (hNew v1 (.cells #[.int .i64 (s1), .int .i64 (s2), .int .i64 (s3)] 23) v1.heap.size rfl)).1).trans (hNew v1 (.cells #[.int .i64 (s1), .int .i64 (s2), .int .i64 (s3)] 23) v1.heap.size rfl))
          have HB := Lib.hid ((HB.out.alloc HB.out.size (.cells #[.int .i64 (s1), .int .i64 (s2), .int .i64 (s3)] 23)).trans (hb2.mono (HB.out.alloc HB.out.size (.cells #[.int .i64 (s1), .int .i64 (s2), .int .i64 (s3)] 23)).size))
          generalize v1.heap.size = gs at Rs ⊢
          clear hb2
          obtain ⟨kax, kay, kaz, _, _, _⟩ := own3 Ra.out
          have kal := (Array.getElem?_eq_some_iff.1 Ra.out).1
          obtain ⟨kbx, kby, kbz, _, _, _⟩ := own3 Rb.out
          have kbl := (Array.getElem?_eq_some_iff.1 Rb.out).1
          obtain ⟨kcx, kcy, kcz, _, _, _⟩ := own3 Rc.out
          have kcl := (Array.getElem?_eq_some_iff.1 Rc.out).1
          obtain ⟨ksx, ksy, ksz, _, _, _⟩ := own3 Rs.out
          have ksl := (Array.getElem?_eq_some_iff.1 Rs.out).1
          go_wp2_with fail
          refine (HD1.out _).mono ?_
          rintro e v3 ⟨rfl, hb3⟩
          clear kax kay kaz kal kbx kby kbz kbl kcx kcy kcz kcl ksx ksy ksz ksl
          have Ra := Lib.hid ((hb3.block _ (Array.getElem?_eq_some_iff.1 (hOld v2 (.cells #[.int .i64 (a1), .int .i64 (a2), .int .i64 (a3)] 23) _ _ (Array.getElem?_eq_some_iff.1 Ra.out).1 Ra.out)).1).trans (hOld v2 (.cells #[.int .i64 (a1), .int .i64 (a2), .int .i64 (a3)] 23) _ _ (Array.getElem?_eq_some_iff.1 Ra.out).1 Ra.out))
          have Rb := Lib.hid ((hb3.block _ (Array.getElem?_eq_some_iff.1 (hOld v2 (.cells #[.int .i64 (a1), .int .i64 (a2), .int .i64 (a3)] 23) _ _ (Array.getElem?_eq_some_iff.1 Rb.out).1 Rb.out)).1).trans (hOld v2 (.cells #[.int .i64 (a1), .int .i64 (a2), .int .i64 (a3)] 23) _ _ (Array.getElem?_eq_some_iff.1 Rb.out).1 Rb.out))
          have Rc := Lib.hid ((hb3.block _ (Array.getElem?_eq_some_iff.1 (hOld v2 (.cells #[.int .i64 (a1), .int .i64 (a2), .int .i64 (a3)] 23) _ _ (Array.getElem?_eq_some_iff.1 Rc.out).1 Rc.out)).1).trans (hOld v2 (.cells #[.int .i64 (a1), .int .i64 (a2), .int .i64 (a3)] 23) _ _ (Array.getElem?_eq_some_iff.1 Rc.out).1 Rc.out))
          have Rs := Lib.hid ((hb3.block _ (Array.getElem?_eq_some_iff.1 (hOld v2 (.cells #[.int .i64 (a1), .int .i64 (a2), .int .i64 (a3)] 23) _ _ (Array.getElem?_eq_some_iff.1 Rs.out).1 Rs.out)).1).trans (hOld v2 (.cells #[.int .i64 (a1), .int .i64 (a2), .int .i64 (a3)] 23) _ _ (Array.getElem?_eq_some_iff.1 Rs.out).1 Rs.out))
          have Rt := Lib.hid ((hb3.block _ (Array.getElem?_eq_some_iff.1 (hNew v2 (.cells #[.int .i64 (a1), .int .i64 (a2), .int .i64 (a3)] 23) v2.heap.size rfl)).1).trans (hNew v2 (.cells #[.int .i64 (a1), .int .i64 (a2), .int .i64 (a3)] 23) v2.heap.size rfl))
          have HB := Lib.hid ((HB.out.alloc HB.out.size (.cells #[.int .i64 (a1), .int .i64 (a2), .int .i64 (a3)] 23)).trans (hb3.mono (HB.out.alloc HB.out.size (.cells #[.int .i64 (a1), .int .i64 (a2), .int .i64 (a3)] 23)).size))
          generalize v2.heap.size = gt at Rt ⊢
          clear hb3
          obtain ⟨kax, kay, kaz, _, _, _⟩ := own3 Ra.out
          have kal := (Array.getElem?_eq_some_iff.1 Ra.out).1
          obtain ⟨kbx, kby, kbz, _, _, _⟩ := own3 Rb.out
          have kbl := (Array.getElem?_eq_some_iff.1 Rb.out).1
          obtain ⟨kcx, kcy, kcz, _, _, _⟩ := own3 Rc.out
          have kcl := (Array.getElem?_eq_some_iff.1 Rc.out).1
          obtain ⟨ksx, ksy, ksz, _, _, _⟩ := own3 Rs.out
          have ksl := (Array.getElem?_eq_some_iff.1 Rs.out).1
          obtain ⟨ktx, kty, ktz, _, _, _⟩ := own3 Rt.out
          have ktl := (Array.getElem?_eq_some_iff.1 Rt.out).1
          go_wp2_with fail
          refine (HD2.out _).mono ?_
          rintro e v4 ⟨rfl, hb4⟩
          clear kax kay kaz kal kbx kby kbz kbl kcx kcy kcz kcl ksx ksy ksz ksl ktx kty ktz ktl
          have Ra := Lib.hid ((hb4.block _ (Array.getElem?_eq_some_iff.1 Ra.out).1).trans Ra.out)
          have Rb := Lib.hid ((hb4.block _ (Array.getElem?_eq_some_iff.1 Rb.out).1).trans Rb.out)
          have Rc := Lib.hid ((hb4.block _ (Array.getElem?_eq_some_iff.1 Rc.out).1).trans Rc.out)
          have Rs := Lib.hid ((hb4.block _ (Array.getElem?_eq_some_iff.1 Rs.out).1).trans Rs.out)
          have Rt := Lib.hid ((hb4.block _ (Array.getElem?_eq_some_iff.1 Rt.out).1).trans Rt.out)
          have HB := Lib.hid (HB.out.trans (hb4.mono HB.out.size))
          clear hb4
          obtain ⟨kax, kay, kaz, _, _, _⟩ := own3 Ra.out
          have kal := (Array.getElem?_eq_some_iff.1 Ra.out).1
          obtain ⟨kbx, kby, kbz, _, _, _⟩ := own3 Rb.out
          have kbl := (Array.getElem?_eq_some_iff.1 Rb.out).1
          obtain ⟨kcx, kcy, kcz, _, _, _⟩ := own3 Rc.out
          have kcl := (Array.getElem?_eq_some_iff.1 Rc.out).1
          obtain ⟨ksx, ksy, ksz, _, _, _⟩ := own3 Rs.out
          have ksl := (Array.getElem?_eq_some_iff.1 Rs.out).1
          obtain ⟨ktx, kty, ktz, _, _, _⟩ := own3 Rt.out
          have ktl := (Array.getElem?_eq_some_iff.1 Rt.out).1
          go_wp2_with fail
          refine (HX1.out _).mono ?_
          rintro e v5 ⟨rfl, hb5⟩
          clear kax kay kaz kal kbx kby kbz kbl kcx kcy kcz kcl ksx ksy ksz ksl ktx kty ktz ktl
          have Ra := Lib.hid ((hb5.block _ (Array.getElem?_eq_some_iff.1 Ra.out).1).trans Ra.out)
          have Rb := Lib.hid ((hb5.block _ (Array.getElem?_eq_some_iff.1 Rb.out).1).trans Rb.out)
          have Rc := Lib.hid ((hb5.block _ (Array.getElem?_eq_some_iff.1 Rc.out).1).trans Rc.out)
          have Rs := Lib.hid ((hb5.block _ (Array.getElem?_eq_some_iff.1 Rs.out).1).trans Rs.out)
          have Rt := Lib.hid ((hb5.block _ (Array.getElem?_eq_some_iff.1 Rt.out).1).trans Rt.out)
          have HB := Lib.hid (HB.out.trans (hb5.mono HB.out.size))
          clear hb5
          obtain ⟨kax, kay, kaz, _, _, _⟩ := own3 Ra.out
          have kal := (Array.getElem?_eq_some_iff.1 Ra.out).1
          obtain ⟨kbx, kby, kbz, _, _, _⟩ := own3 Rb.out
          have kbl := (Array.getElem?_eq_some_iff.1 Rb.out).1
          obtain ⟨kcx, kcy, kcz, _, _, _⟩ := own3 Rc.out
          have kcl := (Array.getElem?_eq_some_iff.1 Rc.out).1
          obtain ⟨ksx, ksy, ksz, _, _, _⟩ := own3 Rs.out
          have ksl := (Array.getElem?_eq_some_iff.1 Rs.out).1
          obtain ⟨ktx, kty, ktz, _, _, _⟩ := own3 Rt.out
          have ktl := (Array.getElem?_eq_some_iff.1 Rt.out).1
          go_wp2_with fail
          refine (HX2.out _).mono ?_
          rintro e v6 ⟨rfl, hb6⟩
          clear kax kay kaz kal kbx kby kbz kbl kcx kcy kcz kcl ksx ksy ksz ksl ktx kty ktz ktl
          have Ra := Lib.hid ((hb6.block _ (Array.getElem?_eq_some_iff.1 (hOld v5 (.cells #[.int .i64 (X1), .int .i64 (X2), .int .i64 (X3)] 36) _ _ (Array.getElem?_eq_some_iff.1 Ra.out).1 Ra.out)).1).trans (hOld v5 (.cells #[.int .i64 (X1), .int .i64 (X2), .int .i64 (X3)] 36) _ _ (Array.getElem?_eq_some_iff.1 Ra.out).1 Ra.out))
          have Rb := Lib.hid ((hb6.block _ (Array.getElem?_eq_some_iff.1 (hOld v5 (.cells #[.int .i64 (X1), .int .i64 (X2), .int .i64 (X3)] 36) _ _ (Array.getElem?_eq_some_iff.1 Rb.out).1 Rb.out)).1).trans (hOld v5 (.cells #[.int .i64 (X1), .int .i64 (X2), .int .i64 (X3)] 36) _ _ (Array.getElem?_eq_some_iff.1 Rb.out).1 Rb.out))
          have Rc := Lib.hid ((hb6.block _ (Array.getElem?_eq_some_iff.1 (hOld v5 (.cells #[.int .i64 (X1), .int .i64 (X2), .int .i64 (X3)] 36) _ _ (Array.getElem?_eq_some_iff.1 Rc.out).1 Rc.out)).1).trans (hOld v5 (.cells #[.int .i64 (X1), .int .i64 (X2), .int .i64 (X3)] 36) _ _ (Array.getElem?_eq_some_iff.1 Rc.out).1 Rc.out))
          have Rs := Lib.hid ((hb6.block _ (Array.getElem?_eq_some_iff.1 (hOld v5 (.cells #[.int .i64 (X1), .int .i64 (X2), .int .i64 (X3)] 36) _ _ (Array.getElem?_eq_some_iff.1 Rs.out).1 Rs.out)).1).trans (hOld v5 (.cells #[.int .i64 (X1), .int .i64 (X2), .int .i64 (X3)] 36) _ _ (Array.getElem?_eq_some_iff.1 Rs.out).1 Rs.out))
          have Rt := Lib.hid ((hb6.block _ (Array.getElem?_eq_some_iff.1 (hOld v5 (.cells #[.int .i64 (X1), .int .i64 (X2), .int .i64 (X3)] 36) _ _ (Array.getElem?_eq_some_iff.1 Rt.out).1 Rt.out)).1).trans (hOld v5 (.cells #[.int .i64 (X1), .int .i64 (X2), .int .i64 (X3)] 36) _ _ (Array.getElem?_eq_some_iff.1 Rt.out).1 Rt.out))
          have Rx := Lib.hid ((hb6.block _ (Array.getElem?_eq_some_iff.1 (hNew v5 (.cells #[.int .i64 (X1), .int .i64 (X2), .int .i64 (X3)] 36) v5.heap.size rfl)).1).trans (hNew v5 (.cells #[.int .i64 (X1), .int .i64 (X2), .int .i64 (X3)] 36) v5.heap.size rfl))
          have HB := Lib.hid ((HB.out.alloc HB.out.size (.cells #[.int .i64 (X1), .int .i64 (X2), .int .i64 (X3)] 36)).trans (hb6.mono (HB.out.alloc HB.out.size (.cells #[.int .i64 (X1), .int .i64 (X2), .int .i64 (X3)] 36)).size))
          generalize v5.heap.size = gx at Rx ⊢
          clear hb6
          obtain ⟨kax, kay, kaz, _, _, _⟩ := own3 Ra.out
          have kal := (Array.getElem?_eq_some_iff.1 Ra.out).1
          obtain ⟨kbx, kby, kbz, _, _, _⟩ := own3 Rb.out
          have kbl := (Array.getElem?_eq_some_iff.1 Rb.out).1
          obtain ⟨kcx, kcy, kcz, _, _, _⟩ := own3 Rc.out
          have kcl := (Array.getElem?_eq_some_iff.1 Rc.out).1
          obtain ⟨ksx, ksy, ksz, _, _, _⟩ := own3 Rs.out
          have ksl := (Array.getElem?_eq_some_iff.1 Rs.out).1
          obtain ⟨ktx, kty, ktz, _, _, _⟩ := own3 Rt.out
          have ktl := (Array.getElem?_eq_some_iff.1 Rt.out).1
          obtain ⟨kxx, kxy, kxz, _, _, _⟩ := own3 Rx.out
          have kxl := (Array.getElem?_eq_some_iff.1 Rx.out).1
          go_wp2_with fail
          refine (HA2.out _).mono ?_
          rintro e v7 ⟨rfl, hb7⟩
          clear kax kay kaz kal kbx kby kbz kbl kcx kcy kcz kcl ksx ksy ksz ksl ktx kty ktz ktl kxx kxy kxz kxl
          have Ra := Lib.hid ((hb7.block _ (Array.getElem?_eq_some_iff.1 (hOld v6 (.cells #[.int .i64 (-X1), .int .i64 (-X2), .int .i64 (-X3)] 36) _ _ (Array.getElem?_eq_some_iff.1 Ra.out).1 Ra.out)).1).trans (hOld v6 (.cells #[.int .i64 (-X1), .int .i64 (-X2), .int .i64 (-X3)] 36) _ _ (Array.getElem?_eq_some_iff.1 Ra.out).1 Ra.out))
          have Rb := Lib.hid ((hb7.block _ (Array.getElem?_eq_some_iff.1 (hOld v6 (.cells #[.int .i64 (-X1), .int .i64 (-X2), .int .i64 (-X3)] 36) _ _ (Array.getElem?_eq_some_iff.1 Rb.out).1 Rb.out)).1).trans (hOld v6 (.cells #[.int .i64 (-X1), .int .i64 (-X2), .int .i64 (-X3)] 36) _ _ (Array.getElem?_eq_some_iff.1 Rb.out).1 Rb.out))
          have Rc := Lib.hid ((hb7.block _ (Array.getElem?_eq_some_iff.1 (hOld v6 (.cells #[.int .i64 (-X1), .int .i64 (-X2), .int .i64 (-X3)] 36) _ _ (Array.getElem?_eq_some_iff.1 Rc.out).1 Rc.out)).1).trans (hOld v6 (.cells #[.int .i64 (-X1), .int .i64 (-X2), .int .i64 (-X3)] 36) _ _ (Array.getElem?_eq_some_iff.1 Rc.out).1 Rc.out))
          have Rs := Lib.hid ((hb7.block _ (Array.getElem?_eq_some_iff.1 (hOld v6 (.cells #[.int .i64 (-X1), .int .i64 (-X2), .int .i64 (-X3)] 36) _ _ (Array.getElem?_eq_some_iff.1 Rs.out).1 Rs.out)).1).trans (hOld v6 (.cells #[.int .i64 (-X1), .int .i64 (-X2), .int .i64 (-X3)] 36) _ _ (Array.getElem?_eq_some_iff.1 Rs.out).1 Rs.out))
          have Rt := Lib.hid ((hb7.block _ (Array.getElem?_eq_some_iff.1 (hOld v6 (.cells #[.int .i64 (-X1), .int .i64 (-X2), .int .i64 (-X3)] 36) _ _ (Array.getElem?_eq_some_iff.1 Rt.out).1 Rt.out)).1).trans (hOld v6 (.cells #[.int .i64 (-X1), .int .i64 (-X2), .int .i64 (-X3)] 36) _ _ (Array.getElem?_eq_some_iff.1 Rt.out).1 Rt.out))
          have Rx := Lib.hid ((hb7.block _ (Array.getElem?_eq_some_iff.1 (hOld v6 (.cells #[.int .i64 (-X1), .int .i64 (-X2), .int .i64 (-X3)] 36) _ _ (Array.getElem?_eq_some_iff.1 Rx.out).1 Rx.out)).1).trans (hOld v6 (.cells #[.int .i64 (-X1), .int .i64 (-X2), .int .i64 (-X3)] 36) _ _ (Array.getElem?_eq_some_iff.1 Rx.out).1 Rx.out))
          have Ry := Lib.hid ((hb7.block _ (Array.getElem?_eq_some_iff.1 (hNew v6 (.cells #[.int .i64 (-X1), .int .i64 (-X2), .int .i64 (-X3)] 36) v6.heap.size rfl)).1).trans (hNew v6 (.cells #[.int .i64 (-X1), .int .i64 (-X2), .int .i64 (-X3)] 36) v6.heap.size rfl))
          have HB := Lib.hid ((HB.out.alloc HB.out.size (.cells #[.int .i64 (-X1), .int .i64 (-X2), .int .i64 (-X3)] 36)).trans (hb7.mono (HB.out.alloc HB.out.size (.cells #[.int .i64 (-X1), .int .i64 (-X2), .int .i64 (-X3)] 36)).size))
          generalize v6.heap.size = gy at Ry ⊢
          clear hb7
          obtain ⟨kax, kay, kaz, _, _, _⟩ := own3 Ra.out
          have kal := (Array.getElem?_eq_some_iff.1 Ra.out).1
          obtain ⟨kbx, kby, kbz, _, _, _⟩ := own3 Rb.out
          have kbl := (Array.getElem?_eq_some_iff.1 Rb.out).1
          obtain ⟨kcx, kcy, kcz, _, _, _⟩ := own3 Rc.out
          have kcl := (Array.getElem?_eq_some_iff.1 Rc.out).1
          obtain ⟨ksx, ksy, ksz, _, _, _⟩ := own3 Rs.out
          have ksl := (Array.getElem?_eq_some_iff.1 Rs.out).1
          obtain ⟨ktx, kty, ktz, _, _, _⟩ := own3 Rt.out
          have ktl := (Array.getElem?_eq_some_iff.1 Rt.out).1
          obtain ⟨kxx, kxy, kxz, _, _, _⟩ := own3 Rx.out
          have kxl := (Array.getElem?_eq_some_iff.1 Rx.out).1
          obtain ⟨kyx, kyy, kyz, _, _, _⟩ := own3 Ry.out
          have kyl := (Array.getElem?_eq_some_iff.1 Ry.out).1
          go_wp2_with fail
          refine (HA3.out _).mono ?_
          rintro e v8 ⟨rfl, hb8⟩
          clear kax kay kaz kal kbx kby kbz kbl kcx kcy kcz kcl ksx ksy ksz ksl ktx kty ktz ktl kxx kxy kxz kxl kyx kyy kyz kyl
          have Ra := Lib.hid ((hb8.block _ (Array.getElem?_eq_some_iff.1 (hOld v7 (.cells #[.int .i64 (P1), .int .i64 (P2), .int .i64 (P3)] 23) _ _ (Array.getElem?_eq_some_iff.1 Ra.out).1 Ra.out)).1).trans (hOld v7 (.cells #[.int .i64 (P1), .int .i64 (P2), .int .i64 (P3)] 23) _ _ (Array.getElem?_eq_some_iff.1 Ra.out).1 Ra.out))
          have Rb := Lib.hid ((hb8.block _ (Array.getElem?_eq_some_iff.1 (hOld v7 (.cells #[.int .i64 (P1), .int .i64 (P2), .int .i64 (P3)] 23) _ _ (Array.getElem?_eq_some_iff.1 Rb.out).1 Rb.out)).1).trans (hOld v7 (.cells #[.int .i64 (P1), .int .i64 (P2), .int .i64 (P3)] 23) _ _ (Array.getElem?_eq_some_iff.1 Rb.out).1 Rb.out))
          have Rc := Lib.hid ((hb8.block _ (Array.getElem?_eq_some_iff.1 (hOld v7 (.cells #[.int .i64 (P1), .int .i64 (P2), .int .i64 (P3)] 23) _ _ (Array.getElem?_eq_some_iff.1 Rc.out).1 Rc.out)).1).trans (hOld v7 (.cells #[.int .i64 (P1), .int .i64 (P2), .int .i64 (P3)] 23) _ _ (Array.getElem?_eq_some_iff.1 Rc.out).1 Rc.out))
          have Rs := Lib.hid ((hb8.block _ (Array.getElem?_eq_some_iff.1 (hOld v7 (.cells #[.int .i64 (P1), .int .i64 (P2), .int .i64 (P3)] 23) _ _ (Array.getElem?_eq_some_iff.1 Rs.out).1 Rs.out)).1).trans (hOld v7 (.cells #[.int .i64 (P1), .int .i64 (P2), .int .i64 (P3)] 23) _ _ (Array.getElem?_eq_some_iff.1 Rs.out).1 Rs.out))
          have Rt := Lib.hid ((hb8.block _ (Array.getElem?_eq_some_iff.1 (hOld v7 (.cells #[.int .i64 (P1), .int .i64 (P2), .int .i64 (P3)] 23) _ _ (Array.getElem?_eq_some_iff.1 Rt.out).1 Rt.out)).1).trans (hOld v7 (.cells #[.int .i64 (P1), .int .i64 (P2), .int .i64 (P3)] 23) _ _ (Array.getElem?_eq_some_iff.1 Rt.out).1 Rt.out))
          have Rx := Lib.hid ((hb8.block _ (Array.getElem?_eq_some_iff.1 (hOld v7 (.cells #[.int .i64 (P1), .int .i64 (P2), .int .i64 (P3)] 23) _ _ (Array.getElem?_eq_some_iff.1 Rx.out).1 Rx.out)).1).trans (hOld v7 (.cells #[.int .i64 (P1), .int .i64 (P2), .int .i64 (P3)] 23) _ _ (Array.getElem?_eq_some_iff.1 Rx.out).1 Rx.out))
          have Ry := Lib.hid ((hb8.block _ (Array.getElem?_eq_some_iff.1 (hOld v7 (.cells #[.int .i64 (P1), .int .i64 (P2), .int .i64 (P3)] 23) _ _ (Array.getElem?_eq_some_iff.1 Ry.out).1 Ry.out)).1).trans (hOld v7 (.cells #[.int .i64 (P1), .int .i64 (P2), .int .i64 (P3)] 23) _ _ (Array.getElem?_eq_some_iff.1 Ry.out).1 Ry.out))
          have Rp := Lib.hid ((hb8.block _ (Array.getElem?_eq_some_iff.1 (hNew v7 (.cells #[.int .i64 (P1), .int .i64 (P2), .int .i64 (P3)] 23) v7.heap.size rfl)).1).trans (hNew v7 (.cells #[.int .i64 (P1), .int .i64 (P2), .int .i64 (P3)] 23) v7.heap.size rfl))
          have HB := Lib.hid ((HB.out.alloc HB.out.size (.cells #[.int .i64 (P1), .int .i64 (P2), .int .i64 (P3)] 23)).trans (hb8.mono (HB.out.alloc HB.out.size (.cells #[.int .i64 (P1), .int .i64 (P2), .int .i64 (P3)] 23)).size))
          generalize v7.heap.size = gp at Rp ⊢
          clear hb8
          obtain ⟨kax, kay, kaz, _, _, _⟩ := own3 Ra.out
          have kal := (Array.getElem?_eq_some_iff.1 Ra.out).1
          obtain ⟨kbx, kby, kbz, _, _, _⟩ := own3 Rb.out
          have kbl := (Array.getElem?_eq_some_iff.1 Rb.out).1
          obtain ⟨kcx, kcy, kcz, _, _, _⟩ := own3 Rc.out
          have kcl := (Array.getElem?_eq_some_iff.1 Rc.out).1
          obtain ⟨ksx, ksy, ksz, _, _, _⟩ := own3 Rs.out
          have ksl := (Array.getElem?_eq_some_iff.1 Rs.out).1
          obtain ⟨ktx, kty, ktz, _, _, _⟩ := own3 Rt.out
          have ktl := (Array.getElem?_eq_some_iff.1 Rt.out).1
          obtain ⟨kxx, kxy, kxz, _, _, _⟩ := own3 Rx.out
          have kxl := (Array.getElem?_eq_some_iff.1 Rx.out).1
          obtain ⟨kyx, kyy, kyz, _, _, _⟩ := own3 Ry.out
          have kyl := (Array.getElem?_eq_some_iff.1 Ry.out).1
          obtain ⟨kpx, kpy, kpz, _, _, _⟩ := own3 Rp.out
          have kpl := (Array.getElem?_eq_some_iff.1 Rp.out).1
          go_wp2_with fail
          go_ret
          exact ⟨rfl, HB.out.alloc HB.out.size _⟩
        · rw [e2, r2] at HA2
          rw [e3, r3] at HA3
          have HS2 := Lib.hid (fun W => distP_any (addV (a1, a2, a3) (c1, c2, c3)) (addV (b1, b2, b3) (c1, c2, c3)) W)
          rw [show okV (addV (a1, a2, a3) (c1, c2, c3)) (addV (b1, b2, b3) (c1, c2, c3)) = true by rw [okV, i2, i3]; rfl, sub_add, if_pos rfl, show errOk true = 0 from rfl] at HS2
          generalize dotV (subV (a1, a2, a3) (b1, b2, b3)) (subV (a1, a2, a3) (b1, b2, b3)) = D2 at HS1 HS2
          generalize addV (a1, a2, a3) (c1, c2, c3) = P at HA2 HS2
          generalize addV (b1, b2, b3) (c1, c2, c3) = Q at HA3 HS2
          obtain ⟨P1, P2, P3⟩ := P
          obtain ⟨Q1, Q2, Q3⟩ := Q
          clear e2 e3 r2 r3 i2 i3 ia ib
          go_wp2_with fail
          refine (HA1.out _).mono ?_
          rintro e v1 ⟨rfl, hb1⟩
          clear kax kay kaz kal kbx kby kbz kbl kcx kcy kcz kcl
          have Ra := Lib.hid ((hb1.block _ (Array.getElem?_eq_some_iff.1 Ra.out).1).trans Ra.out)
          have Rb := Lib.hid ((hb1.block _ (Array.getElem?_eq_some_iff.1 Rb.out).1).trans Rb.out)
          have Rc := Lib.hid ((hb1.block _ (Array.getElem?_eq_some_iff.1 Rc.out).1).trans Rc.out)
          have HB := Lib.hid (HB.out.trans (hb1.mono HB.out.size))
          clear hb1
          obtain ⟨kax, kay, kaz, _, _, _⟩ := own3 Ra.out
          have kal := (Array.getElem?_eq_some_iff.1 Ra.out).1
          obtain ⟨kbx, kby, kbz, _, _, _⟩ := own3 Rb.out
          have kbl := (Array.getElem?_eq_some_iff.1 Rb.out).1
          obtain ⟨kcx, kcy, kcz, _, _, _⟩ := own3 Rc.out
          have kcl := (Array.getElem?_eq_some_iff.1 Rc.out).1
          go_wp2_with fail
          refine (HS0.out _).mono ?_
          rintro e v2 ⟨rfl, hb2⟩
          clear kax kay kaz kal kbx kby kbz kbl kcx kcy kcz kcl
          have Ra := Lib.hid ((hb2.block _ (Array.getElem?_eq_some_iff.1 (hOld v1 (.cells #[.int .i64 (s1), .int .i64 (s2), .int .i64 (s3)] 23) _ _ (Array.getElem?_eq_some_iff.1 Ra.out).1 Ra.out)).1).trans (hOld v1 (.cells #[.int .i64 (s1), .int .i64 (s2), .int .i64 (s3)] 23) _ _ (Array.getElem?_eq_some_iff.1 Ra.out).1 Ra.out))
          have Rb := Lib.hid ((hb2.block _ (Array.getElem?_eq_some_iff.1 (hOld v1 (.cells #[.int .i64 (s1), .int .i64 (s2), .int .i64 (s3)] 23) _ _ (Array.getElem?_eq_some_iff.1 Rb.out).1 Rb.out)).1).trans (hOld v1 (.cells #[.int .i64 (s1), .int .i64 (s2), .int .i64 (s3)] 23) _ _ (Array.getElem?_eq_some_iff.1 Rb.out).1 Rb.out))
          have Rc := Lib.hid ((hb2.block _ (Array.getElem?_eq_some_iff.1 (hOld v1 (.cells #[.int .i64 (s1), .int .i64 (s2), .int .i64 (s3)] 23) _ _ (Array.getElem?_eq_some_iff.1 Rc.out).1 Rc.out)).1).trans (hOld v1 (.cells #[.int .i64 (s1), .int .i64 (s2), .int .i64 (s3)] 23) _ _ (Array.getElem?_eq_some_iff.1 Rc.out).1 Rc.out))
          have Rs := Lib.hid ((hb2.block _ (Array.getElem?_eq_some_iff.1 (hNew v1 (.cells #[.int .i64 (s1), .int .i64 (s2), .int .i64 (s3)] 23) v1.heap.size rfl)).1).trans (hNew v1 (.cells #[.int .i64 (s1), .int .i64 (s2), .int .i64 (s3)] 23) v1.heap.size rfl))
          have HB := Lib.hid ((HB.out.alloc HB.out.size (.cells #[.int .i64 (s1), .int .i64 (s2), .int .i64 (s3)] 23)).trans (hb2.mono (HB.out.alloc HB.out.size (.cells #[.int .i64 (s1), .int .i64 (s2), .int .i64 (s3)] 23)).size))
          generalize v1.heap.size = gs at Rs ⊢
          clear hb2
          obtain ⟨kax, kay, kaz, _, _, _⟩ := own3 Ra.out
          have kal := (Array.getElem?_eq_some_iff.1 Ra.out).1
          obtain ⟨kbx, kby, kbz, _, _, _⟩ := own3 Rb.out
          have kbl := (Array.getElem?_eq_some_iff.1 Rb.out).1
          obtain ⟨kcx, kcy, kcz, _, _, _⟩ := own3 Rc.out
          have kcl := (Array.getElem?_eq_some_iff.1 Rc.out).1
          obtain ⟨ksx, ksy, ksz, _, _, _⟩ := own3 Rs.out
          have ksl := (Array.getElem?_eq_some_iff.1 Rs.out).1
          go_wp2_with fail
          refine (HD1.out _).mono ?_
          rintro e v3 ⟨rfl, hb3⟩
          clear kax kay kaz kal kbx kby kbz kbl kcx kcy kcz kcl ksx ksy ksz ksl
          have Ra := Lib.hid ((hb3.block _ (Array.getElem?_eq_some_iff.1 (hOld v2 (.cells #[.int .i64 (a1), .int .i64 (a2), .int .i64 (a3)] 23) _ _ (Array.getElem?_eq_some_iff.1 Ra.out).1 Ra.out)).1).trans (hOld v2 (.cells #[.int .i64 (a1), .int .i64 (a2), .int .i64 (a3)] 23) _ _ (Array.getElem?_eq_some_iff.1 Ra.out).1 Ra.out))
          have Rb := Lib.hid ((hb3.block _ (Array.getElem?_eq_some_iff.1 (hOld v2 (.cells #[.int .i64 (a1), .int .i64 (a2), .int .i64 (a3)] 23) _ _ (Array.getElem?_eq_some_iff.1 Rb.out).1 Rb.out)).1).trans (hOld v2 (.cells #[.int .i64 (a1), .int .i64 (a2), .int .i64 (a3)] 23) _ _ (Array.getElem?_eq_some_iff.1 Rb.out).1 Rb.out))
          have Rc := Lib.hid ((hb3.block _ (Array.getElem?_eq_some_iff.1 (hOld v2 (.cells #[.int .i64 (a1), .int .i64 (a2), .int .i64 (a3)] 23) _ _ (Array.getElem?_eq_some_iff.1 Rc.out).1 Rc.out)).1).trans (hOld v2 (.cells #[.int .i64 (a1), .int .i64 (a2), .int .i64 (a3)] 23) _ _ (Array.getElem?_eq_some_iff.1 Rc.out).1 Rc.out))
          have Rs := Lib.hid ((hb3.block _ (Array.getElem?_eq_some_iff.1 (hOld v2 (.cells #[.int .i64 (a1), .int .i64 (a2), .int .i64 (a3)] 23) _ _ (Array.getElem?_eq_some_iff.1 Rs.out).1 Rs.out)).1).trans (hOld v2 (.cells #[.int .i64 (a1), .int .i64 (a2), .int .i64 (a3)] 23) _ _ (Array.getElem?_eq_some_iff.1 Rs.out).1 Rs.out))
          have Rt := Lib.hid ((hb3.block _ (Array.getElem?_eq_some_iff.1 (hNew v2 (.cells #[.int .i64 (a1), .int .i64 (a2), .int .i64 (a3)] 23) v2.heap.size rfl)).1).trans (hNew v2 (.cells #[.int .i64 (a1), .int .i64 (a2), .int .i64 (a3)] 23) v2.heap.size rfl))
          have HB := Lib.hid ((HB.out.alloc HB.out.size (.cells #[.int .i64 (a1), .int .i64 (a2), .int .i64 (a3)] 23)).trans (hb3.mono (HB.out.alloc HB.out.size (.cells #[.int .i64 (a1), .int .i64 (a2), .int .i64 (a3)] 23)).size))
          generalize v2.heap.size = gt at Rt ⊢
          clear hb3
          obtain ⟨kax, kay, kaz, _, _, _⟩ := own3 Ra.out
          have kal := (Array.getElem?_eq_some_iff.1 Ra.out).1
          obtain ⟨kbx, kby, kbz, _, _, _⟩ := own3 Rb.out
          have kbl := (Array.getElem?_eq_some_iff.1 Rb.out).1
          obtain ⟨kcx, kcy, kcz, _, _, _⟩ := own3 Rc.out
          have kcl := (Array.getElem?_eq_some_iff.1 Rc.out).1
          obtain ⟨ksx, ksy, ksz, _, _, _⟩ := own3 Rs.out
          have ksl := (Array.getElem?_eq_some_iff.1 Rs.out).1
          obtain ⟨ktx, kty, ktz, _, _, _⟩ := own3 Rt.out
          have ktl := (Array.getElem?_eq_some_iff.1 Rt.out).1
          go_wp2_with fail
          refine (HD2.out _).mono ?_
          rintro e v4 ⟨rfl, hb4⟩
          clear kax kay kaz kal kbx kby kbz kbl kcx kcy kcz kcl ksx ksy ksz ksl ktx kty ktz ktl
          have Ra := Lib.hid ((hb4.block _ (Array.getElem?_eq_some_iff.1 Ra.out).1).trans Ra.out)
          have Rb := Lib.hid ((hb4.block _ (Array.getElem?_eq_some_iff.1 Rb.out).1).trans Rb.out)
          have Rc := Lib.hid ((hb4.block _ (Array.getElem?_eq_some_iff.1 Rc.out).1).trans Rc.out)
          have Rs := Lib.hid ((hb4.block _ (Array.getElem?_eq_some_iff.1 Rs.out).1).trans Rs.out)
          have Rt := Lib.hid ((hb4.block _ (Array.getElem?_eq_some_iff.1 Rt.out).1).trans Rt.out)
          have HB := Lib.hid (HB.out.trans (hb4.mono HB.out.size))
          clear hb4
          obtain ⟨kax, kay, kaz, _, _, _⟩ := own3 Ra.out
          have kal := (Array.getElem?_eq_some_iff.1 Ra.out).1
          obtain ⟨kbx, kby, kbz, _, _, _⟩ := own3 Rb.out
          have kbl := (Array.getElem?_eq_some_iff.1 Rb.out).1
          obtain ⟨kcx, kcy, kcz, _, _, _⟩ := own3 Rc.out
          have kcl := (Array.getElem?_eq_some_iff.1 Rc.out).1
          obtain ⟨ksx, ksy, ksz, _, _, _⟩ := own3 Rs.out
          have ksl := (Array.getElem?_eq_some_iff.1 Rs.out).1
          obtain ⟨ktx, kty, ktz, _, _, _⟩ := own3 Rt.out
          have ktl := (Array.getElem?_eq_some_iff.1 Rt.out).1
          go_wp2_with fail
          refine (HX1.out _).mono ?_
          rintro e v5 ⟨rfl, hb5⟩
          clear kax kay kaz kal kbx kby kbz kbl kcx kcy kcz kcl ksx ksy ksz ksl ktx kty ktz ktl
          have Ra := Lib.hid ((hb5.block _ (Array.getElem?_eq_some_iff.1 Ra.out).1).trans Ra.out)
          have Rb := Lib.hid ((hb5.block _ (Array.getElem?_eq_some_iff.1 Rb.out).1).trans Rb.out)
          have Rc := Lib.hid ((hb5.block _ (Array.getElem?_eq_some_iff.1 Rc.out).1).trans Rc.out)
          have Rs := Lib.hid ((hb5.block _ (Array.getElem?_eq_some_iff.1 Rs.out).1).trans Rs.out)
          have Rt := Lib.hid ((hb5.block _ (Array.getElem?_eq_some_iff.1 Rt.out).1).trans Rt.out)
          have HB := Lib.hid (HB.out.trans (hb5.mono HB.out.size))
          clear hb5
          obtain ⟨kax, kay, kaz, _, _, _⟩ := own3 Ra.out
          have kal := (Array.getElem?_eq_some_iff.1 Ra.out).1
          obtain ⟨kbx, kby, kbz, _, _, _⟩ := own3 Rb.out
          have kbl := (Array.getElem?_eq_some_iff.1 Rb.out).1
          obtain ⟨kcx, kcy, kcz, _, _, _⟩ := own3 Rc.out
          have kcl := (Array.getElem?_eq_some_iff.1 Rc.out).1
          obtain ⟨ksx, ksy, ksz, _, _, _⟩ := own3 Rs.out
          have ksl := (Array.getElem?_eq_some_iff.1 Rs.out).1
          obtain ⟨ktx, kty, ktz, _, _, _⟩ := own3 Rt.out
          have ktl := (Array.getElem?_eq_some_iff.1 Rt.out).1
          go_wp2_with fail
          refine (HX2.out _).mono ?_
          rintro e v6 ⟨rfl, hb6⟩
          clear kax kay kaz kal kbx kby kbz kbl kcx kcy kcz kcl ksx ksy ksz ksl ktx kty ktz ktl
          have Ra := Lib.hid ((hb6.block _ (Array.getElem?_eq_some_iff.1 (hOld v5 (.cells #[.int .i64 (X1), .int .i64 (X2), .int .i64 (X3)] 36) _ _ (Array.getElem?_eq_some_iff.1 Ra.out).1 Ra.out)).1).trans (hOld v5 (.cells #[.int .i64 (X1), .int .i64 (X2), .int .i64 (X3)] 36) _ _ (Array.getElem?_eq_some_iff.1 Ra.out).1 Ra.out))
          have Rb := Lib.hid ((hb6.block _ (Array.getElem?_eq_some_iff.1 (hOld v5 (.cells #[.int .i64 (X1), .int .i64 (X2), .int .i64 (X3)] 36) _ _ (Array.getElem?_eq_some_iff.1 Rb.out).1 Rb.out)).1).trans (hOld v5 (.cells #[.int .i64 (X1), .int .i64 (X2), .int .i64 (X3)] 36) _ _ (Array.getElem?_eq_some_iff.1 Rb.out).1 Rb.out))
          have Rc := Lib.hid ((hb6.block _ (Array.getElem?_eq_some_iff.1 (hOld v5 (.cells #[.int .i64 (X1), .int .i64 (X2), .int .i64 (X3)] 36) _ _ (Array.getElem?_eq_some_iff.1 Rc.out).1 Rc.out)).1).trans (hOld v5 (.cells #[.int .i64 (X1), .int .i64 (X2), .int .i64 (X3)] 36) _ _ (Array.getElem?_eq_some_iff.1 Rc.out).1 Rc.out))
          have Rs := Lib.hid ((hb6.block _ (Array.getElem?_eq_some_iff.1 (hOld v5 (.cells #[.int .i64 (X1), .int .i64 (X2), .int .i64 (X3)] 36) _ _ (Array.getElem?_eq_some_iff.1 Rs.out).1 Rs.out)).1).trans (hOld v5 (.cells #[.int .i64 (X1), .int .i64 (X2), .int .i64 (X3)] 36) _ _ (Array.getElem?_eq_some_iff.1 Rs.out).1 Rs.out))
          have Rt := Lib.hid ((hb6.block _ (Array.getElem?_eq_some_iff.1 (hOld v5 (.cells #[.int .i64 (X1), .int .i64 (X2), .int .i64 (X3)] 36) _ _ (Array.getElem?_eq_some_iff.1 Rt.out).1 Rt.out)).1).trans (hOld v5 (.cells #[.int .i64 (X1), .int .i64 (X2), .int .i64 (X3)] 36) _ _ (Array.getElem?_eq_some_iff.1 Rt.out).1 Rt.out))
          have Rx := Lib.hid ((hb6.block _ (Array.getElem?_eq_some_iff.1 (hNew v5 (.cells #[.int .i64 (X1), .int .i64 (X2), .int .i64 (X3)] 36) v5.heap.size rfl)).1).trans (hNew v5 (.cells #[.int .i64 (X1), .int .i64 (X2), .int .i64 (X3)] 36) v5.heap.size rfl))
          have HB := Lib.hid ((HB.out.alloc HB.out.size (.cells #[.int .i64 (X1), .int .i64 (X2), .int .i64 (X3)] 36)).trans (hb6.mono (HB.out.alloc HB.out.size (.cells #[.int .i64 (X1), .int .i64 (X2), .int .i64 (X3)] 36)).size))
          generalize v5.heap.size = gx at Rx ⊢
          clear hb6
          obtain ⟨kax, kay, kaz, _, _, _⟩ := own3 Ra.out
          have kal := (Array.getElem?_eq_some_iff.1 Ra.out).1
          obtain ⟨kbx, kby, kbz, _, _, _⟩ := own3 Rb.out
          have kbl := (Array.getElem?_eq_some_iff.1 Rb.out).1
          obtain ⟨kcx, kcy, kcz, _, _, _⟩ := own3 Rc.out
          have kcl := (Array.getElem?_eq_some_iff.1 Rc.out).1
          obtain ⟨ksx, ksy, ksz, _, _, _⟩ := own3 Rs.out
          have ksl := (Array.getElem?_eq_some_iff.1 Rs.out).1
          obtain ⟨ktx, kty, ktz, _, _, _⟩ := own3 Rt.out
          have ktl := (Array.getElem?_eq_some_iff.1 Rt.out).1
          obtain ⟨kxx, kxy, kxz, _, _, _⟩ := own3 Rx.out
          have kxl := (Array.getElem?_eq_some_iff.1 Rx.out).1
          go_wp2_with fail
          refine (HA2.out _).mono ?_
          rintro e v7 ⟨rfl, hb7⟩
          clear kax kay kaz kal kbx kby kbz kbl kcx kcy kcz kcl ksx ksy ksz ksl ktx kty ktz ktl kxx kxy kxz kxl
          have Ra := Lib.hid ((hb7.block _ (Array.getElem?_eq_some_iff.1 (hOld v6 (.cells #[.int .i64 (-X1), .int .i64 (-X2), .int .i64 (-X3)] 36) _ _ (Array.getElem?_eq_some_iff.1 Ra.out).1 Ra.out)).1).trans (hOld v6 (.cells #[.int .i64 (-X1), .int .i64 (-X2), .int .i64 (-X3)] 36) _ _ (Array.getElem?_eq_some_iff.1 Ra.out).1 Ra.out))
          have Rb := Lib.hid ((hb7.block _ (Array.getElem?_eq_some_iff.1 (hOld v6 (.cells #[.int .i64 (-X1), .int .i64 (-X2), .int .i64 (-X3)] 36) _ _ (Array.getElem?_eq_some_iff.1 Rb.out).1 Rb.out)).1).trans (hOld v6 (.cells #[.int .i64 (-X1), .int .i64 (-X2), .int .i64 (-X3)] 36) _ _ (Array.getElem?_eq_some_iff.1 Rb.out).1 Rb.out))
          have Rc := Lib.hid ((hb7.block _ (Array.getElem?_eq_some_iff.1 (hOld v6 (.cells #[.int .i64 (-X1), .int .i64 (-X2), .int .i64 (-X3)] 36) _ _ (Array.getElem?_eq_some_iff.1 Rc.out).1 Rc.out)).1).trans (hOld v6 (.cells #[.int .i64 (-X1), .int .i64 (-X2), .int .i64 (-X3)] 36) _ _ (Array.getElem?_eq_some_iff.1 Rc.out).1 Rc.out))
          have Rs := Lib.hid ((hb7.block _ (Array.getElem?_eq_some_iff.1 (hOld v6 (.cells #[.int .i64 (-X1), .int .i64 (-X2), .int .i64 (-X3)] 36) _ _ (Array.getElem?_eq_some_iff.1 Rs.out).1 Rs.out)).1).trans (hOld v6 (.cells #[.int .i64 (-X1), .int .i64 (-X2), .int .i64 (-X3)] 36) _ _ (Array.getElem?_eq_some_iff.1 Rs.out).1 Rs.out))
          have Rt := Lib.hid ((hb7.block _ (Array.getElem?_eq_some_iff.1 (hOld v6 (.cells #[.int .i64 (-X1), .int .i64 (-X2), .int .i64 (-X3)] 36) _ _ (Array.getElem?_eq_some_iff.1 Rt.out).1 Rt.out)).1).trans (hOld v6 (.cells #[.int .i64 (-X1), .int .i64 (-X2), .int .i64 (-X3)] 36) _ _ (Array.getElem?_eq_some_iff.1 Rt.out).1 Rt.out))
          have Rx := Lib.hid ((hb7.block _ (Array.getElem?_eq_some_iff.1 (hOld v6 (.cells #[.int .i64 (-X1), .int .i64 (-X2), .int .i64 (-X3)] 36) _ _ (Array.getElem?_eq_some_iff.1 Rx.out).1 Rx.out)).1).trans (hOld v6 (.cells #[.int .i64 (-X1), .int .i64 (-X2), .int .i64 (-X3)] 36) _ _ (Array.getElem?_eq_some_iff.1 Rx.out).1 Rx.out))
          have Ry := Lib.hid ((hb7.block _ (Array.getElem?_eq_some_iff.1 (hNew v6 (.cells #[.int .i64 (-X1), .int .i64 (-X2), .int .i64 (-X3)] 36) v6.heap.size rfl)).1).trans (hNew v6 (.cells #[.int .i64 (-X1), .int .i64 (-X2), .int .i64 (-X3)] 36) v6.heap.size rfl))
          have HB := Lib.hid ((HB.out.alloc HB.out.size (.cells #[.int .i64 (-X1), .int .i64 (-X2), .int .i64 (-X3)] 36)).trans (hb7.mono (HB.out.alloc HB.out.size (.cells #[.int .i64 (-X1), .int .i64 (-X2), .int .i64 (-X3)] 36)).size))
          generalize v6.heap.size = gy at Ry ⊢
          clear hb7
          obtain ⟨kax, kay, kaz, _, _, _⟩ := own3 Ra.out
          have kal := (Array.getElem?_eq_some_iff.1 Ra.out).1
          obtain ⟨kbx, kby, kbz, _, _, _⟩ := own3 Rb.out
          have kbl := (Array.getElem?_eq_some_iff.1 Rb.out).1
          obtain ⟨kcx, kcy, kcz, _, _, _⟩ := own3 Rc.out
          have kcl := (Array.getElem?_eq_some_iff.1 Rc.out).1
          obtain ⟨ksx, ksy, ksz, _, _, _⟩ := own3 Rs.out
          have ksl := (Array.getElem?_eq_some_iff.1 Rs.out).1
          obtain ⟨ktx, kty, ktz, _, _, _⟩ := own3 Rt.out
          have ktl := (Array.getElem?_eq_some_iff.1 Rt.out).1
          obtain ⟨kxx, kxy, kxz, _, _, _⟩ := own3 Rx.out
          have kxl := (Array.getElem?_eq_some_iff.1 Rx.out).1
          obtain ⟨kyx, kyy, kyz, _, _, _⟩ := own3 Ry.out
          have kyl := (Array.getElem?_eq_some_iff.1 Ry.out).1
          go_wp2_with fail
          refine (HA3.out _).mono ?_
          rintro e v8 ⟨rfl, hb8⟩
          clear kax kay kaz kal kbx kby kbz kbl kcx kcy kcz kcl ksx ksy ksz ksl ktx kty ktz ktl kxx kxy kxz kxl kyx kyy kyz kyl
          have Ra := Lib.hid ((hb8.block _ (Array.getElem?_eq_some_iff.1 (hOld v7 (.cells #[.int .i64 (P1), .int .i64 (P2), .int .i64 (P3)] 23) _ _ (Array.getElem?_eq_some_iff.1 Ra.out).1 Ra.out)).1).trans (hOld v7 (.cells #[.int .i64 (P1), .int .i64 (P2), .int .i64 (P3)] 23) _ _ (Array.getElem?_eq_some_iff.1 Ra.out).1 Ra.out))
          have Rb := Lib.hid ((hb8.block _ (Array.getElem?_eq_some_iff.1 (hOld v7 (.cells #[.int .i64 (P1), .int .i64 (P2), .int .i64 (P3)] 23) _ _ (Array.getElem?_eq_some_iff.1 Rb.out).1 Rb.out)).1).trans (hOld v7 (.cells #[.int .i64 (P1), .int .i64 (P2), .int .i64 (P3)] 23) _ _ (Array.getElem?_eq_some_iff.1 Rb.out).1 Rb.out))
          have Rc := Lib.hid ((hb8.block _ (Array.getElem?_eq_some_iff.1 (hOld v7 (.cells #[.int .i64 (P1), .int .i64 (P2), .int .i64 (P3)] 23) _ _ (Array.getElem?_eq_some_iff.1 Rc.out).1 Rc.out)).1).trans (hOld v7 (.cells #[.int .i64 (P1), .int .i64 (P2), .int .i64 (P3)] 23) _ _ (Array.getElem?_eq_some_iff.1 Rc.out).1 Rc.out))
          have Rs := Lib.hid ((hb8.block _ (Array.getElem?_eq_some_iff.1 (hOld v7 (.cells #[.int .i64 (P1), .int .i64 (P2), .int .i64 (P3)] 23) _ _ (Array.getElem?_eq_some_iff.1 Rs.out).1 Rs.out)).1).trans (hOld v7 (.cells #[.int .i64 (P1), .int .i64 (P2), .int .i64 (P3)] 23) _ _ (Array.getElem?_eq_some_iff.1 Rs.out).1 Rs.out))
          have Rt := Lib.hid ((hb8.block _ (Array.getElem?_eq_some_iff.1 (hOld v7 (.cells #[.int .i64 (P1), .int .i64 (P2), .int .i64 (P3)] 23) _ _ (Array.getElem?_eq_some_iff.1 Rt.out).1 Rt.out)).1).trans (hOld v7 (.cells #[.int .i64 (P1), .int .i64 (P2), .int .i64 (P3)] 23) _ _ (Array.getElem?_eq_some_iff.1 Rt.out).1 Rt.out))
          have Rx := Lib.hid ((hb8.block _ (Array.getElem?_eq_some_iff.1 (hOld v7 (.cells #[.int .i64 (P1), .int .i64 (P2), .int .i64 (P3)] 23) _ _ (Array.getElem?_eq_some_iff.1 Rx.out).1 Rx.out)).1).trans (hOld v7 (.cells #[.int .i64 (P1), .int .i64 (P2), .int .i64 (P3)] 23) _ _ (Array.getElem?_eq_some_iff.1 Rx.out).1 Rx.out))
          have Ry := Lib.hid ((hb8.block _ (Array.getElem?_eq_some_iff.1 (hOld v7 (.cells #[.int .i64 (P1), .int .i64 (P2), .int .i64 (P3)] 23) _ _ (Array.getElem?_eq_some_iff.1 Ry.out).1 Ry.out)).1).trans (hOld v7 (.cells #[.int .i64 (P1), .int .i64 (P2), .int .i64 (P3)] 23) _ _ (Array.getElem?_eq_some_iff.1 Ry.out).1 Ry.out))
          have Rp := Lib.hid ((hb8.block _ (Array.getElem?_eq_some_iff.1 (hNew v7 (.cells #[.int .i64 (P1), .int .i64 (P2), .int .i64 (P3)] 23) v7.heap.size rfl)).1).trans (hNew v7 (.cells #[.int .i64 (P1), .int .i64 (P2), .int .i64 (P3)] 23) v7.heap.size rfl))
          have HB := Lib.hid ((HB.out.alloc HB.out.size (.cells #[.int .i64 (P1), .int .i64 (P2), .int .i64 (P3)] 23)).trans (hb8.mono (HB.out.alloc HB.out.size (.cells #[.int .i64 (P1), .int .i64 (P2), .int .i64 (P3)] 23)).size))
          generalize v7.heap.size = gp at Rp ⊢
          clear hb8
          obtain ⟨kax, kay, kaz, _, _, _⟩ := own3 Ra.out
          have kal := (Array.getElem?_eq_some_iff.1 Ra.out).1
          obtain ⟨kbx, kby, kbz, _, _, _⟩ := own3 Rb.out
          have kbl := (Array.getElem?_eq_some_iff.1 Rb.out).1
          obtain ⟨kcx, kcy, kcz, _, _, _⟩ := own3 Rc.out
          have kcl := (Array.getElem?_eq_some_iff.1 Rc.out).1
          obtain ⟨ksx, ksy, ksz, _, _, _⟩ := own3 Rs.out
          have ksl := (Array.getElem?_eq_some_iff.1 Rs.out).1
          obtain ⟨ktx, kty, ktz, _, _, _⟩ := own3 Rt.out
          have ktl := (Array.getElem?_eq_some_iff.1 Rt.out).1
          obtain ⟨kxx, kxy, kxz, _, _, _⟩ := own3 Rx.out
          have kxl := (Array.getElem?_eq_some_iff.1 Rx.out).1
          obtain ⟨kyx, kyy, kyz, _, _, _⟩ := own3 Ry.out
          have kyl := (Array.getElem?_eq_some_iff.1 Ry.out).1
          obtain ⟨kpx, kpy, kpz, _, _, _⟩ := own3 Rp.out
          have kpl := (Array.getElem?_eq_some_iff.1 Rp.out).1
          go_wp2_with fail
          refine (HS1.out _).mono ?_
          rintro e v9 ⟨rfl, hb9⟩
          clear kax kay kaz kal kbx kby kbz kbl kcx kcy kcz kcl ksx ksy ksz ksl ktx kty ktz ktl kxx kxy kxz kxl kyx kyy kyz kyl kpx kpy kpz kpl
          have Ra := Lib.hid ((hb9.block _ (Array.getElem?_eq_some_iff.1 (hOld v8 (.cells #[.int .i64 (Q1), .int .i64 (Q2), .int .i64 (Q3)] 23) _ _ (Array.getElem?_eq_some_iff.1 Ra.out).1 Ra.out)).1).trans (hOld v8 (.cells #[.int .i64 (Q1), .int .i64 (Q2), .int .i64 (Q3)] 23) _ _ (Array.getElem?_eq_some_iff.1 Ra.out).1 Ra.out))
          have Rb := Lib.hid ((hb9.block _ (Array.getElem?_eq_some_iff.1 (hOld v8 (.cells #[.int .i64 (Q1), .int .i64 (Q2), .int .i64 (Q3)] 23) _ _ (Array.getElem?_eq_some_iff.1 Rb.out).1 Rb.out)).1).trans (hOld v8 (.cells #[.int .i64 (Q1), .int .i64 (Q2), .int .i64 (Q3)] 23) _ _ (Array.getElem?_eq_some_iff.1 Rb.out).1 Rb.out))
          have Rc := Lib.hid ((hb9.block _ (Array.getElem?_eq_some_iff.1 (hOld v8 (.cells #[.int .i64 (Q1), .int .i64 (Q2), .int .i64 (Q3)] 23) _ _ (Array.getElem?_eq_some_iff.1 Rc.out).1 Rc.out)).1).trans (hOld v8 (.cells #[.int .i64 (Q1), .int .i64 (Q2), .int .i64 (Q3)] 23) _ _ (Array.getElem?_eq_some_iff.1 Rc.out).1 Rc.out))
          have Rs := Lib.hid ((hb9.block _ (Array.getElem?_eq_some_iff.1 (hOld v8 (.cells #[.int .i64 (Q1), .int .i64 (Q2), .int .i64 (Q3)] 23) _ _ (Array.getElem?_eq_some_iff.1 Rs.out).1 Rs.out)).1).trans (hOld v8 (.cells #[.int .i64 (Q1), .int .i64 (Q2), .int .i64 (Q3)] 23) _ _ (Array.getElem?_eq_some_iff.1 Rs.out).1 Rs.out))
          have Rt := Lib.hid ((hb9.block _ (Array.getElem?_eq_some_iff.1 (hOld v8 (.cells #[.int .i64 (Q1), .int .i64 (Q2), .int .i64 (Q3)] 23) _ _ (Array.getElem?_eq_some_iff.1 Rt.out).1 Rt.out)).1).trans (hOld v8 (.cells #[.int .i64 (Q1), .int .i64 (Q2), .int .i64 (Q3)] 23) _ _ (Array.getElem?_eq_some_iff.1 Rt.out).1 Rt.out))
          have Rx := Lib.hid ((hb9.block _ (Array.getElem?_eq_some_iff.1 (hOld v8 (.cells #[.int .i64 (Q1), .int .i64 (Q2), .int .i64 (Q3)] 23) _ _ (Array.getElem?_eq_some_iff.1 Rx.out).1 Rx.out)).1).trans (hOld v8 (.cells #[.int .i64 (Q1), .int .i64 (Q2), .int .i64 (Q3)] 23) _ _ (Array.getElem?_eq_some_iff.1 Rx.out).1 Rx.out))
          have Ry := Lib.hid ((hb9.block _ (Array.getElem?_eq_some_iff.1 (hOld v8 (.cells #[.int .i64 (Q1), .int .i64 (Q2), .int .i64 (Q3)] 23) _ _ (Array.getElem?_eq_some_iff.1 Ry.out).1 Ry.out)).1).trans (hOld v8 (.cells #[.int .i64 (Q1), .int .i64 (Q2), .int .i64 (Q3)] 23) _ _ (Array.getElem?_eq_some_iff.1 Ry.out).1 Ry.out))
          have Rp := Lib.hid ((hb9.block _ (Array.getElem?_eq_some_iff.1 (hOld v8 (.cells #[.int .i64 (Q1), .int .i64 (Q2), .int .i64 (Q3)] 23) _ _ (Array.getElem?_eq_some_iff.1 Rp.out).1 Rp.out)).1).trans (hOld v8 (.cells #[.int .i64 (Q1), .int .i64 (Q2), .int .i64 (Q3)] 23) _ _ (Array.getElem?_eq_some_iff.1 Rp.out).1 Rp.out))
          have Rq := Lib.hid ((hb9.block _ (Array.getElem?_eq_some_iff.1 (hNew v8 (.cells #[.int .i64 (Q1), .int .i64 (Q2), .int .i64 (Q3)] 23) v8.heap.size rfl)).1).trans (hNew v8 (.cells #[.int .i64 (Q1), .int .i64 (Q2), .int .i64 (Q3)] 23) v8.heap.size rfl))
          have HB := Lib.hid ((HB.out.alloc HB.out.size (.cells #[.int .i64 (Q1), .int .i64 (Q2), .int .i64 (Q3)] 23)).trans (hb9.mono (HB.out.alloc HB.out.size (.cells #[.int .i64 (Q1), .int .i64 (Q2), .int .i64 (Q3)] 23)).size))
          generalize v8.heap.size = gq at Rq ⊢
          clear hb9
          obtain ⟨kax, kay, kaz, _, _, _⟩ := own3 Ra.out
          have kal := (Array.getElem?_eq_some_iff.1 Ra.out).1
          obtain ⟨kbx, kby, kbz, _, _, _⟩ := own3 Rb.out
          have kbl := (Array.getElem?_eq_some_iff.1 Rb.out).1
          obtain ⟨kcx, kcy, kcz, _, _, _⟩ := own3 Rc.out
          have kcl := (Array.getElem?_eq_some_iff.1 Rc.out).1
          obtain ⟨ksx, ksy, ksz, _, _, _⟩ := own3 Rs.out
          have ksl := (Array.getElem?_eq_some_iff.1 Rs.out).1
          obtain ⟨ktx, kty, ktz, _, _, _⟩ := own3 Rt.out
          have ktl := (Array.getElem?_eq_some_iff.1 Rt.out).1
          obtain ⟨kxx, kxy, kxz, _, _, _⟩ := own3 Rx.out
          have kxl := (Array.getElem?_eq_some_iff.1 Rx.out).1
          obtain ⟨kyx, kyy, kyz, _, _, _⟩ := own3 Ry.out
          have kyl := (Array.getElem?_eq_some_iff.1 Ry.out).1
          obtain ⟨kpx, kpy, kpz, _, _, _⟩ := own3 Rp.out
          have kpl := (Array.getElem?_eq_some_iff.1 Rp.out).1
          obtain ⟨kqx, kqy, kqz, _, _, _⟩ := own3 Rq.out
          have kql := (Array.getElem?_eq_some_iff.1 Rq.out).1
          go_wp2_with fail
          refine (HS2.out _).mono ?_
          rintro e v10 ⟨rfl, hb10⟩
          clear kax kay kaz kal kbx kby kbz kbl kcx kcy kcz kcl ksx ksy ksz ksl ktx kty ktz ktl kxx kxy kxz kxl kyx kyy kyz kyl kpx kpy kpz kpl kqx kqy kqz kql
          have Ra := Lib.hid ((hb10.block _ (Array.getElem?_eq_some_iff.1 Ra.out).1).trans Ra.out)
          have Rb := Lib.hid ((hb10.block _ (Array.getElem?_eq_some_iff.1 Rb.out).1).trans Rb.out)
          have Rc := Lib.hid ((hb10.block _ (Array.getElem?_eq_some_iff.1 Rc.out).1).trans Rc.out)
          have Rs := Lib.hid ((hb10.block _ (Array.getElem?_eq_some_iff.1 Rs.out).1).trans Rs.out)
          have Rt := Lib.hid ((hb10.block _ (Array.getElem?_eq_some_iff.1 Rt.out).1).trans Rt.out)
          have Rx := Lib.hid ((hb10.block _ (Array.getElem?_eq_some_iff.1 Rx.out).1).trans Rx.out)
          have Ry := Lib.hid ((hb10.block _ (Array.getElem?_eq_some_iff.1 Ry.out).1).trans Ry.out)
          have Rp := Lib.hid ((hb10.block _ (Array.getElem?_eq_some_iff.1 Rp.out).1).trans Rp.out)
          have Rq := Lib.hid ((hb10.block _ (Array.getElem?_eq_some_iff.1 Rq.out).1).trans Rq.out)
          have HB := Lib.hid (HB.out.trans (hb10.mono HB.out.size))
          clear hb10
          obtain ⟨kax, kay, kaz, _, _, _⟩ := own3 Ra.out
          have kal := (Array.getElem?_eq_some_iff.1 Ra.out).1
          obtain ⟨kbx, kby, kbz, _, _, _⟩ := own3 Rb.out
          have kbl := (Array.getElem?_eq_some_iff.1 Rb.out).1
          obtain ⟨kcx, kcy, kcz, _, _, _⟩ := own3 Rc.out
          have kcl := (Array.getElem?_eq_some_iff.1 Rc.out).1
          obtain ⟨ksx, ksy, ksz, _, _, _⟩ := own3 Rs.out
          have ksl := (Array.getElem?_eq_some_iff.1 Rs.out).1
          obtain ⟨ktx, kty, ktz, _, _, _⟩ := own3 Rt.out
          have ktl := (Array.getElem?_eq_some_iff.1 Rt.out).1
          obtain ⟨kxx, kxy, kxz, _, _, _⟩ := own3 Rx.out
          have kxl := (Array.getElem?_eq_some_iff.1 Rx.out).1
          obtain ⟨kyx, kyy, kyz, _, _, _⟩ := own3 Ry.out
          have kyl := (Array.getElem?_eq_some_iff.1 Ry.out).1
          obtain ⟨kpx, kpy, kpz, _, _, _⟩ := own3 Rp.out
          have kpl := (Array.getElem?_eq_some_iff.1 Rp.out).1
          obtain ⟨kqx, kqy, kqz, _, _, _⟩ := own3 Rq.out
          have kql := (Array.getElem?_eq_some_iff.1 Rq.out).1
          go_wp2_with fail
          go_ret
          exact ⟨rfl, HB.out⟩
    | false =>
      rw [show resV true (addV (a1, a2, a3) (b1, b2, b3)) = (0, 0, 0) by simp [resV, hs], show resE true (addV (a1, a2, a3) (b1, b2, b3)) = 6 by simp [resE, hs]] at HA1
      clear hva hvb hs hok
      rcases res_cases (a1, a2, a3) (c1, c2, c3) with e2 | ⟨e2, r2, i2, ia⟩
      · rw [e2] at HA2
        generalize resV (okV (a1, a2, a3) (c1, c2, c3)) (addV (a1, a2, a3) (c1, c2, c3)) = P at HA2
        generalize resV (okV (b1, b2, b3) (c1, c2, c3)) (addV (b1, b2, b3) (c1, c2, c3)) = Q at HA3
        generalize resE (okV (b1, b2, b3) (c1, c2, c3)) (addV (b1, b2, b3) (c1, c2, c3)) = k at HA3
        obtain ⟨P1, P2, P3⟩ := P
        obtain ⟨Q1, Q2, Q3⟩ := Q
        clear e2
        go_wp2_with fail
        refine (HA1.out _).mono ?_
        rintro e v1 ⟨rfl, hb1⟩
        clear kax kay kaz kal kbx kby kbz kbl kcx kcy kcz kcl
        have Ra := Lib.hid ((hb1.block _ (Array.getElem?_eq_some_iff.1 Ra.out).1).trans Ra.out)
        have Rb := Lib.hid ((hb1.block _ (Array.getElem?_eq_some_iff.1 Rb.out).1).trans Rb.out)
        have Rc := Lib.hid ((hb1.block _ (Array.getElem?_eq_some_iff.1 Rc.out).1).trans Rc.out)
        have HB := Lib.hid (HB.out.trans (hb1.mono HB.out.size))
        clear hb1
        obtain ⟨kax, kay, kaz, _, _, _⟩ := own3 Ra.out
        have kal := (Array.getElem?_eq_some_iff.1 Ra.out).1
        obtain ⟨kbx, kby, kbz, _, _, _⟩ := own3 Rb.out
        have kbl := (Array.getElem?_eq_some_iff.1 Rb.out).1
        obtain ⟨kcx, kcy, kcz, _, _, _⟩ := own3 Rc.out
        have kcl := (Array.getElem?_eq_some_iff.1 Rc.out).1
        go_wp2_with fail
        refine (HD1.out _).mono ?_
        rintro e v2 ⟨rfl, hb2⟩
        clear kax kay kaz kal kbx kby kbz kbl kcx kcy kcz kcl
        have Ra := Lib.hid ((hb2.block _ (Array.getElem?_eq_some_iff.1 (hOld v1 (.cells #[.int .i64 (0), .int .i64 (0), .int .i64 (0)] 23) _ _ (Array.getElem?_eq_some_iff.1 Ra.out).1 Ra.out)).1).trans (hOld v1 (.cells #[.int .i64 (0), .int .i64 (0), .int .i64 (0)] 23) _ _ (Array.getElem?_eq_some_iff.1 Ra.out).1 Ra.out))
        have Rb := Lib.hid ((hb2.block _ (Array.getElem?_eq_some_iff.1 (hOld v1 (.cells #[.int .i64 (0), .int .i64 (0), .int .i64 (0)] 23) _ _ (Array.getElem?_eq_some_iff.1 Rb.out).1 Rb.out)).1).trans (hOld v1 (.cells #[.int .i64 (0), .int .i64 (0), .int .i64 (0)] 23) _ _ (Array.getElem?_eq_some_iff.1 Rb.out).1 Rb.out))
        have Rc := Lib.hid ((hb2.block _ (Array.getElem?_eq_some_iff.1 (hOld v1 (.cells #[.int .i64 (0), .int .i64 (0), .int .i64 (0)] 23) _ _ (Array.getElem?_eq_some_iff.1 Rc.out).1 Rc.out)).1).trans (hOld v1 (.cells #[.int .i64 (0), .int .i64 (0), .int .i64 (0)] 23) _ _ (Array.getElem?_eq_some_iff.1 Rc.out).1 Rc.out))
        have Rs := Lib.hid ((hb2.block _ (Array.getElem?_eq_some_iff.1 (hNew v1 (.cells #[.int .i64 (0), .int .i64 (0), .int .i64 (0)] 23) v1.heap.size rfl)).1).trans (hNew v1 (.cells #[.int .i64 (0), .int .i64 (0), .int .i64 (0)] 23) v1.heap.size rfl))
        have HB := Lib.hid ((HB.out.alloc HB.out.size (.cells #[.int .i64 (0), .int .i64 (0), .int .i64 (0)] 23)).trans (hb2.mono (HB.out.alloc HB.out.size (.cells #[.int .i64 (0), .int .i64 (0), .int .i64 (0)] 23)).size))
        generalize v1.heap.size = gs at Rs ⊢
        clear hb2
        obtain ⟨kax, kay, kaz, _, _, _⟩ := own3 Ra.out
        have kal := (Array.getElem?_eq_some_iff.1 Ra.out).1
        obtain ⟨kbx, kby, kbz, _, _, _⟩ := own3 Rb.out
        have kbl := (Array.getElem?_eq_some_iff.1 Rb.out).1
        obtain ⟨kcx, kcy, kcz, _, _, _⟩ := own3 Rc.out
        have kcl := (Array.getElem?_eq_some_iff.1 Rc.out).1
        obtain ⟨ksx, ksy, ksz, _, _, _⟩ := own3 Rs.out
        have ksl := (Array.getElem?_eq_some_iff.1 Rs.out).1
        go_wp2_with fail
        refine (HD2.out _).mono ?_
        rintro e v3 ⟨rfl, hb3⟩
        clear kax kay kaz kal kbx kby kbz kbl kcx kcy kcz kcl ksx ksy ksz ksl
        have Ra := Lib.hid ((hb3.block _ (Array.getElem?_eq_some_iff.1 Ra.out).1).trans Ra.out)
        have Rb := Lib.hid ((hb3.block _ (Array.getElem?_eq_some_iff.1 Rb.out).1).trans Rb.out)
        have Rc := Lib.hid ((hb3.block _ (Array.getElem?_eq_some_iff.1 Rc.out).1).trans Rc.out)
        have Rs := Lib.hid ((hb3.block _ (Array.getElem?_eq_some_iff.1 Rs.out).1).trans Rs.out)
        have HB := Lib.hid (HB.out.trans (hb3.mono HB.out.size))
        clear hb3
        obtain ⟨kax, kay, kaz, _, _, _⟩ := own3 Ra.out
        have kal := (Array.getElem?_eq_some_iff.1 Ra.out).1
        obtain ⟨kbx, kby, kbz, _, _, _⟩ := own3 Rb.out
        have kbl := (Array.getElem?_eq_some_iff.1 Rb.out).1
        obtain ⟨kcx, kcy, kcz, _, _, _⟩ := own3 Rc.out
        have kcl := (Array.getElem?_eq_some_iff.1 Rc.out).1
        obtain ⟨ksx, ksy, ksz, _, _, _⟩ := own3 Rs.out
        have ksl := (Array.getElem?_eq_some_iff.1 Rs.out).1
        go_wp2_with fail
        refine (HX1.out _).mono ?_
        rintro e v4 ⟨rfl, hb4⟩
        clear kax kay kaz kal kbx kby kbz kbl kcx kcy kcz kcl ksx ksy ksz ksl
        have Ra := Lib.hid ((hb4.block _ (Array.getElem?_eq_some_iff.1 Ra.out).1).trans Ra.out)
        have Rb := Lib.hid ((hb4.block _ (Array.getElem?_eq_some_iff.1 Rb.out).1).trans Rb.out)
        have Rc := Lib.hid ((hb4.block _ (Array.getElem?_eq_some_iff.1 Rc.out).1).trans Rc.out)
        have Rs := Lib.hid ((hb4.block _ (Array.getElem?_eq_some_iff.1 Rs.out).1).trans Rs.out)
        have HB := Lib.hid (HB.out.trans (hb4.mono HB.out.size))
        clear hb4
        obtain ⟨kax, kay, kaz, _, _, _⟩ := own3 Ra.out
        have kal := (Array.getElem?_eq_some_iff.1 Ra.out).1
        obtain ⟨kbx, kby, kbz, _, _, _⟩ := own3 Rb.out
        have kbl := (Array.getElem?_eq_some_iff.1 Rb.out).1
        obtain ⟨kcx, kcy, kcz, _, _, _⟩ := own3 Rc.out
        have kcl := (Array.getElem?_eq_some_iff.1 Rc.out).1
        obtain ⟨ksx, ksy, ksz, _, _, _⟩ := own3 Rs.out
        have ksl := (Array.getElem?_eq_some_iff.1 Rs.out).1
        go_wp2_with fail
        refine (HX2.out _).mono ?_
        rintro e v5 ⟨rfl, hb5⟩
        clear kax kay kaz kal kbx kby kbz kbl kcx kcy kcz kcl ksx ksy ksz ksl
        have Ra := Lib.hid ((hb5.block _ (Array.getElem?_eq_some_iff.1 (hOld v4 (.cells #[.int .i64 (X1), .int .i64 (X2), .int .i64 (X3)] 36) _ _ (Array.getElem?_eq_some_iff.1 Ra.out).1 Ra.out)).1).trans (hOld v4 (.cells #[.int .i64 (X1), .int .i64 (X2), .int .i64 (X3)] 36) _ _ (Array.getElem?_eq_some_iff.1 Ra.out).1 Ra.out))
        have Rb := Lib.hid ((hb5.block _ (Array.getElem?_eq_some_iff.1 (hOld v4 (.cells #[.int .i64 (X1), .int .i64 (X2), .int .i64 (X3)] 36) _ _ (Array.getElem?_eq_some_iff.1 Rb.out).1 Rb.out)).1).trans (hOld v4 (.cells #[.int .i64 (X1), .int .i64 (X2), .int .i64 (X3)] 36) _ _ (Array.getElem?_eq_some_iff.1 Rb.out).1 Rb.out))
        have Rc := Lib.hid ((hb5.block _ (Array.getElem?_eq_some_iff.1 (hOld v4 (.cells #[.int .i64 (X1), .int .i64 (X2), .int .i64 (X3)] 36) _ _ (Array.getElem?_eq_some_iff.1 Rc.out).1 Rc.out)).1).trans (hOld v4 (.cells #[.int .i64 (X1), .int .i64 (X2), .int .i64 (X3)] 36) _ _ (Array.getElem?_eq_some_iff.1 Rc.out).1 Rc.out))
        have Rs := Lib.hid ((hb5.block _ (Array.getElem?_eq_some_iff.1 (hOld v4 (.cells #[.int .i64 (X1), .int .i64 (X2), .int .i64 (X3)] 36) _ _ (Array.getElem?_eq_some_iff.1 Rs.out).1 Rs.out)).1).trans (hOld v4 (.cells #[.int .i64 (X1), .int .i64 (X2), .int .i64 (X3)] 36) _ _ (Array.getElem?_eq_some_iff.1 Rs.out).1 Rs.out))
        have Rx := Lib.hid ((hb5.block _ (Array.getElem?_eq_some_iff.1 (hNew v4 (.cells #[.int .i64 (X1), .int .i64 (X2), .int .i64 (X3)] 36) v4.heap.size rfl)).1).trans (hNew v4 (.cells #[.int .i64 (X1), .int .i64 (X2), .int .i64 (X3)] 36) v4.heap.size rfl))
        have HB := Lib.hid ((HB.out.alloc HB.out.size (.cells #[.int .i64 (X1), .int .i64 (X2), .int .i64 (X3)] 36)).trans (hb5.mono (HB.out.alloc HB.out.size (.cells #[.int .i64 (X1), .int .i64 (X2), .int .i64 (X3)] 36)).size))
        generalize v4.heap.size = gx at Rx ⊢
        clear hb5
        obtain ⟨kax, kay, kaz, _, _, _⟩ := own3 Ra.out
        have kal := (Array.getElem?_eq_some_iff.1 Ra.out).1
        obtain ⟨kbx, kby, kbz, _, _, _⟩ := own3 Rb.out
        have kbl := (Array.getElem?_eq_some_iff.1 Rb.out).1
        obtain ⟨kcx, kcy, kcz, _, _, _⟩ := own3 Rc.out
        have kcl := (Array.getElem?_eq_some_iff.1 Rc.out).1
        obtain ⟨ksx, ksy, ksz, _, _, _⟩ := own3 Rs.out
        have ksl := (Array.getElem?_eq_some_iff.1 Rs.out).1
        obtain ⟨kxx, kxy, kxz, _, _, _⟩ := own3 Rx.out
        have kxl := (Array.getElem?_eq_some_iff.1 Rx.out).1
        go_wp2_with fail
        refine (HA2.out _).mono ?_
        rintro e v6 ⟨rfl, hb6⟩
        clear kax kay kaz kal kbx kby kbz kbl kcx kcy kcz kcl ksx ksy ksz ksl kxx kxy kxz kxl
        have Ra := Lib.hid ((hb6.block _ (Array.getElem?_eq_some_iff.1 (hOld v5 (.cells #[.int .i64 (-X1), .int .i64 (-X2), .int .i64 (-X3)] 36) _ _ (Array.getElem?_eq_some_iff.1 Ra.out).1 Ra.out)).1).trans (hOld v5 (.cells #[.int .i64 (-X1), .int .i64 (-X2), .int .i64 (-X3)] 36) _ _ (Array.getElem?_eq_some_iff.1 Ra.out).1 Ra.out))
        have Rb := Lib.hid ((hb6.block _ (Array.getElem?_eq_some_iff.1 (hOld v5 (.cells #[.int .i64 (-X1), .int .i64 (-X2), .int .i64 (-X3)] 36) _ _ (Array.getElem?_eq_some_iff.1 Rb.out).1 Rb.out)).1).trans (hOld v5 (.cells #[.int .i64 (-X1), .int .i64 (-X2), .int .i64 (-X3)] 36) _ _ (Array.getElem?_eq_some_iff.1 Rb.out).1 Rb.out))
        have Rc := Lib.hid ((hb6.block _ (Array.getElem?_eq_some_iff.1 (hOld v5 (.cells #[.int .i64 (-X1), .int .i64 (-X2), .int .i64 (-X3)] 36) _ _ (Array.getElem?_eq_some_iff.1 Rc.out).1 Rc.out)).1).trans (hOld v5 (.cells #[.int .i64 (-X1), .int .i64 (-X2), .int .i64 (-X3)] 36) _ _ (Array.getElem?_eq_some_iff.1 Rc.out).1 Rc.out))
        have Rs := Lib.hid ((hb6.block _ (Array.getElem?_eq_some_iff.1 (hOld v5 (.cells #[.int .i64 (-X1), .int .i64 (-X2), .int .i64 (-X3)] 36) _ _ (Array.getElem?_eq_some_iff.1 Rs.out).1 Rs.out)).1).trans (hOld v5 (.cells #[.int .i64 (-X1), .int .i64 (-X2), .int .i64 (-X3)] 36) _ _ (Array.getElem?_eq_some_iff.1 Rs.out).1 Rs.out))
        have Rx := Lib.hid ((hb6.block _ (Array.getElem?_eq_some_iff.1 (hOld v5 (.cells #[.int .i64 (-X1), .int .i64 (-X2), .int .i64 (-X3)] 36) _ _ (Array.getElem?_eq_some_iff.1 Rx.out).1 Rx.out)).1).trans (hOld v5 (.cells #[.int .i64 (-X1), .int .i64 (-X2), .int .i64 (-X3)] 36) _ _ (Array.getElem?_eq_some_iff.1 Rx.out).1 Rx.out))
        have Ry := Lib.hid ((hb6.block _ (Array.getElem?_eq_some_iff.1 (hNew v5 (.cells #[.int .i64 (-X1), .int .i64 (-X2), .int .i64 (-X3)] 36) v5.heap.size rfl)).1).trans (hNew v5 (.cells #[.int .i64 (-X1), .int .i64 (-X2), .int .i64 (-X3)] 36) v5.heap.size rfl))
        have HB := Lib.hid ((HB.out.alloc HB.out.size (.cells #[.int .i64 (-X1), .int .i64 (-X2), .int .i64 (-X3)] 36)).trans (hb6.mono (HB.out.alloc HB.out.size (.cells #[.int .i64 (-X1), .int .i64 (-X2), .int .i64 (-X3)] 36)).size))
        generalize v5.heap.size = gy at Ry ⊢
        clear hb6
        obtain ⟨kax, kay, kaz, _, _, _⟩ := own3 Ra.out
        have kal := (Array.getElem?_eq_some_iff.1 Ra.out).1
        obtain ⟨kbx, kby, kbz, _, _, _⟩ := own3 Rb.out
        have kbl := (Array.getElem?_eq_some_iff.1 Rb.out).1
        obtain ⟨kcx, kcy, kcz, _, _, _⟩ := own3 Rc.out
        have kcl := (Array.getElem?_eq_some_iff.1 Rc.out).1
        obtain ⟨ksx, ksy, ksz, _, _, _⟩ := own3 Rs.out
        have ksl := (Array.getElem?_eq_some_iff.1 Rs.out).1
        obtain ⟨kxx, kxy, kxz, _, _, _⟩ := own3 Rx.out
        have kxl := (Array.getElem?_eq_some_iff.1 Rx.out).1
        obtain ⟨kyx, kyy, kyz, _, _, _⟩ := own3 Ry.out
        have kyl := (Array.getElem?_eq_some_iff.1 Ry.out).1
        go_wp2_with fail
        refine (HA3.out _).mono ?_
        rintro e v7 ⟨rfl, hb7⟩
        clear kax kay kaz kal kbx kby kbz kbl kcx kcy kcz kcl ksx ksy ksz ksl kxx kxy kxz kxl kyx kyy kyz kyl
        have Ra := Lib.hid ((hb7.block _ (Array.getElem?_eq_some_iff.1 (hOld v6 (.cells #[.int .i64 (P1), .int .i64 (P2), .int .i64 (P3)] 23) _ _ (Array.getElem?_eq_some_iff.1 Ra.out).1 Ra.out)).1).trans (hOld v6 (.cells #[.int .i64 (P1), .int .i64 (P2), .int .i64 (P3)] 23) _ _ (Array.getElem?_eq_some_iff.1 Ra.out).1 Ra.out))
        have Rb := Lib.hid ((hb7.block _ (Array.getElem?_eq_some_iff.1 (hOld v6 (.cells #[.int .i64 (P1), .int .i64 (P2), .int .i64 (P3)] 23) _ _ (Array.getElem?_eq_some_iff.1 Rb.out).1 Rb.out)).1).trans (hOld v6 (.cells #[.int .i64 (P1), .int .i64 (P2), .int .i64 (P3)] 23) _ _ (Array.getElem?_eq_some_iff.1 Rb.out).1 Rb.out))
        have Rc := Lib.hid ((hb7.block _ (Array.getElem?_eq_some_iff.1 (hOld v6 (.cells #[.int .i64 (P1), .int .i64 (P2), .int .i64 (P3)] 23) _ _ (Array.getElem?_eq_some_iff.1 Rc.out).1 Rc.out)).1).trans (hOld v6 (.cells #[.int .i64 (P1), .int .i64 (P2), .int .i64 (P3)] 23) _ _ (Array.getElem?_eq_some_iff.1 Rc.out).1 Rc.out))
        have Rs := Lib.hid ((hb7.block _ (Array.getElem?_eq_some_iff.1 (hOld v6 (.cells #[.int .i64 (P1), .int .i64 (P2), .int .i64 (P3)] 23) _ _ (Array.getElem?_eq_some_iff.1 Rs.out).1 Rs.out)).1).trans (hOld v6 (.cells #[.int .i64 (P1), .int .i64 (P2), .int .i64 (P3)] 23) _ _ (Array.getElem?_eq_some_iff.1 Rs.out).1 Rs.out))
        have Rx := Lib.hid ((hb7.block _ (Array.getElem?_eq_some_iff.1 (hOld v6 (.cells #[.int .i64 (P1), .int .i64 (P2), .int .i64 (P3)] 23) _ _ (Array.getElem?_eq_some_iff.1 Rx.out).1 Rx.out)).1).trans (hOld v6 (.cells #[.int .i64 (P1), .int .i64 (P2), .int .i64 (P3)] 23) _ _ (Array.getElem?_eq_some_iff.1 Rx.out).1 Rx.out))
        have Ry := Lib.hid ((hb7.block _ (Array.getElem?_eq_some_iff.1 (hOld v6 (.cells #[.int .i64 (P1), .int .i64 (P2), .int .i64 (P3)] 23) _ _ (Array.getElem?_eq_some_iff.1 Ry.out).1 Ry.out)).1).trans (hOld v6 (.cells #[.int .i64 (P1), .int .i64 (P2), .int .i64 (P3)] 23) _ _ (Array.getElem?_eq_some_iff.1 Ry.out).1 Ry.out))
        have Rp := Lib.hid ((hb7.block _ (Array.getElem?_eq_some_iff.1 (hNew v6 (.cells #[.int .i64 (P1), .int .i64 (P2), .int .i64 (P3)] 23) v6.heap.size rfl)).1).trans (hNew v6 (.cells #[.int .i64 (P1), .int .i64 (P2), .int .i64 (P3)] 23) v6.heap.size rfl))
        have HB := Lib.hid ((HB.out.alloc HB.out.size (.cells #[.int .i64 (P1), .int .i64 (P2), .int .i64 (P3)] 23)).trans (hb7.mono (HB.out.alloc HB.out.size (.cells #[.int .i64 (P1), .int .i64 (P2), .int .i64 (P3)] 23)).size))
        generalize v6.heap.size = gp at Rp ⊢
        clear hb7
        obtain ⟨kax, kay, kaz, _, _, _⟩ := own3 Ra.out
        have kal := (Array.getElem?_eq_some_iff.1 Ra.out).1
        obtain ⟨kbx, kby, kbz, _, _, _⟩ := own3 Rb.out
        have kbl := (Array.getElem?_eq_some_iff.1 Rb.out).1
        obtain ⟨kcx, kcy, kcz, _, _, _⟩ := own3 Rc.out
        have kcl := (Array.getElem?_eq_some_iff.1 Rc.out).1
        obtain ⟨ksx, ksy, ksz, _, _, _⟩ := own3 Rs.out
        have ksl := (Array.getElem?_eq_some_iff.1 Rs.out).1
        obtain ⟨kxx, kxy, kxz, _, _, _⟩ := own3 Rx.out
        have kxl := (Array.getElem?_eq_some_iff.1 Rx.out).1
        obtain ⟨kyx, kyy, kyz, _, _, _⟩ := own3 Ry.out
        have kyl := (Array.getElem?_eq_some_iff.1 Ry.out).1
        obtain ⟨kpx, kpy, kpz, _, _, _⟩ := own3 Rp.out
        have kpl := (Array.getElem?_eq_some_iff.1 Rp.out).1
        go_wp2_with fail
        go_ret
        exact ⟨rfl, HB.out.alloc HB.out.size _⟩
      · rcases res_cases (b1, b2, b3) (c1, c2, c3) with e3 | ⟨e3, r3, i3, ib⟩
        · rw [e2] at HA2
          rw [e3] at HA3
          generalize resV (okV (a1, a2, a3) (c1, c2, c3)) (addV (a1, a2, a3) (c1, c2, c3)) = P at HA2 r2
          generalize resV (okV (b1, b2, b3) (c1, c2, c3)) (addV (b1, b2, b3) (c1, c2, c3)) = Q at HA3
          obtain ⟨P1, P2, P3⟩ := P
          obtain ⟨Q1, Q2, Q3⟩ := Q
          clear e2 e3 r2 i2 ia
          go_wp2_with fail
          refine (HA1.out _).mono ?_
          rintro e v1 ⟨rfl, hb1⟩
          clear kax kay kaz kal kbx kby kbz kbl kcx kcy kcz kcl
          have Ra := Lib.hid ((hb1.block _ (Array.getElem?_eq_some_iff.1 Ra.out).1).trans Ra.out)
          have Rb := Lib.hid ((hb1.block _ (Array.getElem?_eq_some_iff.1 Rb.out).1).trans Rb.out)
          have Rc := Lib.hid ((hb1.block _ (Array.getElem?_eq_some_iff.1 Rc.out).1).trans Rc.out)
          have HB := Lib.hid (HB.out.trans (hb1.mono HB.out.size))
          clear hb1
          obtain ⟨kax, kay, kaz, _, _, _⟩ := own3 Ra.out
          have kal := (Array.getElem?_eq_some_iff.1 Ra.out).1
          obtain ⟨kbx, kby, kbz, _, _, _⟩ := own3 Rb.out
          have kbl := (Array.getElem?_eq_some_iff.1 Rb.out).1
          obtain ⟨kcx, kcy, kcz, _, _, _⟩ := own3 Rc.out
          have kcl := (Array.getElem?_eq_some_iff.1 Rc.out).1
          go_wp2_with fail
          refine (HD1.out _).mono ?_
          rintro e v2 ⟨rfl, hb2⟩
          clear kax kay kaz kal kbx kby kbz kbl kcx kcy kcz kcl
          have Ra := Lib.hid ((hb2.block _ (Array.getElem?_eq_some_iff.1 (hOld v1 (.cells #[.int .i64 (0), .int .i64 (0), .int .i64 (0)] 23) _ _ (Array.getElem?_eq_some_iff.1 Ra.out).1 Ra.out)).1).trans (hOld v1 (.cells #[.int .i64 (0), .int .i64 (0), .int .i64 (0)] 23) _ _ (Array.getElem?_eq_some_iff.1 Ra.out).1 Ra.out))
          have Rb := Lib.hid ((hb2.block _ (Array.getElem?_eq_some_iff.1 (hOld v1 (.cells #[.int .i64 (0), .int .i64 (0), .int .i64 (0)] 23) _ _ (Array.getElem?_eq_some_iff.1 Rb.out).1 Rb.out)).1).trans (hOld v1 (.cells #[.int .i64 (0), .int .i64 (0), .int .i64 (0)] 23) _ _ (Array.getElem?_eq_some_iff.1 Rb.out).1 Rb.out))
          have Rc := Lib.hid ((hb2.block _ (Array.getElem?_eq_some_iff.1 (hOld v1 (.cells #[.int .i64 (0), .int .i64 (0), .int .i64 (0)] 23) _ _ (Array.getElem?_eq_some_iff.1 Rc.out).1 Rc.out)).1).trans (hOld v1 (.cells #[.int .i64 (0), .int .i64 (0), .int .i64 (0)] 23) _ _ (Array.getElem?_eq_some_iff.1 Rc.out).1 Rc.out))
          have Rs := Lib.hid ((hb2.block _ (Array.getElem?_eq_some_iff.1 (hNew v1 (.cells #[.int .i64 (0), .int .i64 (0), .int .i64 (0)] 23) v1.heap.size rfl)).1).trans (hNew v1 (.cells #[.int .i64 (0), .int .i64 (0), .int .i64 (0)] 23) v1.heap.size rfl))
          have HB := Lib.hid ((HB.out.alloc HB.out.size (.cells #[.int .i64 (0), .int .i64 (0), .int .i64 (0)] 23)).trans (hb2.mono (HB.out.alloc HB.out.size (.cells #[.int .i64 (0), .int .i64 (0), .int .i64 (0)] 23)).size))
          generalize v1.heap.size = gs at Rs ⊢
          clear hb2
          obtain ⟨kax, kay, kaz, _, _, _⟩ := own3 Ra.out
          have kal := (Array.getElem?_eq_some_iff.1 Ra.out).1
          obtain ⟨kbx, kby, kbz, _, _, _⟩ := own3 Rb.out
          have kbl := (Array.getElem?_eq_some_iff.1 Rb.out).1
          obtain ⟨kcx, kcy, kcz, _, _, _⟩ := own3 Rc.out
          have kcl := (Array.getElem?_eq_some_iff.1 Rc.out).1
          obtain ⟨ksx, ksy, ksz, _, _, _⟩ := own3 Rs.out
          have ksl := (Array.getElem?_eq_some_iff.1 Rs.out).1
          go_wp2_with fail
          refine (HD2.out _).mono ?_
          rintro e v3 ⟨rfl, hb3⟩
          clear kax kay kaz kal kbx kby kbz kbl kcx kcy kcz kcl ksx ksy ksz ksl
          have Ra := Lib.hid ((hb3.block _ (Array.getElem?_eq_some_iff.1 Ra.out).1).trans Ra.out)
          have Rb := Lib.hid ((hb3.block _ (Array.getElem?_eq_some_iff.1 Rb.out).1).trans Rb.out)
          have Rc := Lib.hid ((hb3.block _ (Array.getElem?_eq_some_iff.1 Rc.out).1).trans Rc.out)
          have Rs := Lib.hid ((hb3.block _ (Array.getElem?_eq_some_iff.1 Rs.out).1).trans Rs.out)
          have HB := Lib.hid (HB.out.trans (hb3.mono HB.out.size))
          clear hb3
          obtain ⟨kax, kay, kaz, _, _, _⟩ := own3 Ra.out
          have kal := (Array.getElem?_eq_some_iff.1 Ra.out).1
          obtain ⟨kbx, kby, kbz, _, _, _⟩ := own3 Rb.out
          have kbl := (Array.getElem?_eq_some_iff.1 Rb.out).1
          obtain ⟨kcx, kcy, kcz, _, _, _⟩ := own3 Rc.out
          have kcl := (Array.getElem?_eq_some_iff.1 Rc.out).1
          obtain ⟨ksx, ksy, ksz, _, _, _⟩ := own3 Rs.out
          have ksl := (Array.getElem?_eq_some_iff.1 Rs.out).1
          go_wp2_with fail
          refine (HX1.out _).mono ?_
          rintro e v4 ⟨rfl, hb4⟩
          clear kax kay kaz kal kbx kby kbz kbl kcx kcy kcz kcl ksx ksy ksz ksl
          have Ra := Lib.hid ((hb4.block _ (Array.getElem?_eq_some_iff.1 Ra.out).1).trans Ra.out)
          have Rb := Lib.hid ((hb4.block _ (Array.getElem?_eq_some_iff.1 Rb.out).1).trans Rb.out)
          have Rc := Lib.hid ((hb4.block _ (Array.getElem?_eq_some_iff.1 Rc.out).1).trans Rc.out)
          have Rs := Lib.hid ((hb4.block _ (Array.getElem?_eq_some_iff.1 Rs.out).1).trans Rs.out)
          have HB := Lib.hid (HB.out.trans (hb4.mono HB.out.size))
          clear hb4
          obtain ⟨kax, kay, kaz, _, _, _⟩ := own3 Ra.out
          have kal := (Array.getElem?_eq_some_iff.1 Ra.out).1
          obtain ⟨kbx, kby, kbz, _, _, _⟩ := own3 Rb.out
          have kbl := (Array.getElem?_eq_some_iff.1 Rb.out).1
          obtain ⟨kcx, kcy, kcz, _, _, _⟩ := own3 Rc.out
          have kcl := (Array.getElem?_eq_some_iff.1 Rc.out).1
          obtain ⟨ksx, ksy, ksz, _, _, _⟩ := own3 Rs.out
          have ksl := (Array.getElem?_eq_some_iff.1 Rs.out).1
          go_wp2_with fail
          refine (HX2.out _).mono ?_
          rintro e v5 ⟨rfl, hb5⟩
          clear kax kay kaz kal kbx kby kbz kbl kcx kcy kcz kcl ksx ksy ksz ksl
          have Ra := Lib.hid ((hb5.block _ (Array.getElem?_eq_some_iff.1 (hOld v4 (.cells #[.int .i64 (X1), .int .i64 (X2), .int .i64 (X3)] 36) _ _ (Array.getElem?_eq_some_iff.1 Ra.out).1 Ra.out)).1).trans (hOld v4 (.cells #[.int .i64 (X1), .int .i64 (X2), .int .i64 (X3)] 36) _ _ (Array.getElem?_eq_some_iff.1 Ra.out).1 Ra.out))
          have Rb := Lib.hid ((hb5.block _ (Array.getElem?_eq_some_iff.1 (hOld v4 (.cells #[.int .i64 (X1), .int .i64 (X2), .int .i64 (X3)] 36) _ _ (Array.getElem?_eq_some_iff.1 Rb.out).1 Rb.out)).1).trans (hOld v4 (.cells #[.int .i64 (X1), .int .i64 (X2), .int .i64 (X3)] 36) _ _ (Array.getElem?_eq_some_iff.1 Rb.out).1 Rb.out))
          have Rc := Lib.hid ((hb5.block _ (Array.getElem?_eq_some_iff.1 (hOld v4 (.cells #[.int .i64 (X1), .int .i64 (X2), .int .i64 (X3)] 36) _ _ (Array.getElem?_eq_some_iff.1 Rc.out).1 Rc.out)).1).trans (hOld v4 (.cells #[.int .i64 (X1), .int .i64 (X2), .int .i64 (X3)] 36) _ _ (Array.getElem?_eq_some_iff.1 Rc.out).1 Rc.out))
          have Rs := Lib.hid ((hb5.block _ (Array.getElem?_eq_some_iff.1 (hOld v4 (.cells #[.int .i64 (X1), .int .i64 (X2), .int .i64 (X3)] 36) _ _ (Array.getElem?_eq_some_iff.1 Rs.out).1 Rs.out)).1).trans (hOld v4 (.cells #[.int .i64 (X1), .int .i64 (X2), .int .i64 (X3)] 36) _ _ (Array.getElem?_eq_some_iff.1 Rs.out).1 Rs.out))
          have Rx := Lib.hid ((hb5.block _ (Array.getElem?_eq_some_iff.1 (hNew v4 (.cells #[.int .i64 (X1), .int .i64 (X2), .int .i64 (X3)] 36) v4.heap.size rfl)).1).trans (hNew v4 (.cells #[.int .i64 (X1), .int .i64 (X2), .int .i64 (X3)] 36) v4.heap.size rfl))
          have HB := Lib.hid ((HB.out.alloc HB.out.size (.cells #[.int .i64 (X1), .int .i64 (X2), .int .i64 (X3)] 36)).trans (hb5.mono (HB.out.alloc HB.out.size (.cells #[.int .i64 (X1), .int .i64 (X2), .int .i64 (X3)] 36)).size))
          generalize v4.heap.size = gx at Rx ⊢
          clear hb5
          obtain ⟨kax, kay, kaz, _, _, _⟩ := own3 Ra.out
          have kal := (Array.getElem?_eq_some_iff.1 Ra.out).1
          obtain ⟨kbx, kby, kbz, _, _, _⟩ := own3 Rb.out
          have kbl := (Array.getElem?_eq_some_iff.1 Rb.out).1
          obtain ⟨kcx, kcy, kcz, _, _, _⟩ := own3 Rc.out
          have kcl := (Array.getElem?_eq_some_iff.1 Rc.out).1
          obtain ⟨ksx, ksy, ksz, _, _, _⟩ := own3 Rs.out
          have ksl := (Array.getElem?_eq_some_iff.1 Rs.out).1
          obtain ⟨kxx, kxy, kxz, _, _, _⟩ := own3 Rx.out
          have kxl := (Array.getElem?_eq_some_iff.1 Rx.out).1
          go_wp2_with fail
          refine (HA2.out _).mono ?_
          rintro e v6 ⟨rfl, hb6⟩
          clear kax kay kaz kal kbx kby kbz kbl kcx kcy kcz kcl ksx ksy ksz ksl kxx kxy kxz kxl
          have Ra := Lib.hid ((hb6.block _ (Array.getElem?_eq_some_iff.1 (hOld v5 (.cells #[.int .i64 (-X1), .int .i64 (-X2), .int .i64 (-X3)] 36) _ _ (Array.getElem?_eq_some_iff.1 Ra.out).1 Ra.out)).1).trans (hOld v5 (.cells #[.int .i64 (-X1), .int .i64 (-X2), .int .i64 (-X3)] 36) _ _ (Array.getElem?_eq_some_iff.1 Ra.out).1 Ra.out))
          have Rb := Lib.hid ((hb6.block _ (Array.getElem?_eq_some_iff.1 (hOld v5 (.cells #[.int .i64 (-X1), .int .i64 (-X2), .int .i64 (-X3)] 36) _ _ (Array.getElem?_eq_some_iff.1 Rb.out).1 Rb.out)).1).trans (hOld v5 (.cells #[.int .i64 (-X1), .int .i64 (-X2), .int .i64 (-X3)] 36) _ _ (Array.getElem?_eq_some_iff.1 Rb.out).1 Rb.out))
          have Rc := Lib.hid ((hb6.block _ (Array.getElem?_eq_some_iff.1 (hOld v5 (.cells #[.int .i64 (-X1), .int .i64 (-X2), .int .i64 (-X3)] 36) _ _ (Array.getElem?_eq_some_iff.1 Rc.out).1 Rc.out)).1).trans (hOld v5 (.cells #[.int .i64 (-X1), .int .i64 (-X2), .int .i64 (-X3)] 36) _ _ (Array.getElem?_eq_some_iff.1 Rc.out).1 Rc.out))
          have Rs := Lib.hid ((hb6.block _ (Array.getElem?_eq_some_iff.1 (hOld v5 (.cells #[.int .i64 (-X1), .int .i64 (-X2), .int .i64 (-X3)] 36) _ _ (Array.getElem?_eq_some_iff.1 Rs.out).1 Rs.out)).1).trans (hOld v5 (.cells #[.int .i64 (-X1), .int .i64 (-X2), .int .i64 (-X3)] 36) _ _ (Array.getElem?_eq_some_iff.1 Rs.out).1 Rs.out))
          have Rx := Lib.hid ((hb6.block _ (Array.getElem?_eq_some_iff.1 (hOld v5 (.cells #[.int .i64 (-X1), .int .i64 (-X2), .int .i64 (-X3)] 36) _ _ (Array.getElem?_eq_some_iff.1 Rx.out).1 Rx.out)).1).trans (hOld v5 (.cells #[.int .i64 (-X1), .int .i64 (-X2), .int .i64 (-X3)] 36) _ _ (Array.getElem?_eq_some_iff.1 Rx.out).1 Rx.out))
          have Ry := Lib.hid ((hb6.block _ (Array.getElem?_eq_some_iff.1 (hNew v5 (.cells #[.int .i64 (-X1), .int .i64 (-X2), .int .i64 (-X3)] 36) v5.heap.size rfl)).1).trans (hNew v5 (.cells #[.int .i64 (-X1), .int .i64 (-X2), .int .i64 (-X3)] 36) v5.heap.size rfl))
          have HB := Lib.hid ((HB.out.alloc HB.out.size (.cells #[.int .i64 (-X1), .int .i64 (-X2), .int .i64 (-X3)] 36)).trans (hb6.mono (HB.out.alloc HB.out.size (.cells #[.int .i64 (-X1), .int .i64 (-X2), .int .i64 (-X3)] 36)).size))
          generalize v5.heap.size = gy at Ry ⊢
          clear hb6
          obtain ⟨kax, kay, kaz, _, _, _⟩ := own3 Ra.out
          have kal := (Array.getElem?_eq_some_iff.1 Ra.out).1
          obtain ⟨kbx, kby, kbz, _, _, _⟩ := own3 Rb.out
          have kbl := (Array.getElem?_eq_some_iff.1 Rb.out).1
          obtain ⟨kcx, kcy, kcz, _, _, _⟩ := own3 Rc.out
          have kcl := (Array.getElem?_eq_some_iff.1 Rc.out).1
          obtain ⟨ksx, ksy, ksz, _, _, _⟩ := own3 Rs.out
          have ksl := (Array.getElem?_eq_some_iff.1 Rs.out).1
          obtain ⟨kxx, kxy, kxz, _, _, _⟩ := own3 Rx.out
          have kxl := (Array.getElem?_eq_some_iff.1 Rx.out).1
          obtain ⟨kyx, kyy, kyz, _, _, _⟩ := own3 Ry.out
          have kyl := (Array.getElem?_eq_some_iff.1 Ry.out).1
          go_wp2_with fail
          refine (HA3.out _).mono ?_
          rintro e v7 ⟨rfl, hb7⟩
          clear kax kay kaz kal kbx kby kbz kbl kcx kcy kcz kcl ksx ksy ksz ksl kxx kxy kxz kxl kyx kyy kyz kyl
          have Ra := Lib.hid ((hb7.block _ (Array.getElem?_eq_some_iff.1 (hOld v6 (.cells #[.int .i64 (P1), .int .i64 (P2), .int .i64 (P3)] 23) _ _ (Array.getElem?_eq_some_iff.1 Ra.out).1 Ra.out)).1).trans (hOld v6 (.cells #[.int .i64 (P1), .int .i64 (P2), .int .i64 (P3)] 23) _ _ (Array.getElem?_eq_some_iff.1 Ra.out).1 Ra.out))
          have Rb := Lib.hid ((hb7.block _ (Array.getElem?_eq_some_iff.1 (hOld v6 (.cells #[.int .i64 (P1), .int .i64 (P2), .int .i64 (P3)] 23) _ _ (Array.getElem?_eq_some_iff.1 Rb.out).1 Rb.out)).1).trans (hOld v6 (.cells #[.int .i64 (P1), .int .i64 (P2), .int .i64 (P3)] 23) _ _ (Array.getElem?_eq_some_iff.1 Rb.out).1 Rb.out))
          have Rc := Lib.hid ((hb7.block _ (Array.getElem?_eq_some_iff.1 (hOld v6 (.cells #[.int .i64 (P1), .int .i64 (P2), .int .i64 (P3)] 23) _ _ (Array.getElem?_eq_some_iff.1 Rc.out).1 Rc.out)).1).trans (hOld v6 (.cells #[.int .i64 (P1), .int .i64 (P2), .int .i64 (P3)] 23) _ _ (Array.getElem?_eq_some_iff.1 Rc.out).1 Rc.out))
          have Rs := Lib.hid ((hb7.block _ (Array.getElem?_eq_some_iff.1 (hOld v6 (.cells #[.int .i64 (P1), .int .i64 (P2), .int .i64 (P3)] 23) _ _ (Array.getElem?_eq_some_iff.1 Rs.out).1 Rs.out)).1).trans (hOld v6 (.cells #[.int .i64 (P1), .int .i64 (P2), .int .i64 (P3)] 23) _ _ (Array.getElem?_eq_some_iff.1 Rs.out).1 Rs.out))
          have Rx := Lib.hid ((hb7.block _ (Array.getElem?_eq_some_iff.1 (hOld v6 (.cells #[.int .i64 (P1), .int .i64 (P2), .int .i64 (P3)] 23) _ _ (Array.getElem?_eq_some_iff.1 Rx.out).1 Rx.out)).1).trans (hOld v6 (.cells #[.int .i64 (P1), .int .i64 (P2), .int .i64 (P3)] 23) _ _ (Array.getElem?_eq_some_iff.1 Rx.out).1 Rx.out))
          have Ry := Lib.hid ((hb7.block _ (Array.getElem?_eq_some_iff.1 (hOld v6 (.cells #[.int .i64 (P1), .int .i64 (P2), .int .i64 (P3)] 23) _ _ (Array.getElem?_eq_some_iff.1 Ry.out).1 Ry.out)).1).trans (hOld v6 (.cells #[.int .i64 (P1), .int .i64 (P2), .int .i64 (P3)] 23) _ _ (Array.getElem?_eq_some_iff.1 Ry.out).1 Ry.out))
          have Rp := Lib.hid ((hb7.block _ (Array.getElem?_eq_some_iff.1 (hNew v6 (.cells #[.int .i64 (P1), .int .i64 (P2), .int .i64 (P3)] 23) v6.heap.size rfl)).1).trans (hNew v6 (.cells #[.int .i64 (P1), .int .i64 (P2), .int .i64 (P3)] 23) v6.heap.size rfl))
          have HB := Lib.hid ((HB.out.alloc HB.out.size (.cells #[.int .i64 (P1), .int .i64 (P2), .int .i64 (P3)] 23)).trans (hb7.mono (HB.out.alloc HB.out.size (.cells #[.int .i64 (P1), .int .i64 (P2), .int .i64 (P3)] 23)).size))
          generalize v6.heap.size = gp at Rp ⊢
          clear hb7
          obtain ⟨kax, kay, kaz, _, _, _⟩ := own3 Ra.out
          have kal := (Array.getElem?_eq_some_iff.1 Ra.out).1
          obtain ⟨kbx, kby, kbz, _, _, _⟩ := own3 Rb.out
          have kbl := (Array.getElem?_eq_some_iff.1 Rb.out).1
          obtain ⟨kcx, kcy, kcz, _, _, _⟩ := own3 Rc.out
          have kcl := (Array.getElem?_eq_some_iff.1 Rc.out).1
          obtain ⟨ksx, ksy, ksz, _, _, _⟩ := own3 Rs.out
          have ksl := (Array.getElem?_eq_some_iff.1 Rs.out).1
          obtain ⟨kxx, kxy, kxz, _, _, _⟩ := own3 Rx.out
          have kxl := (Array.getElem?_eq_some_iff.1 Rx.out).1
          obtain ⟨kyx, kyy, kyz, _, _, _⟩ := own3 Ry.out
          have kyl := (Array.getElem?_eq_some_iff.1 Ry.out).1
          obtain ⟨kpx, kpy, kpz, _, _, _⟩ := own3 Rp.out
          have kpl := (Array.getElem?_eq_some_iff.1 Rp.out).1
          go_wp2_with fail
          go_ret
          exact ⟨rfl, HB.out.alloc HB.out.size _⟩
        · rw [e2, r2] at HA2
          rw [e3, r3] at HA3
          have HS2 := Lib.hid (fun W => distP_any (addV (a1, a2, a3) (c1, c2, c3)) (addV (b1, b2, b3) (c1, c2, c3)) W)
          rw [show okV (addV (a1, a2, a3) (c1, c2, c3)) (addV (b1, b2, b3) (c1, c2, c3)) = true by rw [okV, i2, i3]; rfl, sub_add, if_pos rfl, show errOk true = 0 from rfl] at HS2
          generalize dotV (subV (a1, a2, a3) (b1, b2, b3)) (subV (a1, a2, a3) (b1, b2, b3)) = D2 at HS1 HS2
          generalize addV (a1, a2, a3) (c1, c2, c3) = P at HA2 HS2
          generalize addV (b1, b2, b3) (c1, c2, c3) = Q at HA3 HS2
          obtain ⟨P1, P2, P3⟩ := P
          obtain ⟨Q1, Q2, Q3⟩ := Q
          clear e2 e3 r2 r3 i2 i3 ia ib
          go_wp2_with fail
          refine (HA1.out _).mono ?_
          rintro e v1 ⟨rfl, hb1⟩
          clear kax kay kaz kal kbx kby kbz kbl kcx kcy kcz kcl
          have Ra := Lib.hid ((hb1.block _ (Array.getElem?_eq_some_iff.1 Ra.out).1).trans Ra.out)
          have Rb := Lib.hid ((hb1.block _ (Array.getElem?_eq_some_iff.1 Rb.out).1).trans Rb.out)
          have Rc := Lib.hid ((hb1.block _ (Array.getElem?_eq_some_iff.1 Rc.out).1).trans Rc.out)
          have HB := Lib.hid (HB.out.trans (hb1.mono HB.out.size))
          clear hb1
          obtain ⟨kax, kay, kaz, _, _, _⟩ := own3 Ra.out
          have kal := (Array.getElem?_eq_some_iff.1 Ra.out).1
          obtain ⟨kbx, kby, kbz, _, _, _⟩ := own3 Rb.out
          have kbl := (Array.getElem?_eq_some_iff.1 Rb.out).1
          obtain ⟨kcx, kcy, kcz, _, _, _⟩ := own3 Rc.out
          have kcl := (Array.getElem?_eq_some_iff.1 Rc.out).1
          go_wp2_with fail
          refine (HD1.out _).mono ?_
          rintro e v2 ⟨rfl, hb2⟩
          clear kax kay kaz kal kbx kby kbz kbl kcx kcy kcz kcl
          have Ra := Lib.hid ((hb2.block _ (Array.getElem?_eq_some_iff.1 (hOld v1 (.cells #[.int .i64 (0), .int .i64 (0), .int .i64 (0)] 23) _ _ (Array.getElem?_eq_some_iff.1 Ra.out).1 Ra.out)).1).trans (hOld v1 (.cells #[.int .i64 (0), .int .i64 (0), .int .i64 (0)] 23) _ _ (Array.getElem?_eq_some_iff.1 Ra.out).1 Ra.out))
          have Rb := Lib.hid ((hb2.block _ (Array.getElem?_eq_some_iff.1 (hOld v1 (.cells #[.int .i64 (0), .int .i64 (0), .int .i64 (0)] 23) _ _ (Array.getElem?_eq_some_iff.1 Rb.out).1 Rb.out)).1).trans (hOld v1 (.cells #[.int .i64 (0), .int .i64 (0), .int .i64 (0)] 23) _ _ (Array.getElem?_eq_some_iff.1 Rb.out).1 Rb.out))
          have Rc := Lib.hid ((hb2.block _ (Array.getElem?_eq_some_iff.1 (hOld v1 (.cells #[.int .i64 (0), .int .i64 (0), .int .i64 (0)] 23) _ _ (Array.getElem?_eq_some_iff.1 Rc.out).1 Rc.out)).1).trans (hOld v1 (.cells #[.int .i64 (0), .int .i64 (0), .int .i64 (0)] 23) _ _ (Array.getElem?_eq_some_iff.1 Rc.out).1 Rc.out))
          have Rs := Lib.hid ((hb2.block _ (Array.getElem?_eq_some_iff.1 (hNew v1 (.cells #[.int .i64 (0), .int .i64 (0), .int .i64 (0)] 23) v1.heap.size rfl)).1).trans (hNew v1 (.cells #[.int .i64 (0), .int .i64 (0), .int .i64 (0)] 23) v1.heap.size rfl))
          have HB := Lib.hid ((HB.out.alloc HB.out.size (.cells #[.int .i64 (0), .int .i64 (0), .int .i64 (0)] 23)).trans (hb2.mono (HB.out.alloc HB.out.size (.cells #[.int .i64 (0), .int .i64 (0), .int .i64 (0)] 23)).size))
          generalize v1.heap.size = gs at Rs ⊢
          clear hb2
          obtain ⟨kax, kay, kaz, _, _, _⟩ := own3 Ra.out
          have kal := (Array.getElem?_eq_some_iff.1 Ra.out).1
          obtain ⟨kbx, kby, kbz, _, _, _⟩ := own3 Rb.out
          have kbl := (Array.getElem?_eq_some_iff.1 Rb.out).1
          obtain ⟨kcx, kcy, kcz, _, _, _⟩ := own3 Rc.out
          have kcl := (Array.getElem?_eq_some_iff.1 Rc.out).1
          obtain ⟨ksx, ksy, ksz, _, _, _⟩ := own3 Rs.out
          have ksl := (Array.getElem?_eq_some_iff.1 Rs.out).1
          go_wp2_with fail
          refine (HD2.out _).mono ?_
          rintro e v3 ⟨rfl, hb3⟩
          clear kax kay kaz kal kbx kby kbz kbl kcx kcy kcz kcl ksx ksy ksz ksl
          have Ra := Lib.hid ((hb3.block _ (Array.getElem?_eq_some_iff.1 Ra.out).1).trans Ra.out)
          have Rb := Lib.hid ((hb3.block _ (Array.getElem?_eq_some_iff.1 Rb.out).1).trans Rb.out)
          have Rc := Lib.hid ((hb3.block _ (Array.getElem?_eq_some_iff.1 Rc.out).1).trans Rc.out)
          have Rs := Lib.hid ((hb3.block _ (Array.getElem?_eq_some_iff.1 Rs.out).1).trans Rs.out)
          have HB := Lib.hid (HB.out.trans (hb3.mono HB.out.size))
          clear hb3
          obtain ⟨kax, kay, kaz, _, _, _⟩ := own3 Ra.out
          have kal := (Array.getElem?_eq_some_iff.1 Ra.out).1
          obtain ⟨kbx, kby, kbz, _, _, _⟩ := own3 Rb.out
          have kbl := (Array.getElem?_eq_some_iff.1 Rb.out).1
          obtain ⟨kcx, kcy, kcz, _, _, _⟩ := own3 Rc.out
          have kcl := (Array.getElem?_eq_some_iff.1 Rc.out).1
          obtain ⟨ksx, ksy, ksz, _, _, _⟩ := own3 Rs.out
          have ksl := (Array.getElem?_eq_some_iff.1 Rs.out).1
          go_wp2_with fail
          refine (HX1.out _).mono ?_
          rintro e v4 ⟨rfl, hb4⟩
          clear kax kay kaz kal kbx kby kbz kbl kcx kcy kcz kcl ksx ksy ksz ksl
          have Ra := Lib.hid ((hb4.block _ (Array.getElem?_eq_some_iff.1 Ra.out).1).trans Ra.out)
          have Rb := Lib.hid ((hb4.block _ (Array.getElem?_eq_some_iff.1 Rb.out).1).trans Rb.out)
          have Rc := Lib.hid ((hb4.block _ (Array.getElem?_eq_some_iff.1 Rc.out).1).trans Rc.out)
          have Rs := Lib.hid ((hb4.block _ (Array.getElem?_eq_some_iff.1 Rs.out).1).trans Rs.out)
          have HB := Lib.hid (HB.out.trans (hb4.mono HB.out.size))
          clear hb4
          obtain ⟨kax, kay, kaz, _, _, _⟩ := own3 Ra.out
          have kal := (Array.getElem?_eq_some_iff.1 Ra.out).1
          obtain ⟨kbx, kby, kbz, _, _, _⟩ := own3 Rb.out
          have kbl := (Array.getElem?_eq_some_iff.1 Rb.out).1
          obtain ⟨kcx, kcy, kcz, _, _, _⟩ := own3 Rc.out
          have kcl := (Array.getElem?_eq_some_iff.1 Rc.out).1
          obtain ⟨ksx, ksy, ksz, _, _, _⟩ := own3 Rs.out
          have ksl := (Array.getElem?_eq_some_iff.1 Rs.out).1
          go_wp2_with fail
          refine (HX2.out _).mono ?_
          rintro e v5 ⟨rfl, hb5⟩
          clear kax kay kaz kal kbx kby kbz kbl kcx kcy kcz kcl ksx ksy ksz ksl
          have Ra := Lib.hid ((hb5.block _ (Array.getElem?_eq_some_iff.1 (hOld v4 (.cells #[.int .i64 (X1), .int .i64 (X2), .int .i64 (X3)] 36) _ _ (Array.getElem?_eq_some_iff.1 Ra.out).1 Ra.out)).1).trans (hOld v4 (.cells #[.int .i64 (X1), .int .i64 (X2), .int .i64 (X3)] 36) _ _ (Array.getElem?_eq_some_iff.1 Ra.out).1 Ra.out))
          have Rb := Lib.hid ((hb5.block _ (Array.getElem?_eq_some_iff.1 (hOld v4 (.cells #[.int .i64 (X1), .int .i64 (X2), .int .i64 (X3)] 36) _ _ (Array.getElem?_eq_some_iff.1 Rb.out).1 Rb.out)).1).trans (hOld v4 (.cells #[.int .i64 (X1), .int .i64 (X2), .int .i64 (X3)] 36) _ _ (Array.getElem?_eq_some_iff.1 Rb.out).1 Rb.out))
          have Rc := Lib.hid ((hb5.block _ (Array.getElem?_eq_some_iff.1 (hOld v4 (.cells #[.int .i64 (X1), .int .i64 (X2), .int .i64 (X3)] 36) _ _ (Array.getElem?_eq_some_iff.1 Rc.out).1 Rc.out)).1).trans (hOld v4 (.cells #[.int .i64 (X1), .int .i64 (X2), .int .i64 (X3)] 36) _ _ (Array.getElem?_eq_some_iff.1 Rc.out).1 Rc.out))
          have Rs := Lib.hid ((hb5.block _ (Array.getElem?_eq_some_iff.1 (hOld v4 (.cells #[.int .i64 (X1), .int .i64 (X2), .int .i64 (X3)] 36) _ _ (Array.getElem?_eq_some_iff.1 Rs.out).1 Rs.out)).1).trans (hOld v4 (.cells #[.int .i64 (X1), .int .i64 (X2), .int .i64 (X3)] 36) _ _ (Array.getElem?_eq_some_iff.1 Rs.out).1 Rs.out))
          have Rx := Lib.hid ((hb5.block _ (Array.getElem?_eq_some_iff.1 (hNew v4 (.cells #[.int .i64 (X1), .int .i64 (X2), .int .i64 (X3)] 36) v4.heap.size rfl)).1).trans (hNew v4 (.cells #[.int .i64 (X1), .int .i64 (X2), .int .i64 (X3)] 36) v4.heap.size rfl))
          have HB := Lib.hid ((HB.out.alloc HB.out.size (.cells #[.int .i64 (X1), .int .i64 (X2), .int .i64 (X3)] 36)).trans (hb5.mono (HB.out.alloc HB.out.size (.cells #[.int .i64 (X1), .int .i64 (X2), .int .i64 (X3)] 36)).size))
          generalize v4.heap.size = gx at Rx ⊢
          clear hb5
          obtain ⟨kax, kay, kaz, _, _, _⟩ := own3 Ra.out
          have kal := (Array.getElem?_eq_some_iff.1 Ra.out).1
          obtain ⟨kbx, kby, kbz, _, _, _⟩ := own3 Rb.out
          have kbl := (Array.getElem?_eq_some_iff.1 Rb.out).1
          obtain ⟨kcx, kcy, kcz, _, _, _⟩ := own3 Rc.out
          have kcl := (Array.getElem?_eq_some_iff.1 Rc.out).1
          obtain ⟨ksx, ksy, ksz, _, _, _⟩ := own3 Rs.out
          have ksl := (Array.getElem?_eq_some_iff.1 Rs.out).1
          obtain ⟨kxx, kxy, kxz, _, _, _⟩ := own3 Rx.out
          have kxl := (Array.getElem?_eq_some_iff.1 Rx.out).1
          go_wp2_with fail
          refine (HA2.out _).mono ?_
          rintro e v6 ⟨rfl, hb6⟩
          clear kax kay kaz kal kbx kby kbz kbl kcx kcy kcz kcl ksx ksy ksz ksl kxx kxy kxz kxl
          have Ra := Lib.hid ((hb6.block _ (Array.getElem?_eq_some_iff.1 (hOld v5 (.cells #[.int .i64 (-X1), .int .i64 (-X2), .int .i64 (-X3)] 36) _ _ (Array.getElem?_eq_some_iff.1 Ra.out).1 Ra.out)).1).trans (hOld v5 (.cells #[.int .i64 (-X1), .int .i64 (-X2), .int .i64 (-X3)] 36) _ _ (Array.getElem?_eq_some_iff.1 Ra.out).1 Ra.out))
          have Rb := Lib.hid ((hb6.block _ (Array.getElem?_eq_some_iff.1 (hOld v5 (.cells #[.int .i64 (-X1), .int .i64 (-X2), .int .i64 (-X3)] 36) _ _ (Array.getElem?_eq_some_iff.1 Rb.out).1 Rb.out)).1).trans (hOld v5 (.cells #[.int .i64 (-X1), .int .i64 (-X2), .int .i64 (-X3)] 36) _ _ (Array.getElem?_eq_some_iff.1 Rb.out).1 Rb.out))
          have Rc := Lib.hid ((hb6.block _ (Array.getElem?_eq_some_iff.1 (hOld v5 (.cells #[.int .i64 (-X1), .int .i64 (-X2), .int .i64 (-X3)] 36) _ _ (Array.getElem?_eq_some_iff.1 Rc.out).1 Rc.out)).1).trans (hOld v5 (.cells #[.int .i64 (-X1), .int .i64 (-X2), .int .i64 (-X3)] 36) _ _ (Array.getElem?_eq_some_iff.1 Rc.out).1 Rc.out))
          have Rs := Lib.hid ((hb6.block _ (Array.getElem?_eq_some_iff.1 (hOld v5 (.cells #[.int .i64 (-X1), .int .i64 (-X2), .int .i64 (-X3)] 36) _ _ (Array.getElem?_eq_some_iff.1 Rs.out).1 Rs.out)).1).trans (hOld v5 (.cells #[.int .i64 (-X1), .int .i64 (-X2), .int .i64 (-X3)] 36) _ _ (Array.getElem?_eq_some_iff.1 Rs.out).1 Rs.out))
          have Rx := Lib.hid ((hb6.block _ (Array.getElem?_eq_some_iff.1 (hOld v5 (.cells #[.int .i64 (-X1), .int .i64 (-X2), .int .i64 (-X3)] 36) _ _ (Array.getElem?_eq_some_iff.1 Rx.out).1 Rx.out)).1).trans (hOld v5 (.cells #[.int .i64 (-X1), .int .i64 (-X2), .int .i64 (-X3)] 36) _ _ (Array.getElem?_eq_some_iff.1 Rx.out).1 Rx.out))
          have Ry := Lib.hid ((hb6.block _ (Array.getElem?_eq_some_iff.1 (hNew v5 (.cells #[.int .i64 (-X1), .int .i64 (-X2), .int .i64 (-X3)] 36) v5.heap.size rfl)).1).trans (hNew v5 (.cells #[.int .i64 (-X1), .int .i64 (-X2), .int .i64 (-X3)] 36) v5.heap.size rfl))
          have HB := Lib.hid ((HB.out.alloc HB.out.size (.cells #[.int .i64 (-X1), .int .i64 (-X2), .int .i64 (-X3)] 36)).trans (hb6.mono (HB.out.alloc HB.out.size (.cells #[.int .i64 (-X1), .int .i64 (-X2), .int .i64 (-X3)] 36)).size))
          generalize v5.heap.size = gy at Ry ⊢
          clear hb6
          obtain ⟨kax, kay, kaz, _, _, _⟩ := own3 Ra.out
          have kal := (Array.getElem?_eq_some_iff.1 Ra.out).1
          obtain ⟨kbx, kby, kbz, _, _, _⟩ := own3 Rb.out
          have kbl := (Array.getElem?_eq_some_iff.1 Rb.out).1
          obtain ⟨kcx, kcy, kcz, _, _, _⟩ := own3 Rc.out
          have kcl := (Array.getElem?_eq_some_iff.1 Rc.out).1
          obtain ⟨ksx, ksy, ksz, _, _, _⟩ := own3 Rs.out
          have ksl := (Array.getElem?_eq_some_iff.1 Rs.out).1
          obtain ⟨kxx, kxy, kxz, _, _, _⟩ := own3 Rx.out
          have kxl := (Array.getElem?_eq_some_iff.1 Rx.out).1
          obtain ⟨kyx, kyy, kyz, _, _, _⟩ := own3 Ry.out
          have kyl := (Array.getElem?_eq_some_iff.1 Ry.out).1
          go_wp2_with fail
          refine (HA3.out _).mono ?_
          rintro e v7 ⟨rfl, hb7⟩
          clear kax kay kaz kal kbx kby kbz kbl kcx kcy kcz kcl ksx ksy ksz ksl kxx kxy kxz kxl kyx kyy kyz kyl
          have Ra := Lib.hid ((hb7.block _ (Array.getElem?_eq_some_iff.1 (hOld v6 (.cells #[.int .i64 (P1), .int .i64 (P2), .int .i64 (P3)] 23) _ _ (Array.getElem?_eq_some_iff.1 Ra.out).1 Ra.out)).1).trans (hOld v6 (.cells #[.int .i64 (P1), .int .i64 (P2), .int .i64 (P3)] 23) _ _ (Array.getElem?_eq_some_iff.1 Ra.out).1 Ra.out))
          have Rb := Lib.hid ((hb7.block _ (Array.getElem?_eq_some_iff.1 (hOld v6 (.cells #[.int .i64 (P1), .int .i64 (P2), .int .i64 (P3)] 23) _ _ (Array.getElem?_eq_some_iff.1 Rb.out).1 Rb.out)).1).trans (hOld v6 (.cells #[.int .i64 (P1), .int .i64 (P2), .int .i64 (P3)] 23) _ _ (Array.getElem?_eq_some_iff.1 Rb.out).1 Rb.out))
          have Rc := Lib.hid ((hb7.block _ (Array.getElem?_eq_some_iff.1 (hOld v6 (.cells #[.int .i64 (P1), .int .i64 (P2), .int .i64 (P3)] 23) _ _ (Array.getElem?_eq_some_iff.1 Rc.out).1 Rc.out)).1).trans (hOld v6 (.cells #[.int .i64 (P1), .int .i64 (P2), .int .i64 (P3)] 23) _ _ (Array.getElem?_eq_some_iff.1 Rc.out).1 Rc.out))
          have Rs := Lib.hid ((hb7.block _ (Array.getElem?_eq_some_iff.1 (hOld v6 (.cells #[.int .i64 (P1), .int .i64 (P2), .int .i64 (P3)] 23) _ _ (Array.getElem?_eq_some_iff.1 Rs.out).1 Rs.out)).1).trans (hOld v6 (.cells #[.int .i64 (P1), .int .i64 (P2), .int .i64 (P3)] 23) _ _ (Array.getElem?_eq_some_iff.1 Rs.out).1 Rs.out))
          have Rx := Lib.hid ((hb7.block _ (Array.getElem?_eq_some_iff.1 (hOld v6 (.cells #[.int .i64 (P1), .int .i64 (P2), .int .i64 (P3)] 23) _ _ (Array.getElem?_eq_some_iff.1 Rx.out).1 Rx.out)).1).trans (hOld v6 (.cells #[.int .i64 (P1), .int .i64 (P2), .int .i64 (P3)] 23) _ _ (Array.getElem?_eq_some_iff.1 Rx.out).1 Rx.out))
          have Ry := Lib.hid ((hb7.block _ (Array.getElem?_eq_some_iff.1 (hOld v6 (.cells #[.int .i64 (P1), .int .i64 (P2), .int .i64 (P3)] 23) _ _ (Array.getElem?_eq_some_iff.1 Ry.out).1 Ry.out)).1).trans (hOld v6 (.cells #[.int .i64 (P1), .int .i64 (P2), .int .i64 (P3)] 23) _ _ (Array.getElem?_eq_some_iff.1 Ry.out).1 Ry.out))
          have Rp := Lib.hid ((hb7.block _ (Array.getElem?_eq_some_iff.1 (hNew v6 (.cells #[.int .i64 (P1), .int .i64 (P2), .int .i64 (P3)] 23) v6.heap.size rfl)).1).trans (hNew v6 (.cells #[.int .i64 (P1), .int .i64 (P2), .int .i64 (P3)] 23) v6.heap.size rfl))
          have HB := Lib.hid ((HB.out.alloc HB.out.size (.cells #[.int .i64 (P1), .int .i64 (P2), .int .i64 (P3)] 23)).trans (hb7.mono (HB.out.alloc HB.out.size (.cells #[.int .i64 (P1), .int .i64 (P2), .int .i64 (P3)] 23)).size))
          generalize v6.heap.size = gp at Rp ⊢
          clear hb7
          obtain ⟨kax, kay, kaz, _, _, _⟩ := own3 Ra.out
          have kal := (Array.getElem?_eq_some_iff.1 Ra.out).1
          obtain ⟨kbx, kby, kbz, _, _, _⟩ := own3 Rb.out
          have kbl := (Array.getElem?_eq_some_iff.1 Rb.out).1
          obtain ⟨kcx, kcy, kcz, _, _, _⟩ := own3 Rc.out
          have kcl := (Array.getElem?_eq_some_iff.1 Rc.out).1
          obtain ⟨ksx, ksy, ksz, _, _, _⟩ := own3 Rs.out
          have ksl := (Array.getElem?_eq_some_iff.1 Rs.out).1
          obtain ⟨kxx, kxy, kxz, _, _, _⟩ := own3 Rx.out
          have kxl := (Array.getElem?_eq_some_iff.1 Rx.out).1
          obtain ⟨kyx, kyy, kyz, _, _, _⟩ := own3 Ry.out
          have kyl := (Array.getElem?_eq_some_iff.1 Ry.out).1
          obtain ⟨kpx, kpy, kpz, _, _, _⟩ := own3 Rp.out
          have kpl := (Array.getElem?_eq_some_iff.1 Rp.out).1
          go_wp2_with fail
          refine (HS1.out _).mono ?_
          rintro e v8 ⟨rfl, hb8⟩
          clear kax kay kaz kal kbx kby kbz kbl kcx kcy kcz kcl ksx ksy ksz ksl kxx kxy kxz kxl kyx kyy kyz kyl kpx kpy kpz kpl
          have Ra := Lib.hid ((hb8.block _ (Array.getElem?_eq_some_iff.1 (hOld v7 (.cells #[.int .i64 (Q1), .int .i64 (Q2), .int .i64 (Q3)] 23) _ _ (Array.getElem?_eq_some_iff.1 Ra.out).1 Ra.out)).1).trans (hOld v7 (.cells #[.int .i64 (Q1), .int .i64 (Q2), .int .i64 (Q3)] 23) _ _ (Array.getElem?_eq_some_iff.1 Ra.out).1 Ra.out))
          have Rb := Lib.hid ((hb8.block _ (Array.getElem?_eq_some_iff.1 (hOld v7 (.cells #[.int .i64 (Q1), .int .i64 (Q2), .int .i64 (Q3)] 23) _ _ (Array.getElem?_eq_some_iff.1 Rb.out).1 Rb.out)).1).trans (hOld v7 (.cells #[.int .i64 (Q1), .int .i64 (Q2), .int .i64 (Q3)] 23) _ _ (Array.getElem?_eq_some_iff.1 Rb.out).1 Rb.out))
          have Rc := Lib.hid ((hb8.block _ (Array.getElem?_eq_some_iff.1 (hOld v7 (.cells #[.int .i64 (Q1), .int .i64 (Q2), .int .i64 (Q3)] 23) _ _ (Array.getElem?_eq_some_iff.1 Rc.out).1 Rc.out)).1).trans (hOld v7 (.cells #[.int .i64 (Q1), .int .i64 (Q2), .int .i64 (Q3)] 23) _ _ (Array.getElem?_eq_some_iff.1 Rc.out).1 Rc.out))
          have Rs := Lib.hid ((hb8.block _ (Array.getElem?_eq_some_iff.1 (hOld v7 (.cells #[.int .i64 (Q1), .int .i64 (Q2), .int .i64 (Q3)] 23) _ _ (Array.getElem?_eq_some_iff.1 Rs.out).1 Rs.out)).1).trans (hOld v7 (.cells #[.int .i64 (Q1), .int .i64 (Q2), .int .i64 (Q3)] 23) _ _ (Array.getElem?_eq_some_iff.1 Rs.out).1 Rs.out))
          have Rx := Lib.hid ((hb8.block _ (Array.getElem?_eq_some_iff.1 (hOld v7 (.cells #[.int .i64 (Q1), .int .i64 (Q2), .int .i64 (Q3)] 23) _ _ (Array.getElem?_eq_some_iff.1 Rx.out).1 Rx.out)).1).trans (hOld v7 (.cells #[.int .i64 (Q1), .int .i64 (Q2), .int .i64 (Q3)] 23) _ _ (Array.getElem?_eq_some_iff.1 Rx.out).1 Rx.out))
          have Ry := Lib.hid ((hb8.block _ (Array.getElem?_eq_some_iff.1 (hOld v7 (.cells #[.int .i64 (Q1), .int .i64 (Q2), .int .i64 (Q3)] 23) _ _ (Array.getElem?_eq_some_iff.1 Ry.out).1 Ry.out)).1).trans (hOld v7 (.cells #[.int .i64 (Q1), .int .i64 (Q2), .int .i64 (Q3)] 23) _ _ (Array.getElem?_eq_some_iff.1 Ry.out).1 Ry.out))
          have Rp := Lib.hid ((hb8.block _ (Array.getElem?_eq_some_iff.1 (hOld v7 (.cells #[.int .i64 (Q1), .int .i64 (Q2), .int .i64 (Q3)] 23) _ _ (Array.getElem?_eq_some_iff.1 Rp.out).1 Rp.out)).1).trans (hOld v7 (.cells #[.int .i64 (Q1), .int .i64 (Q2), .int .i64 (Q3)] 23) _ _ (Array.getElem?_eq_some_iff.1 Rp.out).1 Rp.out))
          have Rq := Lib.hid ((hb8.block _ (Array.getElem?_eq_some_iff.1 (hNew v7 (.cells #[.int .i64 (Q1), .int .i64 (Q2), .int .i64 (Q3)] 23) v7.heap.size rfl)).1).trans (hNew v7 (.cells #[.int .i64 (Q1), .int .i64 (Q2), .int .i64 (Q3)] 23) v7.heap.size rfl))
          have HB := Lib.hid ((HB.out.alloc HB.out.size (.cells #[.int .i64 (Q1), .int .i64 (Q2), .int .i64 (Q3)] 23)).trans (hb8.mono (HB.out.alloc HB.out.size (.cells #[.int .i64 (Q1), .int .i64 (Q2), .int .i64 (Q3)] 23)).size))
          generalize v7.heap.size = gq at Rq ⊢
          clear hb8
          obtain ⟨kax, kay, kaz, _, _, _⟩ := own3 Ra.out
          have kal := (Array.getElem?_eq_some_iff.1 Ra.out).1
          obtain ⟨kbx, kby, kbz, _, _, _⟩ := own3 Rb.out
          have kbl := (Array.getElem?_eq_some_iff.1 Rb.out).1
          obtain ⟨kcx, kcy, kcz, _, _, _⟩ := own3 Rc.out
          have kcl := (Array.getElem?_eq_some_iff.1 Rc.out).1
          obtain ⟨ksx, ksy, ksz, _, _, _⟩ := own3 Rs.out
          have ksl := (Array.getElem?_eq_some_iff.1 Rs.out).1
          obtain ⟨kxx, kxy, kxz, _, _, _⟩ := own3 Rx.out
          have kxl := (Array.getElem?_eq_some_iff.1 Rx.out).1
          obtain ⟨kyx, kyy, kyz, _, _, _⟩ := own3 Ry.out
          have kyl := (Array.getElem?_eq_some_iff.1 Ry.out).1
          obtain ⟨kpx, kpy, kpz, _, _, _⟩ := own3 Rp.out
          have kpl := (Array.getElem?_eq_some_iff.1 Rp.out).1
          obtain ⟨kqx, kqy, kqz, _, _, _⟩ := own3 Rq.out
          have kql := (Array.getElem?_eq_some_iff.1 Rq.out).1
          go_wp2_with fail
          refine (HS2.out _).mono ?_
          rintro e v9 ⟨rfl, hb9⟩
          clear kax kay kaz kal kbx kby kbz kbl kcx kcy kcz kcl ksx ksy ksz ksl kxx kxy kxz kxl kyx kyy kyz kyl kpx kpy kpz kpl kqx kqy kqz kql
          have Ra := Lib.hid ((hb9.block _ (Array.getElem?_eq_some_iff.1 Ra.out).1).trans Ra.out)
          have Rb := Lib.hid ((hb9.block _ (Array.getElem?_eq_some_iff.1 Rb.out).1).trans Rb.out)
          have Rc := Lib.hid ((hb9.block _ (Array.getElem?_eq_some_iff.1 Rc.out).1).trans Rc.out)
          have Rs := Lib.hid ((hb9.block _ (Array.getElem?_eq_some_iff.1 Rs.out).1).trans Rs.out)
          have Rx := Lib.hid ((hb9.block _ (Array.getElem?_eq_some_iff.1 Rx.out).1).trans Rx.out)
          have Ry := Lib.hid ((hb9.block _ (Array.getElem?_eq_some_iff.1 Ry.out).1).trans Ry.out)
          have Rp := Lib.hid ((hb9.block _ (Array.getElem?_eq_some_iff.1 Rp.out).1).trans Rp.out)
          have Rq := Lib.hid ((hb9.block _ (Array.getElem?_eq_some_iff.1 Rq.out).1).trans Rq.out)
          have HB := Lib.hid (HB.out.trans (hb9.mono HB.out.size))
          clear hb9
          obtain ⟨kax, kay, kaz, _, _, _⟩ := own3 Ra.out
          have kal := (Array.getElem?_eq_some_iff.1 Ra.out).1
          obtain ⟨kbx, kby, kbz, _, _, _⟩ := own3 Rb.out
          have kbl := (Array.getElem?_eq_some_iff.1 Rb.out).1
          obtain ⟨kcx, kcy, kcz, _, _, _⟩ := own3 Rc.out
          have kcl := (Array.getElem?_eq_some_iff.1 Rc.out).1
          obtain ⟨ksx, ksy, ksz, _, _, _⟩ := own3 Rs.out
          have ksl := (Array.getElem?_eq_some_iff.1 Rs.out).1
          obtain ⟨kxx, kxy, kxz, _, _, _⟩ := own3 Rx.out
          have kxl := (Array.getElem?_eq_some_iff.1 Rx.out).1
          obtain ⟨kyx, kyy, kyz, _, _, _⟩ := own3 Ry.out
          have kyl := (Array.getElem?_eq_some_iff.1 Ry.out).1
          obtain ⟨kpx, kpy, kpz, _, _, _⟩ := own3 Rp.out
          have kpl := (Array.getElem?_eq_some_iff.1 Rp.out).1
          obtain ⟨kqx, kqy, kqz, _, _, _⟩ := own3 Rq.out
          have kql := (Array.getElem?_eq_some_iff.1 Rq.out).1
          go_wp2_with fail
          go_ret
          exact ⟨rfl, HB.out⟩
end Go.Proofs.Ytdmgehfdahjneaa
