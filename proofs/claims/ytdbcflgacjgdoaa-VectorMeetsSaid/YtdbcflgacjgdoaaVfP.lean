/- Contracts of layer 3: Meet of the reference, where a segment is a point. -/
import Derived.Test.YtdbcflgacjgdoaaVeK
namespace Go.Proofs.Ytdbcflgacjgdoaa
open Go.RowKit

set_option maxRecDepth 20000 in
set_option maxHeartbeats 8000000 in
theorem rmeet_point (a1 a2 b1 b2 c1 c2 d1 d2 : Int) (h : (a1 = b1 ∧ a2 = b2) ∨ (c1 = d1 ∧ c2 = d2)) (ia : InP (a1, a2)) (ib : InP (b1, b2)) (ic : InP (c1, c2)) (id : InP (d1, d2)) (w : World) : Calls Try.prog 17 #[.agg #[.int .i64 a1, .int .i64 a2], .agg #[.int .i64 b1, .int .i64 b2], .agg #[.int .i64 c1, .int .i64 c2], .agg #[.int .i64 d1, .int .i64 d2]] w fun e w' => e = .returned (.int .i64 (meetR (a1, a2) (b1, b2) (c1, c2) (d1, d2))) ∧ Below w.heap.size w w' := by
  have q1 := fun W => eqlPt a1 a2 b1 b2 W
  have q2 := fun W => eqlPt c1 c2 d1 d2 W
  have HO1 := Lib.hid (fun W => rOn (c1, c2) (d1, d2) (a1, a2) ic id ia W)
  have HO2 := Lib.hid (fun W => rOn (a1, a2) (b1, b2) (c1, c2) ia ib ic W)
  clear ia ib ic id
  have hR : meetR (a1, a2) (b1, b2) (c1, c2) (d1, d2) = if (a1 = b1 ∧ a2 = b2) ∧ onR (c1, c2) (d1, d2) (a1, a2) = true ∨ (c1 = d1 ∧ c2 = d2) ∧ onR (a1, a2) (b1, b2) (c1, c2) = true then 1 else 0 := by
    unfold meetR
    rw [if_pos (by simpa using h)]
    simp
  generalize meetR (a1, a2) (b1, b2) (c1, c2) (d1, d2) = r at hR ⊢
  generalize onR (c1, c2) (d1, d2) (a1, a2) = O1 at HO1 hR
  generalize onR (a1, a2) (b1, b2) (c1, c2) = O2 at HO2 hR
  have HR := Lib.hid hR
  clear hR
  have H := Lib.hid h
  clear h
  by_cases e1 : a1 = b1 ∧ a2 = b2
  · rw [decide_eq_true e1] at q1
    have E1 := Lib.hid e1
    clear e1
    cases O1
    · by_cases e2 : c1 = d1 ∧ c2 = d2
      · rw [decide_eq_true e2] at q2
        have E2 := Lib.hid e2
        clear e2
        cases O2
        · go_enter Try.func17, Try.ntmps17
          go_wp2_with fail
          obtain ⟨m1, m2, m3, m4, m5, m6⟩ := made4 w (.cells #[.int .i64 a1, .int .i64 a2] 35) (.cells #[.int .i64 b1, .int .i64 b2] 35) (.cells #[.int .i64 c1, .int .i64 c2] 35) (.cells #[.int .i64 d1, .int .i64 d2] 35)
          generalize (((w.alloc (.cells #[.int .i64 a1, .int .i64 a2] 35)).alloc (.cells #[.int .i64 b1, .int .i64 b2] 35)).alloc (.cells #[.int .i64 c1, .int .i64 c2] 35)).alloc (.cells #[.int .i64 d1, .int .i64 d2] 35) = w1 at m1 m2 m3 m4 m5 m6 ⊢
          have HM := Lib.hid (And.intro m1 (And.intro m2 (And.intro m3 (And.intro m4 (And.intro m5 m6)))))
          clear m1 m2 m3 m4 m5 m6
          have HC0 := Lib.hid (Below.refl w1.heap.size w1)
          refine (HO1.out _).mono ?_
          rintro e u1 ⟨rfl, hbb⟩
          have HC1 := Lib.hid (HC0.out.trans (hbb.mono HC0.out.size))
          clear hbb
          obtain ⟨m1, m2, m3, m4, m5, m6⟩ := HM.out
          obtain ⟨p1, p2, _⟩ := own2 ((HC1.out.block _ (by rw [m6]; omega)).trans m1)
          obtain ⟨p3, p4, _⟩ := own2 ((HC1.out.block _ (by rw [m6]; omega)).trans m2)
          obtain ⟨p5, p6, _⟩ := own2 ((HC1.out.block _ (by rw [m6]; omega)).trans m3)
          obtain ⟨p7, p8, _⟩ := own2 ((HC1.out.block _ (by rw [m6]; omega)).trans m4)
          have HB1 := Lib.hid (m5.trans (HC1.out.mono (by rw [m6]; omega)))
          clear m1 m2 m3 m4 m5 m6
          go_wp2_with fail
          refine (HO2.out _).mono ?_
          rintro e u2 ⟨rfl, hbb⟩
          have HC2 := Lib.hid (HC1.out.trans (hbb.mono HC1.out.size))
          clear hbb
          obtain ⟨m1, m2, m3, m4, m5, m6⟩ := HM.out
          obtain ⟨p1, p2, _⟩ := own2 ((HC2.out.block _ (by rw [m6]; omega)).trans m1)
          obtain ⟨p3, p4, _⟩ := own2 ((HC2.out.block _ (by rw [m6]; omega)).trans m2)
          obtain ⟨p5, p6, _⟩ := own2 ((HC2.out.block _ (by rw [m6]; omega)).trans m3)
          obtain ⟨p7, p8, _⟩ := own2 ((HC2.out.block _ (by rw [m6]; omega)).trans m4)
          have HB2 := Lib.hid (m5.trans (HC2.out.mono (by rw [m6]; omega)))
          clear m1 m2 m3 m4 m5 m6
          go_wp2_with fail
          go_ret
          rw [HR.out, if_neg (by simp [E1.out, E2.out])]
          exact ⟨rfl, HB2.out⟩
        · go_enter Try.func17, Try.ntmps17
          go_wp2_with fail
          obtain ⟨m1, m2, m3, m4, m5, m6⟩ := made4 w (.cells #[.int .i64 a1, .int .i64 a2] 35) (.cells #[.int .i64 b1, .int .i64 b2] 35) (.cells #[.int .i64 c1, .int .i64 c2] 35) (.cells #[.int .i64 d1, .int .i64 d2] 35)
          generalize (((w.alloc (.cells #[.int .i64 a1, .int .i64 a2] 35)).alloc (.cells #[.int .i64 b1, .int .i64 b2] 35)).alloc (.cells #[.int .i64 c1, .int .i64 c2] 35)).alloc (.cells #[.int .i64 d1, .int .i64 d2] 35) = w1 at m1 m2 m3 m4 m5 m6 ⊢
          have HM := Lib.hid (And.intro m1 (And.intro m2 (And.intro m3 (And.intro m4 (And.intro m5 m6)))))
          clear m1 m2 m3 m4 m5 m6
          have HC0 := Lib.hid (Below.refl w1.heap.size w1)
          refine (HO1.out _).mono ?_
          rintro e u1 ⟨rfl, hbb⟩
          have HC1 := Lib.hid (HC0.out.trans (hbb.mono HC0.out.size))
          clear hbb
          obtain ⟨m1, m2, m3, m4, m5, m6⟩ := HM.out
          obtain ⟨p1, p2, _⟩ := own2 ((HC1.out.block _ (by rw [m6]; omega)).trans m1)
          obtain ⟨p3, p4, _⟩ := own2 ((HC1.out.block _ (by rw [m6]; omega)).trans m2)
          obtain ⟨p5, p6, _⟩ := own2 ((HC1.out.block _ (by rw [m6]; omega)).trans m3)
          obtain ⟨p7, p8, _⟩ := own2 ((HC1.out.block _ (by rw [m6]; omega)).trans m4)
          have HB1 := Lib.hid (m5.trans (HC1.out.mono (by rw [m6]; omega)))
          clear m1 m2 m3 m4 m5 m6
          go_wp2_with fail
          refine (HO2.out _).mono ?_
          rintro e u2 ⟨rfl, hbb⟩
          have HC2 := Lib.hid (HC1.out.trans (hbb.mono HC1.out.size))
          clear hbb
          obtain ⟨m1, m2, m3, m4, m5, m6⟩ := HM.out
          obtain ⟨p1, p2, _⟩ := own2 ((HC2.out.block _ (by rw [m6]; omega)).trans m1)
          obtain ⟨p3, p4, _⟩ := own2 ((HC2.out.block _ (by rw [m6]; omega)).trans m2)
          obtain ⟨p5, p6, _⟩ := own2 ((HC2.out.block _ (by rw [m6]; omega)).trans m3)
          obtain ⟨p7, p8, _⟩ := own2 ((HC2.out.block _ (by rw [m6]; omega)).trans m4)
          have HB2 := Lib.hid (m5.trans (HC2.out.mono (by rw [m6]; omega)))
          clear m1 m2 m3 m4 m5 m6
          go_wp2_with fail
          go_ret
          rw [HR.out, if_pos (Or.inr ⟨E2.out, trivial⟩)]
          exact ⟨rfl, HB2.out⟩
      · rw [decide_eq_false e2] at q2
        have E2 := Lib.hid e2
        clear e2
        go_enter Try.func17, Try.ntmps17
        go_wp2_with fail
        obtain ⟨m1, m2, m3, m4, m5, m6⟩ := made4 w (.cells #[.int .i64 a1, .int .i64 a2] 35) (.cells #[.int .i64 b1, .int .i64 b2] 35) (.cells #[.int .i64 c1, .int .i64 c2] 35) (.cells #[.int .i64 d1, .int .i64 d2] 35)
        generalize (((w.alloc (.cells #[.int .i64 a1, .int .i64 a2] 35)).alloc (.cells #[.int .i64 b1, .int .i64 b2] 35)).alloc (.cells #[.int .i64 c1, .int .i64 c2] 35)).alloc (.cells #[.int .i64 d1, .int .i64 d2] 35) = w1 at m1 m2 m3 m4 m5 m6 ⊢
        have HM := Lib.hid (And.intro m1 (And.intro m2 (And.intro m3 (And.intro m4 (And.intro m5 m6)))))
        clear m1 m2 m3 m4 m5 m6
        have HC0 := Lib.hid (Below.refl w1.heap.size w1)
        refine (HO1.out _).mono ?_
        rintro e u1 ⟨rfl, hbb⟩
        have HC1 := Lib.hid (HC0.out.trans (hbb.mono HC0.out.size))
        clear hbb
        obtain ⟨m1, m2, m3, m4, m5, m6⟩ := HM.out
        obtain ⟨p1, p2, _⟩ := own2 ((HC1.out.block _ (by rw [m6]; omega)).trans m1)
        obtain ⟨p3, p4, _⟩ := own2 ((HC1.out.block _ (by rw [m6]; omega)).trans m2)
        obtain ⟨p5, p6, _⟩ := own2 ((HC1.out.block _ (by rw [m6]; omega)).trans m3)
        obtain ⟨p7, p8, _⟩ := own2 ((HC1.out.block _ (by rw [m6]; omega)).trans m4)
        have HB1 := Lib.hid (m5.trans (HC1.out.mono (by rw [m6]; omega)))
        clear m1 m2 m3 m4 m5 m6
        go_wp2_with fail
        go_ret
        rw [HR.out, if_neg (by simp [E1.out, E2.out])]
        exact ⟨rfl, HB1.out⟩
    · go_enter Try.func17, Try.ntmps17
      go_wp2_with fail
      obtain ⟨m1, m2, m3, m4, m5, m6⟩ := made4 w (.cells #[.int .i64 a1, .int .i64 a2] 35) (.cells #[.int .i64 b1, .int .i64 b2] 35) (.cells #[.int .i64 c1, .int .i64 c2] 35) (.cells #[.int .i64 d1, .int .i64 d2] 35)
      generalize (((w.alloc (.cells #[.int .i64 a1, .int .i64 a2] 35)).alloc (.cells #[.int .i64 b1, .int .i64 b2] 35)).alloc (.cells #[.int .i64 c1, .int .i64 c2] 35)).alloc (.cells #[.int .i64 d1, .int .i64 d2] 35) = w1 at m1 m2 m3 m4 m5 m6 ⊢
      have HM := Lib.hid (And.intro m1 (And.intro m2 (And.intro m3 (And.intro m4 (And.intro m5 m6)))))
      clear m1 m2 m3 m4 m5 m6
      have HC0 := Lib.hid (Below.refl w1.heap.size w1)
      refine (HO1.out _).mono ?_
      rintro e u1 ⟨rfl, hbb⟩
      have HC1 := Lib.hid (HC0.out.trans (hbb.mono HC0.out.size))
      clear hbb
      obtain ⟨m1, m2, m3, m4, m5, m6⟩ := HM.out
      obtain ⟨p1, p2, _⟩ := own2 ((HC1.out.block _ (by rw [m6]; omega)).trans m1)
      obtain ⟨p3, p4, _⟩ := own2 ((HC1.out.block _ (by rw [m6]; omega)).trans m2)
      obtain ⟨p5, p6, _⟩ := own2 ((HC1.out.block _ (by rw [m6]; omega)).trans m3)
      obtain ⟨p7, p8, _⟩ := own2 ((HC1.out.block _ (by rw [m6]; omega)).trans m4)
      have HB1 := Lib.hid (m5.trans (HC1.out.mono (by rw [m6]; omega)))
      clear m1 m2 m3 m4 m5 m6
      go_wp2_with fail
      go_ret
      rw [HR.out, if_pos (Or.inl ⟨E1.out, trivial⟩)]
      exact ⟨rfl, HB1.out⟩
  · have e2 : c1 = d1 ∧ c2 = d2 := H.out.resolve_left e1
    rw [decide_eq_false e1] at q1
    rw [decide_eq_true e2] at q2
    have E1 := Lib.hid e1
    have E2 := Lib.hid e2
    clear e1 e2
    cases O2
    · go_enter Try.func17, Try.ntmps17
      go_wp2_with fail
      obtain ⟨m1, m2, m3, m4, m5, m6⟩ := made4 w (.cells #[.int .i64 a1, .int .i64 a2] 35) (.cells #[.int .i64 b1, .int .i64 b2] 35) (.cells #[.int .i64 c1, .int .i64 c2] 35) (.cells #[.int .i64 d1, .int .i64 d2] 35)
      generalize (((w.alloc (.cells #[.int .i64 a1, .int .i64 a2] 35)).alloc (.cells #[.int .i64 b1, .int .i64 b2] 35)).alloc (.cells #[.int .i64 c1, .int .i64 c2] 35)).alloc (.cells #[.int .i64 d1, .int .i64 d2] 35) = w1 at m1 m2 m3 m4 m5 m6 ⊢
      have HM := Lib.hid (And.intro m1 (And.intro m2 (And.intro m3 (And.intro m4 (And.intro m5 m6)))))
      clear m1 m2 m3 m4 m5 m6
      have HC0 := Lib.hid (Below.refl w1.heap.size w1)
      refine (HO2.out _).mono ?_
      rintro e u1 ⟨rfl, hbb⟩
      have HC1 := Lib.hid (HC0.out.trans (hbb.mono HC0.out.size))
      clear hbb
      obtain ⟨m1, m2, m3, m4, m5, m6⟩ := HM.out
      obtain ⟨p1, p2, _⟩ := own2 ((HC1.out.block _ (by rw [m6]; omega)).trans m1)
      obtain ⟨p3, p4, _⟩ := own2 ((HC1.out.block _ (by rw [m6]; omega)).trans m2)
      obtain ⟨p5, p6, _⟩ := own2 ((HC1.out.block _ (by rw [m6]; omega)).trans m3)
      obtain ⟨p7, p8, _⟩ := own2 ((HC1.out.block _ (by rw [m6]; omega)).trans m4)
      have HB1 := Lib.hid (m5.trans (HC1.out.mono (by rw [m6]; omega)))
      clear m1 m2 m3 m4 m5 m6
      go_wp2_with fail
      go_ret
      rw [HR.out, if_neg (by simp [E1.out, E2.out])]
      exact ⟨rfl, HB1.out⟩
    · go_enter Try.func17, Try.ntmps17
      go_wp2_with fail
      obtain ⟨m1, m2, m3, m4, m5, m6⟩ := made4 w (.cells #[.int .i64 a1, .int .i64 a2] 35) (.cells #[.int .i64 b1, .int .i64 b2] 35) (.cells #[.int .i64 c1, .int .i64 c2] 35) (.cells #[.int .i64 d1, .int .i64 d2] 35)
      generalize (((w.alloc (.cells #[.int .i64 a1, .int .i64 a2] 35)).alloc (.cells #[.int .i64 b1, .int .i64 b2] 35)).alloc (.cells #[.int .i64 c1, .int .i64 c2] 35)).alloc (.cells #[.int .i64 d1, .int .i64 d2] 35) = w1 at m1 m2 m3 m4 m5 m6 ⊢
      have HM := Lib.hid (And.intro m1 (And.intro m2 (And.intro m3 (And.intro m4 (And.intro m5 m6)))))
      clear m1 m2 m3 m4 m5 m6
      have HC0 := Lib.hid (Below.refl w1.heap.size w1)
      refine (HO2.out _).mono ?_
      rintro e u1 ⟨rfl, hbb⟩
      have HC1 := Lib.hid (HC0.out.trans (hbb.mono HC0.out.size))
      clear hbb
      obtain ⟨m1, m2, m3, m4, m5, m6⟩ := HM.out
      obtain ⟨p1, p2, _⟩ := own2 ((HC1.out.block _ (by rw [m6]; omega)).trans m1)
      obtain ⟨p3, p4, _⟩ := own2 ((HC1.out.block _ (by rw [m6]; omega)).trans m2)
      obtain ⟨p5, p6, _⟩ := own2 ((HC1.out.block _ (by rw [m6]; omega)).trans m3)
      obtain ⟨p7, p8, _⟩ := own2 ((HC1.out.block _ (by rw [m6]; omega)).trans m4)
      have HB1 := Lib.hid (m5.trans (HC1.out.mono (by rw [m6]; omega)))
      clear m1 m2 m3 m4 m5 m6
      go_wp2_with fail
      go_ret
      rw [HR.out, if_pos (Or.inr ⟨E2.out, trivial⟩)]
      exact ⟨rfl, HB1.out⟩
end Go.Proofs.Ytdbcflgacjgdoaa
