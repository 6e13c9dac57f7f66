/- The walk of VectorPrimitives. -/
import Derived.Test.YtdmgehfdahjneaaVeI
import Derived.Test.YtdmgehfdahjneaaVeY
import Derived.Test.YtdmgehfdahjneaaVeZ
namespace Go.Proofs.Ytdmgehfdahjneaa
open Go.RowKit

theorem made1 (w : World) (A : Obj) : (w.alloc A).heap[w.heap.size]? = some A ∧ Below w.heap.size w (w.alloc A) ∧ (w.alloc A).heap.size = w.heap.size + 1 :=
  ⟨hNew _ _ _ rfl, bAl (Below.refl _ _), szA _ _⟩

set_option maxRecDepth 20000 in
set_option maxHeartbeats 8000000 in
theorem vectorPrimitives_any (a1 a2 a3 : Int) (w : World) : Calls Try.prog 5 #[.agg #[.int .i64 a1, .int .i64 a2, .int .i64 a3]] w fun e w' => e = .returned (.bool true) ∧ Below w.heap.size w w' := by
  have HP := Lib.hid (fun W => prim_any (a1, a2, a3) W)
  have HI := Lib.hid (fun W => rIn (a1, a2, a3) W)
  have qz := fun W => eqlVec 0 0 0 0 0 0 W
  rw [show decide ((0 : Int) = 0 ∧ (0 : Int) = 0 ∧ (0 : Int) = 0) = true by decide] at qz
  have qv := fun W => eqlVec a1 a2 a3 0 0 0 W
  have HW := Lib.hid (fun W => awake_any W)
  have HMd := Lib.hid (fun t => made1 w (.cells #[.int .i64 a1, .int .i64 a2, .int .i64 a3] t))
  go_enter Try.func5, Try.ntmps5
  go_wp2_with fail
  refine (HW.out _).mono ?_
  rintro e w1 ⟨rfl, hb⟩
  obtain ⟨m0, m1, m2⟩ := HMd.out 23
  have Ra := Lib.hid ((hb.block _ (by rw [m2]; omega)).trans m0)
  have HB := Lib.hid (m1.trans (hb.mono (by rw [m2]; omega)))
  clear m0 m1 m2 hb HMd HW
  obtain ⟨kax, kay, kaz, _, _, _⟩ := own3 Ra.out
  have kal := (Array.getElem?_eq_some_iff.1 Ra.out).1
  cases hv : inV (a1, a2, a3) with
  | false =>
    rw [show primV (a1, a2, a3) = (0, 0, 0) by simp [primV, hv], show primK (a1, a2, a3) = 0 by simp [primK, hv], show primE (a1, a2, a3) = 6 by simp [primE, hv]] at HP
    rw [hv] at HI
    clear hv
    go_wp2_with fail
    refine (HP.out _).mono ?_
    rintro e v1 ⟨rfl, hb1⟩
    clear kax kay kaz kal
    have Ra := Lib.hid ((hb1.block _ (Array.getElem?_eq_some_iff.1 Ra.out).1).trans Ra.out)
    have HB := Lib.hid (HB.out.trans (hb1.mono HB.out.size))
    clear hb1
    obtain ⟨kax, kay, kaz, _, _, _⟩ := own3 Ra.out
    have kal := (Array.getElem?_eq_some_iff.1 Ra.out).1
    go_wp2_with fail
    refine (HI.out _).mono ?_
    rintro e v2 ⟨rfl, hb2⟩
    clear kax kay kaz kal
    have Ra := Lib.hid ((hb2.block _ (Array.getElem?_eq_some_iff.1 (hOld v1 (.cells #[.int .i64 (0), .int .i64 (0), .int .i64 (0)] 23) _ _ (Array.getElem?_eq_some_iff.1 Ra.out).1 Ra.out)).1).trans (hOld v1 (.cells #[.int .i64 (0), .int .i64 (0), .int .i64 (0)] 23) _ _ (Array.getElem?_eq_some_iff.1 Ra.out).1 Ra.out))
    have Rp := Lib.hid ((hb2.block _ (Array.getElem?_eq_some_iff.1 (hNew v1 (.cells #[.int .i64 (0), .int .i64 (0), .int .i64 (0)] 23) v1.heap.size rfl)).1).trans (hNew v1 (.cells #[.int .i64 (0), .int .i64 (0), .int .i64 (0)] 23) v1.heap.size rfl))
    have HB := Lib.hid ((HB.out.alloc HB.out.size (.cells #[.int .i64 (0), .int .i64 (0), .int .i64 (0)] 23)).trans (hb2.mono (HB.out.alloc HB.out.size (.cells #[.int .i64 (0), .int .i64 (0), .int .i64 (0)] 23)).size))
    generalize v1.heap.size = gp at Rp ⊢
    clear hb2
    obtain ⟨kax, kay, kaz, _, _, _⟩ := own3 Ra.out
    have kal := (Array.getElem?_eq_some_iff.1 Ra.out).1
    obtain ⟨kpx, kpy, kpz, _, _, _⟩ := own3 Rp.out
    have kpl := (Array.getElem?_eq_some_iff.1 Rp.out).1
    go_wp2_with fail
    go_ret
    exact ⟨rfl, HB.out⟩
  | true =>
    by_cases hz : a1 = 0 ∧ a2 = 0 ∧ a3 = 0
    · have hz' : zeroV (a1, a2, a3) = true := decide_eq_true hz
      rw [show primV (a1, a2, a3) = (0, 0, 0) by simp [primV, hz'], show primK (a1, a2, a3) = 0 by simp [primK, hz'], show primE (a1, a2, a3) = 1 by simp [primE, hv, hz']] at HP
      rw [hv] at HI
      rw [decide_eq_true hz] at qv
      clear hv hz hz'
      go_wp2_with fail
      refine (HP.out _).mono ?_
      rintro e v1 ⟨rfl, hb1⟩
      clear kax kay kaz kal
      have Ra := Lib.hid ((hb1.block _ (Array.getElem?_eq_some_iff.1 Ra.out).1).trans Ra.out)
      have HB := Lib.hid (HB.out.trans (hb1.mono HB.out.size))
      clear hb1
      obtain ⟨kax, kay, kaz, _, _, _⟩ := own3 Ra.out
      have kal := (Array.getElem?_eq_some_iff.1 Ra.out).1
      go_wp2_with fail
      refine (HI.out _).mono ?_
      rintro e v2 ⟨rfl, hb2⟩
      clear kax kay kaz kal
      have Ra := Lib.hid ((hb2.block _ (Array.getElem?_eq_some_iff.1 (hOld v1 (.cells #[.int .i64 (0), .int .i64 (0), .int .i64 (0)] 23) _ _ (Array.getElem?_eq_some_iff.1 Ra.out).1 Ra.out)).1).trans (hOld v1 (.cells #[.int .i64 (0), .int .i64 (0), .int .i64 (0)] 23) _ _ (Array.getElem?_eq_some_iff.1 Ra.out).1 Ra.out))
      have Rp := Lib.hid ((hb2.block _ (Array.getElem?_eq_some_iff.1 (hNew v1 (.cells #[.int .i64 (0), .int .i64 (0), .int .i64 (0)] 23) v1.heap.size rfl)).1).trans (hNew v1 (.cells #[.int .i64 (0), .int .i64 (0), .int .i64 (0)] 23) v1.heap.size rfl))
      have HB := Lib.hid ((HB.out.alloc HB.out.size (.cells #[.int .i64 (0), .int .i64 (0), .int .i64 (0)] 23)).trans (hb2.mono (HB.out.alloc HB.out.size (.cells #[.int .i64 (0), .int .i64 (0), .int .i64 (0)] 23)).size))
      generalize v1.heap.size = gp at Rp ⊢
      clear hb2
      obtain ⟨kax, kay, kaz, _, _, _⟩ := own3 Ra.out
      have kal := (Array.getElem?_eq_some_iff.1 Ra.out).1
      obtain ⟨kpx, kpy, kpz, _, _, _⟩ := own3 Rp.out
      have kpl := (Array.getElem?_eq_some_iff.1 Rp.out).1
      go_wp2_with fail
      go_ret
      exact ⟨rfl, HB.out⟩
    · have hz' : zeroV (a1, a2, a3) = false := decide_eq_false hz
      have HRP := Lib.hid (fun W => rPrim a1 a2 a3 hv hz W)
      rw [show primV (a1, a2, a3) = (a1.tdiv (gcd3 a1 a2 a3), a2.tdiv (gcd3 a1 a2 a3), a3.tdiv (gcd3 a1 a2 a3)) by simp [primV, hv, hz'], show primK (a1, a2, a3) = (gcd3 a1 a2 a3 : Int) by simp [primK, hv, hz'], show primE (a1, a2, a3) = 0 by simp [primE, hv, hz']] at HP
      rw [hv] at HI
      rw [decide_eq_false hz] at qv
      simp only at HP
      generalize a1.tdiv (gcd3 a1 a2 a3) = X at HP HRP
      generalize a2.tdiv (gcd3 a1 a2 a3) = Y at HP HRP
      generalize a3.tdiv (gcd3 a1 a2 a3) = Z at HP HRP
      generalize (gcd3 a1 a2 a3 : Int) = K at HP HRP
      have qp := fun W => eqlVec X Y Z X Y Z W
      rw [decide_eq_true ⟨rfl, rfl, rfl⟩] at qp
      clear hv hz hz' qz
      go_wp2_with fail
      refine (HP.out _).mono ?_
      rintro e v1 ⟨rfl, hb1⟩
      clear kax kay kaz kal
      have Ra := Lib.hid ((hb1.block _ (Array.getElem?_eq_some_iff.1 Ra.out).1).trans Ra.out)
      have HB := Lib.hid (HB.out.trans (hb1.mono HB.out.size))
      clear hb1
      obtain ⟨kax, kay, kaz, _, _, _⟩ := own3 Ra.out
      have kal := (Array.getElem?_eq_some_iff.1 Ra.out).1
      go_wp2_with fail
      refine (HI.out _).mono ?_
      rintro e v2 ⟨rfl, hb2⟩
      clear kax kay kaz kal
      have Ra := Lib.hid ((hb2.block _ (Array.getElem?_eq_some_iff.1 (hOld v1 (.cells #[.int .i64 (X), .int .i64 (Y), .int .i64 (Z)] 23) _ _ (Array.getElem?_eq_some_iff.1 Ra.out).1 Ra.out)).1).trans (hOld v1 (.cells #[.int .i64 (X), .int .i64 (Y), .int .i64 (Z)] 23) _ _ (Array.getElem?_eq_some_iff.1 Ra.out).1 Ra.out))
      have Rp := Lib.hid ((hb2.block _ (Array.getElem?_eq_some_iff.1 (hNew v1 (.cells #[.int .i64 (X), .int .i64 (Y), .int .i64 (Z)] 23) v1.heap.size rfl)).1).trans (hNew v1 (.cells #[.int .i64 (X), .int .i64 (Y), .int .i64 (Z)] 23) v1.heap.size rfl))
      have HB := Lib.hid ((HB.out.alloc HB.out.size (.cells #[.int .i64 (X), .int .i64 (Y), .int .i64 (Z)] 23)).trans (hb2.mono (HB.out.alloc HB.out.size (.cells #[.int .i64 (X), .int .i64 (Y), .int .i64 (Z)] 23)).size))
      generalize v1.heap.size = gp at Rp ⊢
      clear hb2
      obtain ⟨kax, kay, kaz, _, _, _⟩ := own3 Ra.out
      have kal := (Array.getElem?_eq_some_iff.1 Ra.out).1
      obtain ⟨kpx, kpy, kpz, _, _, _⟩ := own3 Rp.out
      have kpl := (Array.getElem?_eq_some_iff.1 Rp.out).1
      go_wp2_with fail
      refine (HRP.out _).mono ?_
      rintro e v3 ⟨rfl, hb3⟩
      clear kax kay kaz kal kpx kpy kpz kpl
      have Ra := Lib.hid ((hb3.block _ (Array.getElem?_eq_some_iff.1 Ra.out).1).trans Ra.out)
      have Rp := Lib.hid ((hb3.block _ (Array.getElem?_eq_some_iff.1 Rp.out).1).trans Rp.out)
      have HB := Lib.hid (HB.out.trans (hb3.mono HB.out.size))
      clear hb3
      obtain ⟨kax, kay, kaz, _, _, _⟩ := own3 Ra.out
      have kal := (Array.getElem?_eq_some_iff.1 Ra.out).1
      obtain ⟨kpx, kpy, kpz, _, _, _⟩ := own3 Rp.out
      have kpl := (Array.getElem?_eq_some_iff.1 Rp.out).1
      go_wp2_with fail
      go_ret
      exact ⟨rfl, HB.out.alloc HB.out.size _⟩
end Go.Proofs.Ytdmgehfdahjneaa
