/- The walk of VectorReduced. -/
import Derived.Test.YtdmgehfdahjneaaVeI
import Derived.Test.YtdmgehfdahjneaaVeY
import Derived.Test.YtdmgehfdahjneaaVeZ
namespace Go.Proofs.Ytdmgehfdahjneaa
open Go.RowKit

theorem made1 (w : World) (A : Obj) : (w.alloc A).heap[w.heap.size]? = some A ∧ Below w.heap.size w (w.alloc A) ∧ (w.alloc A).heap.size = w.heap.size + 1 :=
  ⟨hNew _ _ _ rfl, bAl (Below.refl _ _), szA _ _⟩
theorem inV_nat {x y z : Int} : inV (x, y, z) = true ↔ x.natAbs ≤ 1000000 ∧ y.natAbs ≤ 1000000 ∧ z.natAbs ≤ 1000000 := by
  simp [inV, inC]
  omega
/-- The primitive vector of the primitive vector, and of the opposite vector. -/
theorem prim_again {x y z : Int} (hv : inV (x, y, z) = true) (hz : ¬ (x = 0 ∧ y = 0 ∧ z = 0)) : ∃ X Y Z K : Int, primV (x, y, z) = (X, Y, Z) ∧ primK (x, y, z) = K ∧ primE (x, y, z) = 0 ∧ primV (X, Y, Z) = (X, Y, Z) ∧ primK (X, Y, Z) = 1 ∧ primE (X, Y, Z) = 0 ∧ primV (-x, -y, -z) = (-X, -Y, -Z) ∧ primK (-x, -y, -z) = K ∧ primE (-x, -y, -z) = 0 ∧ K * X = x ∧ K * Y = y ∧ K * Z = z ∧ 1 ≤ K ∧ X.natAbs ≤ 1000000 ∧ Y.natAbs ≤ 1000000 ∧ Z.natAbs ≤ 1000000 := by
  have hz' : zeroV (x, y, z) = false := decide_eq_false hz
  obtain ⟨bx, by', bz⟩ := inV_nat.1 hv
  have t1 := tdiv_abs x (gcd3 x y z) bx
  have t2 := tdiv_abs y (gcd3 x y z) by'
  have t3 := tdiv_abs z (gcd3 x y z) bz
  obtain ⟨d1, d2, d3⟩ := gcd3_dvd x y z
  have m1 := Int.mul_tdiv_cancel' d1
  have m2 := Int.mul_tdiv_cancel' d2
  have m3 := Int.mul_tdiv_cancel' d3
  have hp := gcd3_pos hz
  have hg := gcd3_tdiv hz
  have hn : inV (-x, -y, -z) = true := inV_nat.2 ⟨by omega, by omega, by omega⟩
  have hn' : zeroV (-x, -y, -z) = false := decide_eq_false (by simp only; omega)
  have hP : inV (x.tdiv (gcd3 x y z), y.tdiv (gcd3 x y z), z.tdiv (gcd3 x y z)) = true := inV_nat.2 ⟨t1, t2, t3⟩
  have hP' : zeroV (x.tdiv (gcd3 x y z), y.tdiv (gcd3 x y z), z.tdiv (gcd3 x y z)) = false := decide_eq_false (fun h => hz (by
    simp only at h
    rw [h.1, Int.mul_zero] at m1
    rw [h.2.1, Int.mul_zero] at m2
    rw [h.2.2, Int.mul_zero] at m3
    exact ⟨m1.symm, m2.symm, m3.symm⟩))
  refine ⟨x.tdiv (gcd3 x y z), y.tdiv (gcd3 x y z), z.tdiv (gcd3 x y z), (gcd3 x y z : Int), by simp [primV, hv, hz'], by simp [primK, hv, hz'], by simp [primE, hv, hz'], ?_, ?_, by simp [primE, hP, hP'], ?_, ?_, by simp [primE, hn, hn'], m1, m2, m3, by omega, t1, t2, t3⟩
  · simp [primV, hP, hP', hg]
  · simp [primK, hP, hP', hg]
  · simp [primV, hn, hn', gcd3_neg, Int.neg_tdiv]
  · simp [primK, hn, hn', gcd3_neg]

set_option maxRecDepth 20000 in
set_option maxHeartbeats 8000000 in
theorem vectorReduced_any (a1 a2 a3 : Int) (w : World) : Calls Try.prog 10 #[.agg #[.int .i64 a1, .int .i64 a2, .int .i64 a3]] w fun e w' => e = .returned (.bool true) ∧ Below w.heap.size w w' := by
  have HP : Hid (∀ x y z W, Calls Try.prog 27 #[.agg #[.int .i64 x, .int .i64 y, .int .i64 z]] W fun e w' => e = .returned (.tuple #[.agg #[.int .i64 (primV (x, y, z)).1, .int .i64 (primV (x, y, z)).2.1, .int .i64 (primV (x, y, z)).2.2], .int .i64 (primK (x, y, z)), .int .i64 (primE (x, y, z))]) ∧ Below W.heap.size W w') := fun x y z W => prim_any (x, y, z) W
  have HP1 := Lib.hid (fun W => HP.out a1 a2 a3 W)
  have HW := Lib.hid (fun W => awake_any W)
  have HMd := Lib.hid (fun t => made1 w (.cells #[.int .i64 a1, .int .i64 a2, .int .i64 a3] t))
  go_enter Try.func10, Try.ntmps10
  go_wp2_with fail
  refine (HW.out _).mono ?_
  rintro e w1 ⟨rfl, hb⟩
  obtain ⟨m0, m1, m2⟩ := HMd.out 23
  have Ra := Lib.hid ((hb.block _ (by rw [m2]; omega)).trans m0)
  have HB := Lib.hid (m1.trans (hb.mono (by rw [m2]; omega)))
  clear m0 m1 m2 hb HMd HW
  obtain ⟨kax, kay, kaz, _, _, _⟩ := own3 Ra.out
  have kal := (Array.getElem?_eq_some_iff.1 Ra.out).1
  cases hv : inV (a1, a2, a3) with
  | false =>
    rw [show primV (a1, a2, a3) = (0, 0, 0) by simp [primV, hv], show primK (a1, a2, a3) = 0 by simp [primK, hv], show primE (a1, a2, a3) = 6 by simp [primE, hv]] at HP1
    have qz := fun W => eqlVec 0 0 0 0 0 0 W
    rw [show decide ((0 : Int) = 0 ∧ (0 : Int) = 0 ∧ (0 : Int) = 0) = true by decide] at qz
    go_wp2_with fail
    refine (HP1.out _).mono ?_
    rintro e v1 ⟨rfl, hb1⟩
    clear kax kay kaz kal
    have Ra := Lib.hid ((hb1.block _ (Array.getElem?_eq_some_iff.1 Ra.out).1).trans Ra.out)
    have HB := Lib.hid (HB.out.trans (hb1.mono HB.out.size))
    clear hb1
    obtain ⟨kax, kay, kaz, _, _, _⟩ := own3 Ra.out
    have kal := (Array.getElem?_eq_some_iff.1 Ra.out).1
    go_wp2_with fail
    go_ret
    exact ⟨rfl, HB.out.alloc HB.out.size _⟩
  | true =>
    by_cases hz : a1 = 0 ∧ a2 = 0 ∧ a3 = 0
    · have hz' : zeroV (a1, a2, a3) = true := decide_eq_true hz
      rw [show primV (a1, a2, a3) = (0, 0, 0) by simp [primV, hv, hz'], show primK (a1, a2, a3) = 0 by simp [primK, hv, hz'], show primE (a1, a2, a3) = 1 by simp [primE, hv, hz']] at HP1
      have qz := fun W => eqlVec 0 0 0 0 0 0 W
      rw [show decide ((0 : Int) = 0 ∧ (0 : Int) = 0 ∧ (0 : Int) = 0) = true by decide] at qz
      clear hv hz hz'
      go_wp2_with fail
      refine (HP1.out _).mono ?_
      rintro e v1 ⟨rfl, hb1⟩
      clear kax kay kaz kal
      have Ra := Lib.hid ((hb1.block _ (Array.getElem?_eq_some_iff.1 Ra.out).1).trans Ra.out)
      have HB := Lib.hid (HB.out.trans (hb1.mono HB.out.size))
      clear hb1
      obtain ⟨kax, kay, kaz, _, _, _⟩ := own3 Ra.out
      have kal := (Array.getElem?_eq_some_iff.1 Ra.out).1
      go_wp2_with fail
      go_ret
      exact ⟨rfl, HB.out.alloc HB.out.size _⟩
    · obtain ⟨X, Y, Z, K, e1, e2, e3, e4, e5, e6, e7, e8, e9, m1, m2, m3, k1, t1, t2, t3⟩ := prim_again hv hz
      obtain ⟨bx, by', bz⟩ := inV_nat.1 hv
      have HP2 := Lib.hid (fun W => HP.out X Y Z W)
      have HP3 := Lib.hid (fun W => HP.out (-a1) (-a2) (-a3) W)
      rw [e1, e2, e3] at HP1
      rw [e4, e5, e6] at HP2
      rw [e7, e8, e9] at HP3
      have n1 : wrap64 (-a1) = -a1 := IntWalk.wrap64_in _ (by omega)
      have n2 : wrap64 (-a2) = -a2 := IntWalk.wrap64_in _ (by omega)
      have n3 : wrap64 (-a3) = -a3 := IntWalk.wrap64_in _ (by omega)
      have n4 : wrap64 (-X) = -X := IntWalk.wrap64_in _ (by omega)
      have n5 : wrap64 (-Y) = -Y := IntWalk.wrap64_in _ (by omega)
      have n6 : wrap64 (-Z) = -Z := IntWalk.wrap64_in _ (by omega)
      have n7 : wrap64 a1 = a1 := IntWalk.wrap64_in _ (by omega)
      have n8 : wrap64 a2 = a2 := IntWalk.wrap64_in _ (by omega)
      have n9 : wrap64 a3 = a3 := IntWalk.wrap64_in _ (by omega)
      have q1 := fun W => eqlVec X Y Z X Y Z W
      rw [decide_eq_true ⟨rfl, rfl, rfl⟩] at q1
      have q2 := fun W => eqlVec (-X) (-Y) (-Z) (-X) (-Y) (-Z) W
      rw [decide_eq_true ⟨rfl, rfl, rfl⟩] at q2
      clear hv hz e1 e2 e3 e4 e5 e6 e7 e8 e9 t1 t2 t3 bx by' bz HP
      go_wp2_with fail
      refine (HP1.out _).mono ?_
      rintro e v1 ⟨rfl, hb1⟩
      clear kax kay kaz kal
      have Ra := Lib.hid ((hb1.block _ (Array.getElem?_eq_some_iff.1 Ra.out).1).trans Ra.out)
      have HB := Lib.hid (HB.out.trans (hb1.mono HB.out.size))
      clear hb1
      obtain ⟨kax, kay, kaz, _, _, _⟩ := own3 Ra.out
      have kal := (Array.getElem?_eq_some_iff.1 Ra.out).1
      go_wp2_with fail
      refine (HP2.out _).mono ?_
      rintro e v2 ⟨rfl, hb2⟩
      clear kax kay kaz kal
      have Ra := Lib.hid ((hb2.block _ (Array.getElem?_eq_some_iff.1 (hOld v1 (.cells #[.int .i64 (X), .int .i64 (Y), .int .i64 (Z)] 23) _ _ (Array.getElem?_eq_some_iff.1 Ra.out).1 Ra.out)).1).trans (hOld v1 (.cells #[.int .i64 (X), .int .i64 (Y), .int .i64 (Z)] 23) _ _ (Array.getElem?_eq_some_iff.1 Ra.out).1 Ra.out))
      have Rp := Lib.hid ((hb2.block _ (Array.getElem?_eq_some_iff.1 (hNew v1 (.cells #[.int .i64 (X), .int .i64 (Y), .int .i64 (Z)] 23) v1.heap.size rfl)).1).trans (hNew v1 (.cells #[.int .i64 (X), .int .i64 (Y), .int .i64 (Z)] 23) v1.heap.size rfl))
      have HB := Lib.hid ((HB.out.alloc HB.out.size (.cells #[.int .i64 (X), .int .i64 (Y), .int .i64 (Z)] 23)).trans (hb2.mono (HB.out.alloc HB.out.size (.cells #[.int .i64 (X), .int .i64 (Y), .int .i64 (Z)] 23)).size))
      generalize v1.heap.size = gp at Rp ⊢
      clear hb2
      obtain ⟨kax, kay, kaz, _, _, _⟩ := own3 Ra.out
      have kal := (Array.getElem?_eq_some_iff.1 Ra.out).1
      obtain ⟨kpx, kpy, kpz, _, _, _⟩ := own3 Rp.out
      have kpl := (Array.getElem?_eq_some_iff.1 Rp.out).1
      go_wp2_with fail
      refine (HP3.out _).mono ?_
      rintro e v3 ⟨rfl, hb3⟩
      clear kax kay kaz kal kpx kpy kpz kpl
      have Ra := Lib.hid ((hb3.block _ (Array.getElem?_eq_some_iff.1 (hOld v2 (.cells #[.int .i64 (X), .int .i64 (Y), .int .i64 (Z)] 23) _ _ (Array.getElem?_eq_some_iff.1 Ra.out).1 Ra.out)).1).trans (hOld v2 (.cells #[.int .i64 (X), .int .i64 (Y), .int .i64 (Z)] 23) _ _ (Array.getElem?_eq_some_iff.1 Ra.out).1 Ra.out))
      have Rp := Lib.hid ((hb3.block _ (Array.getElem?_eq_some_iff.1 (hOld v2 (.cells #[.int .i64 (X), .int .i64 (Y), .int .i64 (Z)] 23) _ _ (Array.getElem?_eq_some_iff.1 Rp.out).1 Rp.out)).1).trans (hOld v2 (.cells #[.int .i64 (X), .int .i64 (Y), .int .i64 (Z)] 23) _ _ (Array.getElem?_eq_some_iff.1 Rp.out).1 Rp.out))
      have Rq := Lib.hid ((hb3.block _ (Array.getElem?_eq_some_iff.1 (hNew v2 (.cells #[.int .i64 (X), .int .i64 (Y), .int .i64 (Z)] 23) v2.heap.size rfl)).1).trans (hNew v2 (.cells #[.int .i64 (X), .int .i64 (Y), .int .i64 (Z)] 23) v2.heap.size rfl))
      have HB := Lib.hid ((HB.out.alloc HB.out.size (.cells #[.int .i64 (X), .int .i64 (Y), .int .i64 (Z)] 23)).trans (hb3.mono (HB.out.alloc HB.out.size (.cells #[.int .i64 (X), .int .i64 (Y), .int .i64 (Z)] 23)).size))
      generalize v2.heap.size = gq at Rq ⊢
      clear hb3
      obtain ⟨kax, kay, kaz, _, _, _⟩ := own3 Ra.out
      have kal := (Array.getElem?_eq_some_iff.1 Ra.out).1
      obtain ⟨kpx, kpy, kpz, _, _, _⟩ := own3 Rp.out
      have kpl := (Array.getElem?_eq_some_iff.1 Rp.out).1
      obtain ⟨kqx, kqy, kqz, _, _, _⟩ := own3 Rq.out
      have kql := (Array.getElem?_eq_some_iff.1 Rq.out).1
      go_wp2_with fail
      go_ret
      exact ⟨rfl, HB.out.alloc HB.out.size _⟩
end Go.Proofs.Ytdmgehfdahjneaa
