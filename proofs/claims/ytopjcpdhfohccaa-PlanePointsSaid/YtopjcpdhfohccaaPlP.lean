/- Layer 7 (plane): Points. -/
import Derived.Test.YtopjcpdhfohccaaPlN
import Derived.Test.YtopjcpdhfohccaaEvV
namespace Go.Proofs.Ytopjcpdhfohccaa
open Go.RowKit Go.Ev
set_option linter.unusedSimpArgs false
set_option maxRecDepth 100000

theorem gcd2_dvd {a b : Int} (ha : M6 a) (hb : M6 b) : gcd2 a b ∣ a ∧ gcd2 a b ∣ b := by
  rw [gcd2_val ha hb]
  exact ⟨Int.ofNat_dvd_left.2 (Nat.gcd_dvd_left _ _), Int.ofNat_dvd_left.2 (Nat.gcd_dvd_right _ _)⟩
theorem dvd_gcd2 {a b t : Int} (ha : M6 a) (hb : M6 b) (h1 : t ∣ a) (h2 : t ∣ b) : t ∣ gcd2 a b := by
  rw [gcd2_val ha hb]
  exact Int.natAbs_dvd.1 (Int.ofNat_dvd.2 (Nat.dvd_gcd (Int.natAbs_dvd_natAbs.2 h1) (Int.natAbs_dvd_natAbs.2 h2)))
theorem g3_dvd {a b c : Int} (ha : M6 a) (hb : M6 b) (hc : M6 c) : g3 a b c ∣ a ∧ g3 a b c ∣ b ∧ g3 a b c ∣ c := by
  have h1 := gcd2_dvd ha hb
  have h2 := gcd2_dvd (gcd2_m ha hb) hc
  exact ⟨Int.dvd_trans h2.1 h1.1, Int.dvd_trans h2.1 h1.2, h2.2⟩
theorem dvd_g3 {a b c t : Int} (ha : M6 a) (hb : M6 b) (hc : M6 c) (h1 : t ∣ a) (h2 : t ∣ b) (h3 : t ∣ c) : t ∣ g3 a b c := dvd_gcd2 (gcd2_m ha hb) hc (dvd_gcd2 ha hb h1 h2) h3
theorem tdiv_small {x g : Int} (hx : -1000 ≤ x ∧ x ≤ 1000) : W (x.tdiv g) = x.tdiv g ∧ -1000 ≤ x.tdiv g ∧ x.tdiv g ≤ 1000 := by
  have h : (x.tdiv g).natAbs ≤ x.natAbs := by rw [Int.natAbs_tdiv]; exact Nat.div_le_self _ _
  exact ⟨wrap64 _ (by omega), by omega⟩
theorem ediv_small {d g : Int} (hd : -4000000000 ≤ d ∧ d ≤ 4000000000) (hg : 1 ≤ g) : -4000000000 ≤ d / g ∧ d / g ≤ 4000000000 := by
  have e := Int.mul_ediv_add_emod d g
  have r0 := Int.emod_nonneg d (show g ≠ 0 by omega)
  have r1 := Int.emod_lt_of_pos d (show 0 < g by omega)
  by_cases h : 0 ≤ d
  · have q0 : 0 ≤ d / g := Int.ediv_nonneg h (by omega)
    have q1 : d / g ≤ d := Int.ediv_le_self _ h
    omega
  · have h1 : g * d ≤ d := by
      have := Int.mul_nonneg (show 0 ≤ g - 1 by omega) (show 0 ≤ -d by omega)
      rw [Int.mul_neg, Int.sub_mul, Int.one_mul] at this
      omega
    have h2 := le_div (show 0 < g by omega) h1
    have h3 : d / g < 1 := by
      by_cases h4 : d / g < 1
      · exact h4
      · have := Int.mul_nonneg (show 0 ≤ g by omega) (show 0 ≤ d / g by omega)
        omega
    omega
/-- The normal form of a valid half-space. -/
structure Nrm (a b c d A B C D : Int) : Prop where
  na : W (a.tdiv (g3 a b c)) = A
  nb : W (b.tdiv (g3 a b c)) = B
  nc : W (c.tdiv (g3 a b c)) = C
  nd : flo d (g3 a b c) = D
  ok : chkH A B C D = 0
  own : W (A.tdiv (g3 A B C)) = A ∧ W (B.tdiv (g3 A B C)) = B ∧ W (C.tdiv (g3 A B C)) = C ∧ flo D (g3 A B C) = D
  in' : ∀ x y z, chkV x y z = 0 → (exLo a b c d x y z x y z ≤ 0 ↔ A * x + B * y + C * z ≤ D)
theorem nrm {a b c d : Int} (hH : chkH a b c d = 0) : ∃ A B C D, Nrm a b c d A B C D := by
  obtain ⟨ha, hb, hc, hd, hne⟩ := chkH_ok.1 hH
  have ma : M6 a := by unfold M6; omega
  have mb : M6 b := by unfold M6; omega
  have mc : M6 c := by unfold M6; omega
  have hg := g3_pos ma mb mc hne
  obtain ⟨v1, v2, v3⟩ := g3_dvd ma mb mc
  have hD := @dvd_g3 a b c
  have s1 := tdiv_small (g := g3 a b c) ha
  have s2 := tdiv_small (g := g3 a b c) hb
  have s3 := tdiv_small (g := g3 a b c) hc
  have e1 := Int.tdiv_mul_cancel v1
  have e2 := Int.tdiv_mul_cancel v2
  have e3 := Int.tdiv_mul_cancel v3
  have f1 := flo_eq (r := d) (f := g3 a b c) (by omega) (by omega)
  have f2 := ediv_small (g := g3 a b c) hd hg.1
  have hD := fun t h1 h2 h3 => @dvd_g3 a b c t ma mb mc h1 h2 h3
  refine ⟨a.tdiv (g3 a b c), b.tdiv (g3 a b c), c.tdiv (g3 a b c), d / g3 a b c, s1.1, s2.1, s3.1, f1, ?_, ?_, ?_⟩
  · generalize g3 a b c = g at *
    rw [chkH_ok]
    refine ⟨s1.2, s2.2, s3.2, f2, fun ⟨z1, z2, z3⟩ => hne ?_⟩
    rw [z1] at e1; rw [z2] at e2; rw [z3] at e3
    omega
  · have hne2 : ¬ (a.tdiv (g3 a b c) = 0 ∧ b.tdiv (g3 a b c) = 0 ∧ c.tdiv (g3 a b c) = 0) := fun ⟨z1, z2, z3⟩ => hne (by rw [z1] at e1; rw [z2] at e2; rw [z3] at e3; omega)
    generalize g3 a b c = g at *
    generalize a.tdiv g = A at *
    generalize b.tdiv g = B at *
    generalize c.tdiv g = C at *
    have mA : M6 A := by unfold M6; omega
    have mB : M6 B := by unfold M6; omega
    have mC : M6 C := by unfold M6; omega
    have hk := g3_pos mA mB mC hne2
    obtain ⟨w1, w2, w3⟩ := g3_dvd mA mB mC
    have one : g3 A B C = 1 := by
      have h1 : g3 A B C * g ∣ g := hD _ (by rw [← e1]; exact Int.mul_dvd_mul_right _ w1) (by rw [← e2]; exact Int.mul_dvd_mul_right _ w2) (by rw [← e3]; exact Int.mul_dvd_mul_right _ w3)
      have h2 := Int.le_of_dvd (by omega) h1
      by_cases h3 : g3 A B C = 1
      · exact h3
      · exfalso
        have := mul_le_of (show 0 < g by omega) (show 2 ≤ g3 A B C by omega)
        rw [Int.mul_comm g (g3 A B C)] at this
        omega
    rw [one]
    simp only [Int.tdiv_one]
    refine ⟨s1.1, s2.1, s3.1, ?_⟩
    rw [flo_eq (by omega) (by omega), Int.ediv_one]
  · intro x y z hV
    obtain ⟨hx, hy, hz⟩ := chkV_ok.1 hV
    rw [exLo_pt ha hb hc hd hx hy hz]
    generalize g3 a b c = g at *
    generalize a.tdiv g = A at *
    generalize b.tdiv g = B at *
    generalize c.tdiv g = C at *
    rw [Int.le_ediv_iff_mul_le (by omega)]
    have e : (A * x + B * y + C * z) * g = a * x + b * y + c * z := by
      rw [← e1, ← e2, ← e3]; grind
    rw [e]
    omega

def TPlanePoints : Tr :=
(.br (.eq (.fn 0 (.cons (.v 0) (.cons (.v 1) (.cons (.v 2) (.cons (.v 3) .nil))))) (.lit .i64 0))
 (.br (.eq (.fn 0 (.cons (.fn 20 (.cons (.v 0) (.cons (.v 1) (.cons (.v 2) (.cons (.v 3) .nil))))) (.cons (.fn 21 (.cons (.v 0) (.cons (.v 1) (.cons (.v 2) (.cons (.v 3) .nil))))) (.cons (.fn 22 (.cons (.v 0) (.cons (.v 1) (.cons (.v 2) (.cons (.v 3) .nil))))) (.cons (.fn 23 (.cons (.v 0) (.cons (.v 1) (.cons (.v 2) (.cons (.v 3) .nil))))) .nil))))) (.lit .i64 0))
 (.br (.eq (.fn 20 (.cons (.fn 20 (.cons (.v 0) (.cons (.v 1) (.cons (.v 2) (.cons (.v 3) .nil))))) (.cons (.fn 21 (.cons (.v 0) (.cons (.v 1) (.cons (.v 2) (.cons (.v 3) .nil))))) (.cons (.fn 22 (.cons (.v 0) (.cons (.v 1) (.cons (.v 2) (.cons (.v 3) .nil))))) (.cons (.fn 23 (.cons (.v 0) (.cons (.v 1) (.cons (.v 2) (.cons (.v 3) .nil))))) .nil))))) (.fn 20 (.cons (.v 0) (.cons (.v 1) (.cons (.v 2) (.cons (.v 3) .nil))))))
 (.br (.eq (.fn 21 (.cons (.fn 20 (.cons (.v 0) (.cons (.v 1) (.cons (.v 2) (.cons (.v 3) .nil))))) (.cons (.fn 21 (.cons (.v 0) (.cons (.v 1) (.cons (.v 2) (.cons (.v 3) .nil))))) (.cons (.fn 22 (.cons (.v 0) (.cons (.v 1) (.cons (.v 2) (.cons (.v 3) .nil))))) (.cons (.fn 23 (.cons (.v 0) (.cons (.v 1) (.cons (.v 2) (.cons (.v 3) .nil))))) .nil))))) (.fn 21 (.cons (.v 0) (.cons (.v 1) (.cons (.v 2) (.cons (.v 3) .nil))))))
 (.br (.eq (.fn 22 (.cons (.fn 20 (.cons (.v 0) (.cons (.v 1) (.cons (.v 2) (.cons (.v 3) .nil))))) (.cons (.fn 21 (.cons (.v 0) (.cons (.v 1) (.cons (.v 2) (.cons (.v 3) .nil))))) (.cons (.fn 22 (.cons (.v 0) (.cons (.v 1) (.cons (.v 2) (.cons (.v 3) .nil))))) (.cons (.fn 23 (.cons (.v 0) (.cons (.v 1) (.cons (.v 2) (.cons (.v 3) .nil))))) .nil))))) (.fn 22 (.cons (.v 0) (.cons (.v 1) (.cons (.v 2) (.cons (.v 3) .nil))))))
 (.br (.eq (.fn 23 (.cons (.fn 20 (.cons (.v 0) (.cons (.v 1) (.cons (.v 2) (.cons (.v 3) .nil))))) (.cons (.fn 21 (.cons (.v 0) (.cons (.v 1) (.cons (.v 2) (.cons (.v 3) .nil))))) (.cons (.fn 22 (.cons (.v 0) (.cons (.v 1) (.cons (.v 2) (.cons (.v 3) .nil))))) (.cons (.fn 23 (.cons (.v 0) (.cons (.v 1) (.cons (.v 2) (.cons (.v 3) .nil))))) .nil))))) (.fn 23 (.cons (.v 0) (.cons (.v 1) (.cons (.v 2) (.cons (.v 3) .nil))))))
 (.br (.eq (.fn 1 (.cons (.v 8) (.cons (.v 9) (.cons (.v 10) .nil)))) (.lit .i64 0))
 (.br (.lt (.lit .i64 0) (.fn 3 (.cons (.v 0) (.cons (.v 1) (.cons (.v 2) (.cons (.v 3) (.cons (.v 8) (.cons (.v 9) (.cons (.v 10) (.cons (.v 8) (.cons (.v 9) (.cons (.v 10) .nil))))))))))))
 (.br (.lt (.lit .i64 0) (.fn 3 (.cons (.fn 20 (.cons (.v 0) (.cons (.v 1) (.cons (.v 2) (.cons (.v 3) .nil))))) (.cons (.fn 21 (.cons (.v 0) (.cons (.v 1) (.cons (.v 2) (.cons (.v 3) .nil))))) (.cons (.fn 22 (.cons (.v 0) (.cons (.v 1) (.cons (.v 2) (.cons (.v 3) .nil))))) (.cons (.fn 23 (.cons (.v 0) (.cons (.v 1) (.cons (.v 2) (.cons (.v 3) .nil))))) (.cons (.v 8) (.cons (.v 9) (.cons (.v 10) (.cons (.v 8) (.cons (.v 9) (.cons (.v 10) .nil))))))))))))
 (.br (.eq (.fn 0 (.cons (.v 4) (.cons (.v 5) (.cons (.v 6) (.cons (.v 7) .nil))))) (.lit .i64 0))
 (.br (.eq (.fn 20 (.cons (.v 0) (.cons (.v 1) (.cons (.v 2) (.cons (.v 3) .nil))))) (.fn 20 (.cons (.v 4) (.cons (.v 5) (.cons (.v 6) (.cons (.v 7) .nil))))))
 (.br (.eq (.fn 21 (.cons (.v 0) (.cons (.v 1) (.cons (.v 2) (.cons (.v 3) .nil))))) (.fn 21 (.cons (.v 4) (.cons (.v 5) (.cons (.v 6) (.cons (.v 7) .nil))))))
 (.br (.eq (.fn 22 (.cons (.v 0) (.cons (.v 1) (.cons (.v 2) (.cons (.v 3) .nil))))) (.fn 22 (.cons (.v 4) (.cons (.v 5) (.cons (.v 6) (.cons (.v 7) .nil))))))
 (.br (.lt (.fn 23 (.cons (.v 4) (.cons (.v 5) (.cons (.v 6) (.cons (.v 7) .nil))))) (.fn 23 (.cons (.v 0) (.cons (.v 1) (.cons (.v 2) (.cons (.v 3) .nil))))))
 (.leaf (.clo (.bool true)))
 (.br (.lt (.fn 23 (.cons (.v 0) (.cons (.v 1) (.cons (.v 2) (.cons (.v 3) .nil))))) (.fn 23 (.cons (.v 4) (.cons (.v 5) (.cons (.v 6) (.cons (.v 7) .nil))))))
 (.leaf (.clo (.bool true)))
 (.br (.eq (.fn 23 (.cons (.v 0) (.cons (.v 1) (.cons (.v 2) (.cons (.v 3) .nil))))) (.fn 23 (.cons (.v 4) (.cons (.v 5) (.cons (.v 6) (.cons (.v 7) .nil))))))
 (.leaf (.clo (.bool true)))
 (.leaf (.clo (.bool false))))))
 (.leaf (.clo (.bool true))))
 (.leaf (.clo (.bool true))))
 (.leaf (.clo (.bool true))))
 (.leaf (.clo (.bool true))))
 (.leaf (.clo (.bool false))))
 (.br (.lt (.lit .i64 0) (.fn 3 (.cons (.fn 20 (.cons (.v 0) (.cons (.v 1) (.cons (.v 2) (.cons (.v 3) .nil))))) (.cons (.fn 21 (.cons (.v 0) (.cons (.v 1) (.cons (.v 2) (.cons (.v 3) .nil))))) (.cons (.fn 22 (.cons (.v 0) (.cons (.v 1) (.cons (.v 2) (.cons (.v 3) .nil))))) (.cons (.fn 23 (.cons (.v 0) (.cons (.v 1) (.cons (.v 2) (.cons (.v 3) .nil))))) (.cons (.v 8) (.cons (.v 9) (.cons (.v 10) (.cons (.v 8) (.cons (.v 9) (.cons (.v 10) .nil))))))))))))
 (.leaf (.clo (.bool false)))
 (.br (.eq (.fn 0 (.cons (.v 4) (.cons (.v 5) (.cons (.v 6) (.cons (.v 7) .nil))))) (.lit .i64 0))
 (.br (.eq (.fn 20 (.cons (.v 0) (.cons (.v 1) (.cons (.v 2) (.cons (.v 3) .nil))))) (.fn 20 (.cons (.v 4) (.cons (.v 5) (.cons (.v 6) (.cons (.v 7) .nil))))))
 (.br (.eq (.fn 21 (.cons (.v 0) (.cons (.v 1) (.cons (.v 2) (.cons (.v 3) .nil))))) (.fn 21 (.cons (.v 4) (.cons (.v 5) (.cons (.v 6) (.cons (.v 7) .nil))))))
 (.br (.eq (.fn 22 (.cons (.v 0) (.cons (.v 1) (.cons (.v 2) (.cons (.v 3) .nil))))) (.fn 22 (.cons (.v 4) (.cons (.v 5) (.cons (.v 6) (.cons (.v 7) .nil))))))
 (.br (.lt (.fn 23 (.cons (.v 4) (.cons (.v 5) (.cons (.v 6) (.cons (.v 7) .nil))))) (.fn 23 (.cons (.v 0) (.cons (.v 1) (.cons (.v 2) (.cons (.v 3) .nil))))))
 (.leaf (.clo (.bool true)))
 (.br (.lt (.fn 23 (.cons (.v 0) (.cons (.v 1) (.cons (.v 2) (.cons (.v 3) .nil))))) (.fn 23 (.cons (.v 4) (.cons (.v 5) (.cons (.v 6) (.cons (.v 7) .nil))))))
 (.br (.lt (.lit .i64 0) (.fn 3 (.cons (.v 4) (.cons (.v 5) (.cons (.v 6) (.cons (.v 7) (.cons (.v 8) (.cons (.v 9) (.cons (.v 10) (.cons (.v 8) (.cons (.v 9) (.cons (.v 10) .nil))))))))))))
 (.leaf (.clo (.bool false)))
 (.leaf (.clo (.bool true))))
 (.br (.eq (.fn 23 (.cons (.v 0) (.cons (.v 1) (.cons (.v 2) (.cons (.v 3) .nil))))) (.fn 23 (.cons (.v 4) (.cons (.v 5) (.cons (.v 6) (.cons (.v 7) .nil))))))
 (.br (.lt (.lit .i64 0) (.fn 3 (.cons (.v 4) (.cons (.v 5) (.cons (.v 6) (.cons (.v 7) (.cons (.v 8) (.cons (.v 9) (.cons (.v 10) (.cons (.v 8) (.cons (.v 9) (.cons (.v 10) .nil))))))))))))
 (.leaf (.clo (.bool false)))
 (.leaf (.clo (.bool true))))
 (.leaf (.clo (.bool false))))))
 (.leaf (.clo (.bool true))))
 (.leaf (.clo (.bool true))))
 (.leaf (.clo (.bool true))))
 (.leaf (.clo (.bool true))))))
 (.br (.eq (.fn 0 (.cons (.v 4) (.cons (.v 5) (.cons (.v 6) (.cons (.v 7) .nil))))) (.lit .i64 0))
 (.br (.eq (.fn 20 (.cons (.v 0) (.cons (.v 1) (.cons (.v 2) (.cons (.v 3) .nil))))) (.fn 20 (.cons (.v 4) (.cons (.v 5) (.cons (.v 6) (.cons (.v 7) .nil))))))
 (.br (.eq (.fn 21 (.cons (.v 0) (.cons (.v 1) (.cons (.v 2) (.cons (.v 3) .nil))))) (.fn 21 (.cons (.v 4) (.cons (.v 5) (.cons (.v 6) (.cons (.v 7) .nil))))))
 (.br (.eq (.fn 22 (.cons (.v 0) (.cons (.v 1) (.cons (.v 2) (.cons (.v 3) .nil))))) (.fn 22 (.cons (.v 4) (.cons (.v 5) (.cons (.v 6) (.cons (.v 7) .nil))))))
 (.br (.lt (.fn 23 (.cons (.v 4) (.cons (.v 5) (.cons (.v 6) (.cons (.v 7) .nil))))) (.fn 23 (.cons (.v 0) (.cons (.v 1) (.cons (.v 2) (.cons (.v 3) .nil))))))
 (.leaf (.clo (.bool true)))
 (.leaf (.clo (.bool true))))
 (.leaf (.clo (.bool true))))
 (.leaf (.clo (.bool true))))
 (.leaf (.clo (.bool true))))
 (.leaf (.clo (.bool true)))))
 (.leaf (.clo (.bool false))))
 (.leaf (.clo (.bool false))))
 (.leaf (.clo (.bool false))))
 (.leaf (.clo (.bool false))))
 (.leaf (.clo (.bool false))))
 (.leaf (.clo (.bool true))))

set_option maxHeartbeats 8000000 in
theorem planePoints_any (zs : List Int) (hr : InRng (shK [s4, s4, s3]) zs) (w : World) : Calls Try.prog 8 (shV [s4, s4, s3] zs).toArray w fun e w' => e = .returned (.bool true) ∧ Below w.heap.size w w' := by
  have h := rng64 (by rfl) hr
  have hl := InRng_length hr
  obtain ⟨a, b, c, d, a1, b1, c1, d1, x, y, z, rfl⟩ := len11 hl
  refine law_of (F := plF) [] mixed (cons := plConsN) (eqs := plEqs) plConsN_ok plEqs_ok (n := 300) (args := [a4 0, a4 4, a3 8]) (T := TPlanePoints) (fun S => by kernel_rfl) h rfl sat_nil ?_ w
  by_cases hH : chkH a b c d = 0
  · obtain ⟨A, B, C, D, n⟩ := nrm hH
    obtain ⟨n1, n2, n3, n4, nok, ⟨o1, o2, o3, o4⟩, nin⟩ := n
    have hin : chkV x y z = 0 → (exLo A B C D x y z x y z ≤ 0 ↔ A * x + B * y + C * z ≤ D) := fun hV => by
      obtain ⟨ha, hb, hc, hd, _⟩ := chkH_ok.1 nok
      obtain ⟨hx, hy, hz⟩ := chkV_ok.1 hV
      rw [exLo_pt ha hb hc hd hx hy hz]; omega
    have k3 : chkV x y z = 0 → (exLo a b c d x y z x y z ≤ 0 ∧ exLo A B C D x y z x y z ≤ 0 ∧ A * x + B * y + C * z ≤ D) ∨ (0 < exLo a b c d x y z x y z ∧ 0 < exLo A B C D x y z x y z ∧ D < A * x + B * y + C * z) := fun hV => by
      have h1 := nin x y z hV
      have h2 := hin hV
      omega
    by_cases hH1 : chkH a1 b1 c1 d1 = 0
    · obtain ⟨A1, B1, C1, D1, m⟩ := nrm hH1
      obtain ⟨m1, m2, m3, m4, mok, _, min'⟩ := m
      have k4 : chkV x y z = 0 → A = A1 → B = B1 → C = C1 → D ≤ D1 → exLo a b c d x y z x y z ≤ 0 → exLo a1 b1 c1 d1 x y z x y z ≤ 0 := fun hV q1 q2 q3 q4 q5 => by
        have h1 := (nin x y z hV).1 q5
        rw [min' x y z hV, ← q1, ← q2, ← q3]
        omega
      clear nin hin min'
      simp only [W] at n1 n2 n3 m1 m2 m3 o1 o2 o3
      unfold TPlanePoints
      repeat' ((with_reducible refine br_val ?_ ?_) <;> (intro h; simp only [at_lt_t, at_lt_f, at_eq_t, at_eq_f, at_p, tv, row, bV_add, bV_sub, bV_mul, bV_quo, bV_rem, bV_mn, bV_mx, val64_vv, val64_fv, val64_pv, fv0, fv1, fv2, fv3, fv4, fv5, fv6, fv7, fv8, fv10, fv11, fv12, fv13, fv14, fv15, fv16, fv20, fv21, fv22, fv23, pv0, pv1, List.getD_cons_zero, List.getD_cons_succ] at h))
      all_goals try simp only [W, n1, n2, n3, n4, m1, m2, m3, m4, o1, o2, o3, o4, not_true_eq_false] at *
      all_goals first
        | rfl
        | (exfalso; omega)
    · clear nin hin
      simp only [W] at n1 n2 n3 o1 o2 o3
      unfold TPlanePoints
      repeat' ((with_reducible refine br_val ?_ ?_) <;> (intro h; simp only [at_lt_t, at_lt_f, at_eq_t, at_eq_f, at_p, tv, row, bV_add, bV_sub, bV_mul, bV_quo, bV_rem, bV_mn, bV_mx, val64_vv, val64_fv, val64_pv, fv0, fv1, fv2, fv3, fv4, fv5, fv6, fv7, fv8, fv10, fv11, fv12, fv13, fv14, fv15, fv16, fv20, fv21, fv22, fv23, pv0, pv1, List.getD_cons_zero, List.getD_cons_succ] at h))
      all_goals try simp only [W, n1, n2, n3, n4, o1, o2, o3, o4, not_true_eq_false] at *
      all_goals first
        | rfl
        | (exfalso; omega)
  · unfold TPlanePoints
    refine br_val (fun h => ?_) (fun h => rfl)
    exact absurd (at_eq_t.1 h) hH

end Go.Proofs.Ytopjcpdhfohccaa
