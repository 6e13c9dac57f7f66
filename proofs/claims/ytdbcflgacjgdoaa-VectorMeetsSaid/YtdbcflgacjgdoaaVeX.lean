/- Contracts of layer 3: Primitive. -/
import Derived.Test.YtdbcflgacjgdoaaVeU
import Derived.Test.YtdbcflgacjgdoaaVeP
namespace Go.Proofs.Ytdbcflgacjgdoaa
open Go.RowKit

theorem gcd_nat (a b : Int) (ha : a.natAbs ≤ 1000000) : Nat.gcd a.natAbs b.natAbs ≤ 1000000 ∨ a = 0 := by
  by_cases h : a = 0
  · exact Or.inr h
  · exact Or.inl (Nat.le_trans (Nat.le_of_dvd (by omega) (Nat.gcd_dvd_left _ _)) ha)
theorem gcd_le2 (a b : Int) (ha : a.natAbs ≤ 1000000) (hb : b.natAbs ≤ 1000000) : Nat.gcd a.natAbs b.natAbs ≤ 1000000 := by
  rcases gcd_nat a b ha with h | h
  · exact h
  · subst h; simpa using hb
theorem tdiv_abs (x f : Int) (hx : x.natAbs ≤ 1000000) : (x.tdiv f).natAbs ≤ 1000000 := by
  rw [Int.natAbs_tdiv]
  exact Nat.le_trans (Nat.div_le_self _ _) hx

set_option maxRecDepth 20000 in
set_option maxHeartbeats 8000000 in
theorem prim_ok (x y z : Int) (hv : inV (x, y, z) = true) (hne : ¬ (x = 0 ∧ y = 0 ∧ z = 0)) (w : World) : Calls Try.prog 20 #[.agg #[.int .i64 x, .int .i64 y, .int .i64 z]] w fun e w' => e = .returned (.tuple #[.agg #[.int .i64 (x.tdiv (gcd3 x y z)), .int .i64 (y.tdiv (gcd3 x y z)), .int .i64 (z.tdiv (gcd3 x y z))], .int .i64 (gcd3 x y z), .int .i64 0]) ∧ Below w.heap.size w w' := by
  have q1 := fun W => eqlVec x y z 0 0 0 W
  rw [decide_eq_false hne] at q1
  have hN := fun W => check_any x y z W
  rw [errV_one, hv, if_pos rfl] at hN
  have HN := Lib.hid hN
  clear hN
  have hb3 : x.natAbs ≤ 1000000 ∧ y.natAbs ≤ 1000000 ∧ z.natAbs ≤ 1000000 := by simp [inV, inC] at hv; omega
  obtain ⟨bx, by', bz⟩ := hb3
  have hg2 := gcd_le2 x y bx by'
  have hp := gcd3_pos hne
  have hl := gcd3_le hne 1000000 bx by' bz
  have d1 : ∀ W, Calls Try.prog 37 #[.int .i64 0, .int .i64 x] W fun e w' => e = .returned (.int .i64 (x.natAbs : Int)) ∧ Below W.heap.size W w' := fun W => by simpa using divisor_any 0 x (by simp) bx W
  have d2 : ∀ W, Calls Try.prog 37 #[.int .i64 (x.natAbs : Int), .int .i64 y] W fun e w' => e = .returned (.int .i64 (Nat.gcd x.natAbs y.natAbs : Int)) ∧ Below W.heap.size W w' := fun W => by simpa using divisor_any (x.natAbs : Int) y (by simpa using bx) by' W
  have d3 : ∀ W, Calls Try.prog 37 #[.int .i64 (Nat.gcd x.natAbs y.natAbs : Int), .int .i64 z] W fun e w' => e = .returned (.int .i64 (gcd3 x y z : Int)) ∧ Below W.heap.size W w' := fun W => by simpa [gcd3] using divisor_any (Nat.gcd x.natAbs y.natAbs : Int) z (by simpa using hg2) bz W
  have t1 := tdiv_abs x (gcd3 x y z) bx
  have t2 := tdiv_abs y (gcd3 x y z) by'
  have t3 := tdiv_abs z (gcd3 x y z) bz
  obtain ⟨f, hf⟩ : ∃ f : Int, (gcd3 x y z : Int) = f := ⟨_, rfl⟩
  rw [hf] at d3 t1 t2 t3 ⊢
  have hf0 : ¬ f = 0 := by omega
  have hf1 : 0 < f := by omega
  generalize (Nat.gcd x.natAbs y.natAbs : Int) = f2 at d2 d3
  generalize (x.natAbs : Int) = f1 at d1 d2
  have D1 := Lib.hid d1
  have D2 := Lib.hid d2
  have D3 := Lib.hid d3
  have e1 : wrap64 (x.tdiv f) = x.tdiv f := IntWalk.wrap64_in _ (by omega)
  have e2 : wrap64 (y.tdiv f) = y.tdiv f := IntWalk.wrap64_in _ (by omega)
  have e3 : wrap64 (z.tdiv f) = z.tdiv f := IntWalk.wrap64_in _ (by omega)
  have HK := Lib.hid (fun a b c W => coords a b c W)
  have HV := Lib.hid (fun W => vect (x.tdiv f) (y.tdiv f) (z.tdiv f) W)
  have HM := Lib.hid (fun t t' => made2 w (.cells #[.int .i64 x, .int .i64 y, .int .i64 z] t) (.cells #[.int .i64 0, .int .i64 0, .int .i64 0] t'))
  have hi0 := ix0 x y z
  have hi1 := ix1 x y z
  have hi2 := ix2 x y z
  clear d1 d2 d3 hp hl hg2 hf bx by' bz t1 t2 t3 hv
  go_enter Try.func20, Try.ntmps20
  go_wp2_with fail
  refine (HN.out _).mono ?_
  rintro e w1 ⟨rfl, hb⟩
  obtain ⟨m1, m2, m3, m4⟩ := HM.out 23 23
  obtain ⟨s1, s2, s3, _, _, _⟩ := own3 ((hb.block _ (by rw [m4]; omega)).trans m1)
  have hr1 := (hb.block _ (by rw [m4]; omega)).trans m2
  have HB := Lib.hid (m3.trans (hb.mono (by rw [m4]; omega)))
  have HR1 := Lib.hid hr1
  clear m1 m2 m3 m4 hb HM HN hr1
  go_wp2_with fail
  refine (HK.out _ _ _ _).mono ?_
  rintro e w2 ⟨rfl, hb2⟩
  have HR2 := Lib.hid ((hb2.block _ (Array.getElem?_eq_some_iff.1 HR1.out).1).trans HR1.out)
  have HB2 := Lib.hid (HB.out.trans (hb2.mono HB.out.size))
  clear s1 s2 s3 hb2 HR1 HB HK q1 hne
  go_wp2_with fail
  have hc0 := hNew w2 (.cells #[.int .i64 x, .int .i64 y, .int .i64 z] 43) w2.heap.size rfl
  have HC0 := Lib.hid hc0
  have HR3 := Lib.hid (hOld w2 (.cells #[.int .i64 x, .int .i64 y, .int .i64 z] 43) _ _ (Array.getElem?_eq_some_iff.1 HR2.out).1 HR2.out)
  have HB3 := Lib.hid (HB2.out.alloc HB2.out.size (.cells #[.int .i64 x, .int .i64 y, .int .i64 z] 43))
  have HGN := Lib.hid (Array.getElem?_eq_some_iff.1 HR2.out).1
  generalize w2.alloc (.cells #[.int .i64 x, .int .i64 y, .int .i64 z] 43) = w3 at HC0 HR3 HB3 ⊢
  generalize w2.heap.size = g at HC0 HGN ⊢
  clear hc0 HR2 HB2
  refine wp_loop_rounds 4 ?_
  rw [rounds_succ]
  go_wp2_with fail
  refine (D1.out _).mono ?_
  rintro e w4 ⟨rfl, hb4⟩
  go_wp2_with fail
  rw [rounds_succ]
  go_wp2_with fail
  refine (D2.out _).mono ?_
  rintro e w5 ⟨rfl, hb5⟩
  go_wp2_with fail
  rw [rounds_succ]
  go_wp2_with fail
  refine (D3.out _).mono ?_
  rintro e w6 ⟨rfl, hb6⟩
  go_wp2_with fail
  rw [rounds_succ]
  have hb36 : Below w3.heap.size w3 w6 := bNext (bNext (bNext (Below.refl _ _) hb4) hb5) hb6
  obtain ⟨c1, c2, c3, c4, c5, c6⟩ := own3 ((hb36.block _ (Array.getElem?_eq_some_iff.1 HC0.out).1).trans HC0.out)
  have HC6 := Lib.hid ((hb36.block _ (Array.getElem?_eq_some_iff.1 HC0.out).1).trans HC0.out)
  have HR6 := Lib.hid ((hb36.block _ (Array.getElem?_eq_some_iff.1 HR3.out).1).trans HR3.out)
  have HB6 := Lib.hid (HB3.out.trans (hb36.mono HB3.out.size))
  clear hb4 hb5 hb6 hb36 HC0 HR3 HB3 D1 D2 D3
  go_wp2_with fail
  refine wp_loop_rounds 4 ?_
  iterate 3 (rw [rounds_succ]; go_wp2_with fail)
  rw [rounds_succ]
  go_wp2_with fail
  have hgn := HGN.out
  have hW : (((w6.setCell ⟨g, 0, none⟩ (.int .i64 (x.tdiv f))).setCell ⟨g, 1, none⟩ (.int .i64 (y.tdiv f))).setCell ⟨g, 2, none⟩ (.int .i64 (z.tdiv f))).heap[w.heap.size + 1]? = _ := (Below.heap_setCell _ _ _ _ (by show w.heap.size + 1 ≠ g; omega)).trans ((Below.heap_setCell _ _ _ _ (by show w.heap.size + 1 ≠ g; omega)).trans ((Below.heap_setCell _ _ _ _ (by show w.heap.size + 1 ≠ g; omega)).trans HR6.out))
  have hB7 := ((HB6.out.setCell (p := ⟨g, 0, none⟩) (by show w.heap.size ≤ g; omega) (.int .i64 (x.tdiv f))).setCell (p := ⟨g, 1, none⟩) (by show w.heap.size ≤ g; omega) (.int .i64 (y.tdiv f))).setCell (p := ⟨g, 2, none⟩) (by show w.heap.size ≤ g; omega) (.int .i64 (z.tdiv f))
  generalize ((w6.setCell ⟨g, 0, none⟩ (.int .i64 (x.tdiv f))).setCell ⟨g, 1, none⟩ (.int .i64 (y.tdiv f))).setCell ⟨g, 2, none⟩ (.int .i64 (z.tdiv f)) = w7 at hW hB7 ⊢
  have HW := Lib.hid hW
  have HB7 := Lib.hid hB7
  clear hW hB7 hgn HGN HC6 HR6 HB6 c1 c2 c3 c4 c5 c6
  refine (HV.out _).mono ?_
  rintro e w8 ⟨rfl, hb8⟩
  obtain ⟨r1, r2, r3, r4, r5, r6⟩ := own3 ((hb8.block _ (Array.getElem?_eq_some_iff.1 HW.out).1).trans HW.out)
  have HB8 := Lib.hid (HB7.out.trans (hb8.mono HB7.out.size))
  clear hb8 HW HB7
  go_wp2_with fail
  exact bodyPost_ret (v := .tuple #[.agg #[.int .i64 (x.tdiv f), .int .i64 (y.tdiv f), .int .i64 (z.tdiv f)], .int .i64 f, .int .i64 0]) (by simp [results, Try.results20, go_sem, r1, r2, r3]) rfl ⟨rfl, ((HB8.out.setCell (p := ⟨w.heap.size + 1, 0, none⟩) (by show w.heap.size ≤ w.heap.size + 1; omega) _).setCell (p := ⟨w.heap.size + 1, 1, none⟩) (by show w.heap.size ≤ w.heap.size + 1; omega) _).setCell (p := ⟨w.heap.size + 1, 2, none⟩) (by show w.heap.size ≤ w.heap.size + 1; omega) _⟩

set_option maxRecDepth 20000 in
set_option maxHeartbeats 4000000 in
theorem prim_bad (x y z n : Int) (hn : (¬ inV (x, y, z) = true ∧ n = 6) ∨ (inV (x, y, z) = true ∧ (x = 0 ∧ y = 0 ∧ z = 0) ∧ n = 1)) (w : World) : Calls Try.prog 20 #[.agg #[.int .i64 x, .int .i64 y, .int .i64 z]] w fun e w' => e = .returned (.tuple #[.agg #[.int .i64 0, .int .i64 0, .int .i64 0], .int .i64 0, .int .i64 n]) ∧ Below w.heap.size w w' := by
  have hN := fun W => check_any x y z W
  rw [errV_one] at hN
  have HM := Lib.hid (fun t t' => made2 w (.cells #[.int .i64 x, .int .i64 y, .int .i64 z] t) (.cells #[.int .i64 0, .int .i64 0, .int .i64 0] t'))
  have q1 := fun W => eqlVec 0 0 0 0 0 0 W
  rw [decide_eq_true ⟨rfl, rfl, rfl⟩] at q1
  rcases hn with ⟨hv, rfl⟩ | ⟨hv, ⟨rfl, rfl, rfl⟩, rfl⟩
  all_goals
    first | rw [if_pos hv] at hN | rw [if_neg hv] at hN
    have HN := Lib.hid hN
    clear hN hv
    go_enter Try.func20, Try.ntmps20
    go_wp2_with fail
    refine (HN.out _).mono ?_
    rintro e w1 ⟨rfl, hb⟩
    obtain ⟨m1, m2, m3, m4⟩ := HM.out 23 23
    obtain ⟨s1, s2, s3, _, _, _⟩ := own3 ((hb.block _ (by rw [m4]; omega)).trans m1)
    obtain ⟨r1, r2, r3, r4, r5, r6⟩ := own3 ((hb.block _ (by rw [m4]; omega)).trans m2)
    have HB := Lib.hid (m3.trans (hb.mono (by rw [m4]; omega)))
    clear m1 m2 m3 m4 hb HM HN
    go_wp2_with fail
    refine bodyPost_ret (v := .tuple #[.agg #[.int .i64 0, .int .i64 0, .int .i64 0], .int .i64 0, _]) (by simp [results, Try.results20, go_sem, r1, r2, r3]) rfl ⟨rfl, ((HB.out.setCell (p := ⟨w.heap.size + 1, 0, none⟩) (by show w.heap.size ≤ w.heap.size + 1; omega) _).setCell (p := ⟨w.heap.size + 1, 1, none⟩) (by show w.heap.size ≤ w.heap.size + 1; omega) _).setCell (p := ⟨w.heap.size + 1, 2, none⟩) (by show w.heap.size ≤ w.heap.size + 1; omega) _⟩


def zeroV (v : V3) : Bool := decide (v.1 = 0 ∧ v.2.1 = 0 ∧ v.2.2 = 0)
def primV (v : V3) : V3 := if inV v && !zeroV v then (v.1.tdiv (gcd3 v.1 v.2.1 v.2.2), v.2.1.tdiv (gcd3 v.1 v.2.1 v.2.2), v.2.2.tdiv (gcd3 v.1 v.2.1 v.2.2)) else (0, 0, 0)
def primK (v : V3) : Int := if inV v && !zeroV v then (gcd3 v.1 v.2.1 v.2.2 : Int) else 0
def primE (v : V3) : Int := if inV v then (if zeroV v then 1 else 0) else 6
theorem prim_any (v : V3) (w : World) : Calls Try.prog 20 #[.agg #[.int .i64 v.1, .int .i64 v.2.1, .int .i64 v.2.2]] w fun e w' => e = .returned (.tuple #[.agg #[.int .i64 (primV v).1, .int .i64 (primV v).2.1, .int .i64 (primV v).2.2], .int .i64 (primK v), .int .i64 (primE v)]) ∧ Below w.heap.size w w' := by
  obtain ⟨x, y, z⟩ := v
  cases hv : inV (x, y, z) with
  | false => simpa [primV, primK, primE, hv] using prim_bad x y z 6 (Or.inl ⟨by simp [hv], rfl⟩) w
  | true =>
    cases hz : zeroV (x, y, z) with
    | true =>
      have hz' := hz
      simp only [zeroV, decide_eq_true_eq] at hz'
      simpa [primV, primK, primE, hv, hz] using prim_bad x y z 1 (Or.inr ⟨hv, hz', rfl⟩) w
    | false =>
      have hz' := hz
      simp only [zeroV, decide_eq_false_iff_not] at hz'
      simpa [primV, primK, primE, hv, hz] using prim_ok x y z hv hz' w
end Go.Proofs.Ytdbcflgacjgdoaa
