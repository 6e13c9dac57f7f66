/- Contracts of layer 3: the reference (Compare, Primitive, Turn). -/
import Derived.Test.YtdmgehfdahjneaaVeW
import Derived.Test.YtdmgehfdahjneaaVeX
import Derived.Test.YtdmgehfdahjneaaVeV
import Derived.Test.YtdmgehfdahjneaaVeT
namespace Go.Proofs.Ytdmgehfdahjneaa
open Go.RowKit

def lessV (a b : V3) : Bool := decide (a.1 < b.1 ∨ (a.1 = b.1 ∧ (a.2.1 < b.2.1 ∨ (a.2.1 = b.2.1 ∧ a.2.2 < b.2.2))))
theorem lessV_cmp (a b : V3) : (if lessV a b then (-1 : Int) else if lessV b a then 1 else 0) = cmpV a b := by
  obtain ⟨x, y, z⟩ := a
  obtain ⟨x', y', z'⟩ := b
  simp only [lessV, cmpV, cmpI, decide_eq_true_eq]
  (repeat' split) <;> omega
set_option maxHeartbeats 1000000 in
theorem rLess (a b : V3) (w : World) : Calls Try.prog 41 #[vecV a, vecV b] w fun e w' => e = .returned (.bool (lessV a b)) ∧ Below w.heap.size w w' := by
  obtain ⟨x, y, z⟩ := a
  obtain ⟨x', y', z'⟩ := b
  have HR : Hid (lessV (x, y, z) (x', y', z') = decide (x < x' ∨ (x = x' ∧ (y < y' ∨ (y = y' ∧ z < z'))))) := rfl
  generalize lessV (x, y, z) (x', y', z') = r at HR ⊢
  go_enter Try.func41, Try.ntmps41
  go_wp2_with fail
  · rw [HR.out.trans (show _ = decide (x < x') from decide_eq_decide.2 (by have h : (x != x') = true := by assumption
                                                                           simp only [bne_iff_ne, ne_eq] at h; omega))]
    go_ret
    exact ⟨rfl, below2 _ _ _⟩
  · rw [HR.out.trans (show _ = decide (y < y') from decide_eq_decide.2 (by have h : (x != x') = false := by assumption
                                                                           have h' : (y != y') = true := by assumption
                                                                           simp only [bne_iff_ne, bne_eq_false_iff_eq, ne_eq] at h h'; omega))]
    go_ret
    exact ⟨rfl, below2 _ _ _⟩
  · rw [HR.out.trans (show _ = decide (z < z') from decide_eq_decide.2 (by have h : (x != x') = false := by assumption
                                                                           have h' : (y != y') = false := by assumption
                                                                           simp only [bne_eq_false_iff_eq] at h h'; omega))]
    go_ret
    exact ⟨rfl, below2 _ _ _⟩
set_option maxHeartbeats 1000000 in
theorem rComp (a b : V3) (w : World) : Calls Try.prog 18 #[vecV a, vecV b] w fun e w' => e = .returned (.int .i64 (cmpV a b)) ∧ Below w.heap.size w w' := by
  rw [← lessV_cmp]
  have h1 := fun W => rLess a b W
  have h2 := fun W => rLess b a W
  cases e1 : lessV a b <;> cases e2 : lessV b a
  all_goals
    rw [e1] at h1
    rw [e2] at h2
    have H1 := Lib.hid h1
    have H2 := Lib.hid h2
    clear h1 h2 e1 e2
    obtain ⟨x, y, z⟩ := a
    obtain ⟨x', y', z'⟩ := b
    go_enter Try.func18, Try.ntmps18
    go_wp2_with fail
    refine (H1.out _).mono ?_
    rintro e w1 ⟨rfl, hb1⟩
    obtain ⟨m1, m2, m3, m4⟩ := made2 w (.cells #[.int .i64 x, .int .i64 y, .int .i64 z] 23) (.cells #[.int .i64 x', .int .i64 y', .int .i64 z'] 23)
    obtain ⟨s1, s2, s3, _, _, _⟩ := own3 ((hb1.block _ (by rw [m4]; omega)).trans m1)
    obtain ⟨s4, s5, s6, _, _, _⟩ := own3 ((hb1.block _ (by rw [m4]; omega)).trans m2)
    have HB := Lib.hid (m3.trans (hb1.mono (by rw [m4]; omega)))
    clear m1 m2 m3 m4 hb1
    go_wp2_with fail
    first
      | (go_ret; exact ⟨rfl, HB.out⟩)
      | (refine (H2.out _).mono ?_
         rintro e w2 ⟨rfl, hb2⟩
         have HB2 := Lib.hid (HB.out.trans (hb2.mono HB.out.size))
         clear hb2
         go_wp2_with fail
         go_ret
         exact ⟨rfl, HB2.out⟩)
theorem rAbs (x : Int) (hx : x.natAbs ≤ 1000000) (w : World) : Calls Try.prog 47 #[.int .i64 x] w fun e w' => e = .returned (.int .i64 (x.natAbs : Int)) ∧ w' = w := by
  by_cases h : x < 0
  · have HR := Lib.hid (show (x.natAbs : Int) = -x by omega)
    go_enter Try.func47, Try.ntmps47
    go_wp2_with fail
    go_ret
    rw [HR.out]
    exact ⟨rfl, rfl⟩
  · have HR := Lib.hid (show (x.natAbs : Int) = x by omega)
    go_enter Try.func47, Try.ntmps47
    go_wp2_with fail
    go_ret
    rw [HR.out]
    exact ⟨rfl, rfl⟩
set_option maxHeartbeats 1000000 in
theorem rDiv (a b : Nat) (ha : a ≤ 1000000) (hb : b ≤ 1000000) (w : World) : Calls Try.prog 46 #[.int .i64 (a : Int), .int .i64 (b : Int)] w fun e w' => e = .returned (.int .i64 (Nat.gcd a b : Int)) ∧ Below w.heap.size w w' := by
  go_enter Try.func46, Try.ntmps46
  go_wp2_with fail
  go_loopw [0, 1] (fun s t wr => ∃ p q : Nat, s = .int .i64 (p : Int) ∧ t = .int .i64 (q : Int) ∧ p ≤ 1000000 ∧ q ≤ 1000000 ∧ Below w.heap.size w wr ∧ Hid (Nat.gcd p q = Nat.gcd a b)) (fun _ t _ => (intOf t).natAbs)
  case atStart => exact ⟨a, b, rfl, rfl, ha, hb, Below.refl _ _, rfl⟩
  case round =>
    obtain ⟨p, q, rfl, rfl, hp, hq, hbw, HG⟩ := hrel
    clear ha hb
    by_cases h0 : q = 0
    · subst h0
      have hpp : ((Nat.gcd a b : Nat) : Int) = p := by rw [← HG.out, Nat.gcd_zero_right]
      have HP := Lib.hid hpp
      clear hpp HG
      go_wp2_with fail
      go_ret
      rw [HP.out]
      exact ⟨rfl, hbw⟩
    · have hq0 : (0 : Int) < (q : Int) := by omega
      have hne : ¬ (q : Int) = 0 := by omega
      have hr : p % q < q := Nat.mod_lt _ (by omega)
      have e1 : IntKind.i64.wrap ((p : Int).tmod (q : Int)) = ((p % q : Nat) : Int) := by
        rw [show (p : Int).tmod (q : Int) = ((p % q : Nat) : Int) from (Int.ofNat_tmod p q)]
        exact wrap_in (by omega) (by omega)
      have Hn : Hid (Nat.gcd q (p % q) = Nat.gcd a b) := by unfold Hid; rw [← HG.out, Nat.gcd_comm q, ← Nat.gcd_rec, Nat.gcd_comm]
      have HR := Lib.hid hr
      clear hr
      go_wp2_with fail
      go_region
      go_wp2_with fail
      go_roundw
      case rel => exact ⟨q, p % q, rfl, rfl, hq, by have := HR.out; omega, hbw.drew, Hn⟩
      case measure => simp only [intOf]; have := HR.out; omega

set_option maxRecDepth 20000 in
set_option maxHeartbeats 4000000 in
theorem rPrim (x y z : Int) (hv : inV (x, y, z) = true) (hne : ¬ (x = 0 ∧ y = 0 ∧ z = 0)) (w : World) : Calls Try.prog 28 #[.agg #[.int .i64 x, .int .i64 y, .int .i64 z]] w fun e w' => e = .returned (.tuple #[.agg #[.int .i64 (x.tdiv (gcd3 x y z)), .int .i64 (y.tdiv (gcd3 x y z)), .int .i64 (z.tdiv (gcd3 x y z))], .int .i64 (gcd3 x y z)]) ∧ Below w.heap.size w w' := by
  have hb3 : x.natAbs ≤ 1000000 ∧ y.natAbs ≤ 1000000 ∧ z.natAbs ≤ 1000000 := by simp [inV, inC] at hv; omega
  obtain ⟨bx, by', bz⟩ := hb3
  have hg2 := gcd_le2 x y bx by'
  have hp := gcd3_pos hne
  have hl := gcd3_le hne 1000000 bx by' bz
  have A1 := Lib.hid (fun W => rAbs x bx W)
  have A2 := Lib.hid (fun W => rAbs y by' W)
  have A3 := Lib.hid (fun W => rAbs z bz W)
  have d1 : ∀ W, Calls Try.prog 46 #[.int .i64 (x.natAbs : Int), .int .i64 (y.natAbs : Int)] W fun e w' => e = .returned (.int .i64 (Nat.gcd x.natAbs y.natAbs : Int)) ∧ Below W.heap.size W w' := fun W => rDiv _ _ bx by' W
  have d2 : ∀ W, Calls Try.prog 46 #[.int .i64 (Nat.gcd x.natAbs y.natAbs : Int), .int .i64 (z.natAbs : Int)] W fun e w' => e = .returned (.int .i64 (gcd3 x y z : Int)) ∧ Below W.heap.size W w' := fun W => rDiv _ _ hg2 bz W
  have t1 := tdiv_abs x (gcd3 x y z) bx
  have t2 := tdiv_abs y (gcd3 x y z) by'
  have t3 := tdiv_abs z (gcd3 x y z) bz
  obtain ⟨f, hf⟩ : ∃ f : Int, (gcd3 x y z : Int) = f := ⟨_, rfl⟩
  rw [hf] at d2 t1 t2 t3 ⊢
  have hf0 : ¬ f = 0 := by omega
  have hf1 : 0 < f := by omega
  generalize (Nat.gcd x.natAbs y.natAbs : Int) = f2 at d1 d2
  generalize (x.natAbs : Int) = ax at d1 A1
  generalize (y.natAbs : Int) = ay at d1 A2
  generalize (z.natAbs : Int) = az at d2 A3
  have D1 := Lib.hid d1
  have D2 := Lib.hid d2
  have e1 : wrap64 (x.tdiv f) = x.tdiv f := IntWalk.wrap64_in _ (by omega)
  have e2 : wrap64 (y.tdiv f) = y.tdiv f := IntWalk.wrap64_in _ (by omega)
  have e3 : wrap64 (z.tdiv f) = z.tdiv f := IntWalk.wrap64_in _ (by omega)
  have w1' : IntKind.i64.wrap (x.tdiv f) = x.tdiv f := wrap_in (by omega) (by omega)
  have w2' : IntKind.i64.wrap (y.tdiv f) = y.tdiv f := wrap_in (by omega) (by omega)
  have w3' : IntKind.i64.wrap (z.tdiv f) = z.tdiv f := wrap_in (by omega) (by omega)
  have HM := Lib.hid (fun t => made2 w (.cells #[.int .i64 x, .int .i64 y, .int .i64 z] t) (.cells #[.int .i64 0, .int .i64 0, .int .i64 0] t))
  clear d1 d2 hp hl hg2 hf bx by' bz t1 t2 t3 hv hne
  go_enter Try.func28, Try.ntmps28
  go_wp2_with fail
  obtain ⟨m1, m2, m3, m4⟩ := HM.out 23
  generalize (w.alloc (.cells #[.int .i64 x, .int .i64 y, .int .i64 z] 23)).alloc (.cells #[.int .i64 0, .int .i64 0, .int .i64 0] 23) = w1 at m1 m2 m3 m4 ⊢
  have HN : Hid (∀ w', Below w1.heap.size w1 w' → w'.cell? ⟨w.heap.size, 0, none⟩ = some (.int .i64 x) ∧ w'.cell? ⟨w.heap.size, 1, none⟩ = some (.int .i64 y) ∧ w'.cell? ⟨w.heap.size, 2, none⟩ = some (.int .i64 z) ∧ Below w1.heap.size w1 w') := fun w' hB =>
    ⟨(hB.cell (p := ⟨_, 0, none⟩) (by show w.heap.size < _; omega)).trans (own3 m1).1, (hB.cell (p := ⟨_, 1, none⟩) (by show w.heap.size < _; omega)).trans (own3 m1).2.1, (hB.cell (p := ⟨_, 2, none⟩) (by show w.heap.size < _; omega)).trans (own3 m1).2.2.1, hB⟩
  have M2 := Lib.hid m2
  have M3 := Lib.hid m3
  clear m1 m2 m3 m4 HM
  go_region_held3 (fun w' => w'.cell? ⟨w.heap.size, 0, none⟩ = some (.int .i64 x) ∧ w'.cell? ⟨w.heap.size, 1, none⟩ = some (.int .i64 y) ∧ w'.cell? ⟨w.heap.size, 2, none⟩ = some (.int .i64 z) ∧ Below w1.heap.size w1 w')
    ((refine HN.out _ ?_; repeat (first | exact Below.refl _ _ | (apply Hid.out; assumption) | refine bAl ?_ | refine Below.drew ?_)))
    (first | (go_at_call_of 47 (Value.int IntKind.i64 x); refine (A1.out _).mono ?_; rintro e w' ⟨rfl, rfl⟩) | (go_at_call_of 47 (Value.int IntKind.i64 y); refine (A2.out _).mono ?_; rintro e w' ⟨rfl, rfl⟩) | (go_at_call_of 47 (Value.int IntKind.i64 z); refine (A3.out _).mono ?_; rintro e w' ⟨rfl, rfl⟩) | (go_at_call_of 46 (Value.int IntKind.i64 ax); refine (D1.out _).mono ?_; rintro e w' ⟨rfl, hbb⟩; have HBn : Hid (Below w1.heap.size w1 w') := (by unfold Hid; refine bNext ?_ hbb; repeat (first | exact Below.refl _ _ | (apply Hid.out; assumption) | refine bAl ?_ | refine Below.drew ?_))) | (go_at_call_of 46 (Value.int IntKind.i64 f2); refine (D2.out _).mono ?_; rintro e w' ⟨rfl, hbb⟩; have HBn : Hid (Below w1.heap.size w1 w') := (by unfold Hid; refine bNext ?_ hbb; repeat (first | exact Below.refl _ _ | (apply Hid.out; assumption) | refine bAl ?_ | refine Below.drew ?_))))
  rename_i hH
  obtain ⟨r1, r2, r3, r4, r5, r6⟩ := own3 ((hH.2.2.2.block _ (Array.getElem?_eq_some_iff.1 M2.out).1).trans M2.out)
  have HB := Lib.hid (M3.out.trans (hH.2.2.2.mono M3.out.size))
  obtain ⟨p1, p2, p3, _⟩ := hH
  clear A1 A2 A3 D1 D2 HN M2 M3
  go_wp2_with fail
  go_region
  all_goals go_wp2_with fail
  exact bodyPost_ret (v := .tuple #[.agg #[.int .i64 (x.tdiv f), .int .i64 (y.tdiv f), .int .i64 (z.tdiv f)], .int .i64 f]) (by simp [results, Try.results28, go_sem, r1, r2, r3]) rfl ⟨rfl, (((HB.out.setCell (p := ⟨w.heap.size + 1, 0, none⟩) (by show w.heap.size ≤ w.heap.size + 1; omega) _).setCell (p := ⟨w.heap.size + 1, 1, none⟩) (by show w.heap.size ≤ w.heap.size + 1; omega) _).setCell (p := ⟨w.heap.size + 1, 2, none⟩) (by show w.heap.size ≤ w.heap.size + 1; omega) _).drew⟩
set_option maxHeartbeats 1000000 in
theorem rTurn (a b c : Pt) (ha : InP a) (hb : InP b) (hc : InP c) (w : World) : Calls Try.prog 32 #[ptV a, ptV b, ptV c] w fun e w' => e = .returned (.int .i64 (trn a b c)) ∧ Below w.heap.size w w' := by
  have HT : Hid (trn a b c = cmpI ((b.1 - a.1) * (c.2 - a.2)) ((b.2 - a.2) * (c.1 - a.1))) := rfl
  generalize trn a b c = r at HT ⊢
  obtain ⟨a1, a2⟩ := a
  obtain ⟨b1, b2⟩ := b
  obtain ⟨c1, c2⟩ := c
  simp only [InP] at ha hb hc HT
  obtain ⟨x1, x2, x3, x4⟩ := ha
  obtain ⟨y1, y2, y3, y4⟩ := hb
  obtain ⟨z1, z2, z3, z4⟩ := hc
  have p1 := two_mul (tw y1 y2 x1 x2) (tw z3 z4 x3 x4)
  have p2 := two_mul (tw y3 y4 x3 x4) (tw z1 z2 x1 x2)
  have e1 : wrap64 (b1 - a1) = b1 - a1 := IntWalk.wrap64_in _ (by omega)
  have e2 : wrap64 (c2 - a2) = c2 - a2 := IntWalk.wrap64_in _ (by omega)
  have e3 : wrap64 (b2 - a2) = b2 - a2 := IntWalk.wrap64_in _ (by omega)
  have e4 : wrap64 (c1 - a1) = c1 - a1 := IntWalk.wrap64_in _ (by omega)
  have e5 : wrap64 ((b1 - a1) * (c2 - a2)) = (b1 - a1) * (c2 - a2) := IntWalk.wrap64_in _ (by omega)
  have e6 : wrap64 ((b2 - a2) * (c1 - a1)) = (b2 - a2) * (c1 - a1) := IntWalk.wrap64_in _ (by omega)
  have e7 : wrap64 ((b1 - a1) * (c2 - a2) - (b2 - a2) * (c1 - a1)) = (b1 - a1) * (c2 - a2) - (b2 - a2) * (c1 - a1) := IntWalk.wrap64_in _ (by omega)
  have hr : r = if 0 < (b1 - a1) * (c2 - a2) - (b2 - a2) * (c1 - a1) then 1 else if (b1 - a1) * (c2 - a2) - (b2 - a2) * (c1 - a1) < 0 then -1 else 0 := by
    rw [HT.out, cmpI]
    generalize (b1 - a1) * (c2 - a2) = P
    generalize (b2 - a2) * (c1 - a1) = Q
    (repeat' split) <;> omega
  clear p1 p2 x1 x2 x3 x4 y1 y2 y3 y4 z1 z2 z3 z4 HT
  have HR := Lib.hid hr
  clear hr
  go_enter Try.func32, Try.ntmps32
  go_wp2_with fail
  all_goals
    rw [HR.out]
    first | rw [if_pos (by omega)] | rw [if_neg (by omega), if_pos (by omega)] | rw [if_neg (by omega), if_neg (by omega)]
    go_ret
    exact ⟨rfl, below3 _ _ _ _⟩
theorem ret_bool {a b : Bool} (h : a = b) : Ending.returned (.bool a) = .returned (.bool b) := by rw [h]
set_option maxRecDepth 20000 in
set_option maxHeartbeats 4000000 in
theorem rOn (a b c : Pt) (ha : InP a) (hb : InP b) (hc : InP c) (w : World) : Calls Try.prog 33 #[ptV a, ptV b, ptV c] w fun e w' => e = .returned (.bool (onR a b c)) ∧ Below w.heap.size w w' := by
  have hT := fun W => rTurn a b c ha hb hc W
  have hR : onR a b c = decide (trn a b c = 0 ∧ c.1 ≥ min a.1 b.1 ∧ c.1 ≤ max a.1 b.1 ∧ c.2 ≥ min a.2 b.2 ∧ c.2 ≤ max a.2 b.2) := rfl
  clear ha hb hc
  generalize onR a b c = r at hR ⊢
  generalize trn a b c = T at hT hR
  obtain ⟨a1, a2⟩ := a
  obtain ⟨b1, b2⟩ := b
  obtain ⟨c1, c2⟩ := c
  have HT := Lib.hid hT
  have HM := Lib.hid (fun t => made3 w (.cells #[.int .i64 a1, .int .i64 a2] t) (.cells #[.int .i64 b1, .int .i64 b2] t) (.cells #[.int .i64 c1, .int .i64 c2] t))
  simp only at hR
  have HR := Lib.hid hR
  clear hT hR
  by_cases h0 : T = 0
  · subst h0
    go_enter Try.func33, Try.ntmps33
    go_wp2_with fail
    refine (HT.out _).mono ?_
    rintro e w2 ⟨rfl, hb2⟩
    obtain ⟨m1, m2, m3, m4, m5⟩ := HM.out 46
    obtain ⟨p1, p2, _, _⟩ := own2 ((hb2.block _ (by rw [m5]; omega)).trans m1)
    obtain ⟨p3, p4, _, _⟩ := own2 ((hb2.block _ (by rw [m5]; omega)).trans m2)
    obtain ⟨p5, p6, _, _⟩ := own2 ((hb2.block _ (by rw [m5]; omega)).trans m3)
    have HB := Lib.hid (m4.trans (hb2.mono (by rw [m5]; omega)))
    clear m1 m2 m3 m4 m5 hb2 HM HT
    go_wp2_with fail
    all_goals
      go_ret
      refine ⟨ret_bool ?_, HB.out⟩
      rw [HR.out]
      first | exact decide_eq_decide.2 (by simp only [true_and, ge_iff_le]; omega) | exact (decide_eq_false (by simp only [true_and, ge_iff_le]; omega)).symm
  · have h0' : (T == 0) = false := by simp [h0]
    go_enter Try.func33, Try.ntmps33
    go_wp2_with fail
    refine (HT.out _).mono ?_
    rintro e w2 ⟨rfl, hb2⟩
    obtain ⟨m1, m2, m3, m4, m5⟩ := HM.out 46
    obtain ⟨p1, p2, _, _⟩ := own2 ((hb2.block _ (by rw [m5]; omega)).trans m1)
    obtain ⟨p3, p4, _, _⟩ := own2 ((hb2.block _ (by rw [m5]; omega)).trans m2)
    obtain ⟨p5, p6, _, _⟩ := own2 ((hb2.block _ (by rw [m5]; omega)).trans m3)
    have HB := Lib.hid (m4.trans (hb2.mono (by rw [m5]; omega)))
    clear m1 m2 m3 m4 m5 hb2 HM HT
    go_wp2_with fail
    all_goals
      go_ret
      refine ⟨ret_bool ?_, HB.out⟩
      rw [HR.out]
      exact (decide_eq_false (by omega)).symm
end Go.Proofs.Ytdmgehfdahjneaa
