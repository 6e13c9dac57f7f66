/- Contracts of layer 3: Meet. -/
import Derived.Test.YtdbcflgacjgdoaaVeR
import Derived.Test.YtdbcflgacjgdoaaVeU
namespace Go.Proofs.Ytdbcflgacjgdoaa
open Go.RowKit

theorem small_mul {x y : Int} (hx : -1 ≤ x ∧ x ≤ 1) (hy : -1 ≤ y ∧ y ≤ 1) : -1 ≤ x * y ∧ x * y ≤ 1 := by
  have := @mul_bd x y 1 1 (by omega) (by omega)
  omega
set_option maxRecDepth 20000 in
set_option maxHeartbeats 8000000 in
theorem meet4_ok (a b c d : Pt) (ha : inP a = true) (hb : inP b = true) (hc : inP c = true) (hd : inP d = true) (w : World) : Calls Try.prog 15 #[ptV a, ptV b, ptV c, ptV d] w fun e w' => e = .returned (.tuple #[.int .i64 (meetP a b c d), .int .i64 0]) ∧ Below w.heap.size w w' := by
  have HC := Lib.hid (fun g W t hg => ckP4 a b c d g W t hg)
  rw [ha, hb, hc, hd, Bool.and_self, Bool.and_self, Bool.and_self, if_pos rfl] at HC
  have HT : Hid (∀ a1 a2 b1 b2 c1 c2, InP (a1, a2) → InP (b1, b2) → InP (c1, c2) → ∀ W, Calls Try.prog 30 #[.agg #[.int .i64 a1, .int .i64 a2], .agg #[.int .i64 b1, .int .i64 b2], .agg #[.int .i64 c1, .int .i64 c2]] W fun e w' => e = .returned (.int .i64 (trn (a1, a2) (b1, b2) (c1, c2))) ∧ Below W.heap.size W w') := fun a1 a2 b1 b2 c1 c2 h1 h2 h3 W => turn_any (a1, a2) (b1, b2) (c1, c2) h1 h2 h3 W
  have HL := Lib.hid (fun W => onLine_any a b c d W)
  have ia := (inP_iff a).1 ha
  have ib := (inP_iff b).1 hb
  have ic := (inP_iff c).1 hc
  have id := (inP_iff d).1 hd
  obtain ⟨a1, a2⟩ := a
  obtain ⟨b1, b2⟩ := b
  obtain ⟨c1, c2⟩ := c
  obtain ⟨d1, d2⟩ := d
  clear ha hb hc hd
  have HR : Hid (meetP (a1, a2) (b1, b2) (c1, c2) (d1, d2) = if trn (a1, a2) (b1, b2) (c1, c2) = 0 ∧ trn (a1, a2) (b1, b2) (d1, d2) = 0 ∧ trn (c1, c2) (d1, d2) (a1, a2) = 0 ∧ trn (c1, c2) (d1, d2) (b1, b2) = 0 then onLine (a1, a2) (b1, b2) (c1, c2) (d1, d2) else if trn (a1, a2) (b1, b2) (c1, c2) * trn (a1, a2) (b1, b2) (d1, d2) > 0 ∨ trn (c1, c2) (d1, d2) (a1, a2) * trn (c1, c2) (d1, d2) (b1, b2) > 0 then 0 else 1) := rfl
  generalize meetP (a1, a2) (b1, b2) (c1, c2) (d1, d2) = r at HR ⊢
  obtain ⟨m1, m2, m3, m4, m5, m6⟩ := made4 w (.cells #[.int .i64 a1, .int .i64 a2] 35) (.cells #[.int .i64 b1, .int .i64 b2] 35) (.cells #[.int .i64 c1, .int .i64 c2] 35) (.cells #[.int .i64 d1, .int .i64 d2] 35)
  have M1 := Lib.hid m1
  have M2 := Lib.hid m2
  have M3 := Lib.hid m3
  have M4 := Lib.hid m4
  have M5 := Lib.hid m5
  have M6 := Lib.hid m6
  clear m1 m2 m3 m4 m5 m6
  go_enter Try.func15, Try.ntmps15
  go_wp2_with fail
  refine (HC.out _ _ _ (by simp)).mono ?_
  rintro e w1 ⟨rfl, hb1⟩
  have hb2 := Below.trans ((Below.refl _ _).alloc (Nat.le_refl _) _) (hb1.mono (by omega))
  have m1 := (hb2.block _ (by rw [M6.out]; omega)).trans M1.out
  have m2 := (hb2.block _ (by rw [M6.out]; omega)).trans M2.out
  have m3 := (hb2.block _ (by rw [M6.out]; omega)).trans M3.out
  have m4 := (hb2.block _ (by rw [M6.out]; omega)).trans M4.out
  have hsz : w.heap.size + 4 ≤ w1.heap.size := by have := hb2.size; rw [M6.out] at this; exact this
  have H5 := Lib.hid (M5.out.trans (hb2.mono (by rw [M6.out]; omega)))
  clear hb1 hb2 M1 M2 M3 M4 M5 M6 HC
  have HM : Hid (∀ w', Below w1.heap.size w1 w' → w'.cell? ⟨w.heap.size, 0, none⟩ = some (.int .i64 a1) ∧ w'.cell? ⟨w.heap.size, 1, none⟩ = some (.int .i64 a2) ∧ w'.cell? ⟨w.heap.size + 1, 0, none⟩ = some (.int .i64 b1) ∧ w'.cell? ⟨w.heap.size + 1, 1, none⟩ = some (.int .i64 b2) ∧ w'.cell? ⟨w.heap.size + 1 + 1, 0, none⟩ = some (.int .i64 c1) ∧ w'.cell? ⟨w.heap.size + 1 + 1, 1, none⟩ = some (.int .i64 c2) ∧ w'.cell? ⟨w.heap.size + 1 + 1 + 1, 0, none⟩ = some (.int .i64 d1) ∧ w'.cell? ⟨w.heap.size + 1 + 1 + 1, 1, none⟩ = some (.int .i64 d2) ∧ Below w1.heap.size w1 w') := fun w' hB =>
    ⟨(hB.cell (p := ⟨_, 0, none⟩) (by show w.heap.size < _; omega)).trans (own2 m1).1, (hB.cell (p := ⟨_, 1, none⟩) (by show w.heap.size < _; omega)).trans (own2 m1).2.1,
      (hB.cell (p := ⟨_, 0, none⟩) (by show w.heap.size + 1 < _; omega)).trans (own2 m2).1, (hB.cell (p := ⟨_, 1, none⟩) (by show w.heap.size + 1 < _; omega)).trans (own2 m2).2.1,
      (hB.cell (p := ⟨_, 0, none⟩) (by show w.heap.size + 1 + 1 < _; omega)).trans (own2 m3).1, (hB.cell (p := ⟨_, 1, none⟩) (by show w.heap.size + 1 + 1 < _; omega)).trans (own2 m3).2.1,
      (hB.cell (p := ⟨_, 0, none⟩) (by show w.heap.size + 1 + 1 + 1 < _; omega)).trans (own2 m4).1, (hB.cell (p := ⟨_, 1, none⟩) (by show w.heap.size + 1 + 1 + 1 < _; omega)).trans (own2 m4).2.1, hB⟩
  clear m1 m2 m3 m4 hsz
  go_upto_region 4 with fail
  go_cut [11] (fun s11 wx => ∃ g t, s11 = .pointer (some ⟨g, 0, none⟩) ∧ wx.heap[g]? = some (.cells #[.int .i64 (trn (a1, a2) (b1, b2) (c1, c2)), .int .i64 (trn (a1, a2) (b1, b2) (d1, d2))] t (0, 0)) ∧ Below w1.heap.size w1 wx)
  case first =>
    go_region_held3 (fun w' => w'.cell? ⟨w.heap.size, 0, none⟩ = some (.int .i64 a1) ∧ w'.cell? ⟨w.heap.size, 1, none⟩ = some (.int .i64 a2) ∧ w'.cell? ⟨w.heap.size + 1, 0, none⟩ = some (.int .i64 b1) ∧ w'.cell? ⟨w.heap.size + 1, 1, none⟩ = some (.int .i64 b2) ∧ w'.cell? ⟨w.heap.size + 1 + 1, 0, none⟩ = some (.int .i64 c1) ∧ w'.cell? ⟨w.heap.size + 1 + 1, 1, none⟩ = some (.int .i64 c2) ∧ w'.cell? ⟨w.heap.size + 1 + 1 + 1, 0, none⟩ = some (.int .i64 d1) ∧ w'.cell? ⟨w.heap.size + 1 + 1 + 1, 1, none⟩ = some (.int .i64 d2) ∧ Below w1.heap.size w1 w')
      ((refine HM.out _ ?_; repeat (first | exact Below.refl _ _ | (apply Hid.out; assumption) | refine bAl ?_ | refine Below.drew ?_ | (refine bSet2 ?_ ?_; rotate_left; (first | exact Nat.le_refl _ | (apply Below.size; apply Hid.out; assumption))))))
      (first | (go_at_call 30; refine (HT.out _ _ _ _ _ _ ?_ ?_ ?_ _).mono ?_; assumption; assumption; assumption; rintro e w' ⟨rfl, hbb⟩; have HBn : Hid (Below w1.heap.size w1 w') := (by unfold Hid; refine bNext ?_ hbb; repeat (first | exact Below.refl _ _ | (apply Hid.out; assumption) | refine bAl ?_ | refine Below.drew ?_)); first | (have hf := Fr2.newd hbb; have hz := hf.facts; obtain ⟨zx, zy, z1, z2, z3, z4, z5⟩ := hz) | (have hf := Fr2.newe hbb; have hz := hf.facts; obtain ⟨zx, zy, z1, z2, z3, z4, z5⟩ := hz) | (have hf := Fr2.new hbb; have hz := hf.facts; obtain ⟨zx, zy, z1, z2, z3, z4, z5⟩ := hz) | (have hf := Fr2.next hf hbb; have hz := hf.facts; obtain ⟨zx, zy, z1, z2, z3, z4, z5⟩ := hz) | skip))
    all_goals rename_i hH
    all_goals have HB := Lib.hid hH.2.2.2.2.2.2.2.2
    all_goals clear hH
    all_goals go_wp2_with fail
    all_goals go_meet
    all_goals first | (have hq := hf.set (.int .i64 (trn (a1, a2) (b1, b2) (c1, c2))) (.int .i64 (trn (a1, a2) (b1, b2) (d1, d2))); obtain ⟨t, ht⟩ := hq; exact ⟨_, t, rfl, ht, HB.out⟩) | exact ⟨_, _, rfl, heap_alloc_new _ _, HB.out⟩
  case rest =>
    obtain ⟨g, t, rfl, hg0, hB⟩ := hcut
    have HN : Hid (∀ w', Below wc.heap.size wc w' → w'.cell? ⟨w.heap.size, 0, none⟩ = some (.int .i64 a1) ∧ w'.cell? ⟨w.heap.size, 1, none⟩ = some (.int .i64 a2) ∧ w'.cell? ⟨w.heap.size + 1, 0, none⟩ = some (.int .i64 b1) ∧ w'.cell? ⟨w.heap.size + 1, 1, none⟩ = some (.int .i64 b2) ∧ w'.cell? ⟨w.heap.size + 1 + 1, 0, none⟩ = some (.int .i64 c1) ∧ w'.cell? ⟨w.heap.size + 1 + 1, 1, none⟩ = some (.int .i64 c2) ∧ w'.cell? ⟨w.heap.size + 1 + 1 + 1, 0, none⟩ = some (.int .i64 d1) ∧ w'.cell? ⟨w.heap.size + 1 + 1 + 1, 1, none⟩ = some (.int .i64 d2) ∧ Below wc.heap.size wc w') := fun w' hB2 => by
      have h := HM.out w' (bNext hB hB2)
      exact ⟨h.1, h.2.1, h.2.2.1, h.2.2.2.1, h.2.2.2.2.1, h.2.2.2.2.2.1, h.2.2.2.2.2.2.1, h.2.2.2.2.2.2.2.1, hB2⟩
    have HBc := Lib.hid (H5.out.trans (hB.mono H5.out.size))
    have HG := Lib.hid hg0
    clear hg0 hB HM H5
    go_upto_region 5 with fail
    go_cut [12] (fun s12 wx => ∃ g' t', s12 = .pointer (some ⟨g', 0, none⟩) ∧ wx.heap[g']? = some (.cells #[.int .i64 (trn (c1, c2) (d1, d2) (a1, a2)), .int .i64 (trn (c1, c2) (d1, d2) (b1, b2))] t' (0, 0)) ∧ Below wc.heap.size wc wx)
    case first =>
      go_region_held3 (fun w' => w'.cell? ⟨w.heap.size, 0, none⟩ = some (.int .i64 a1) ∧ w'.cell? ⟨w.heap.size, 1, none⟩ = some (.int .i64 a2) ∧ w'.cell? ⟨w.heap.size + 1, 0, none⟩ = some (.int .i64 b1) ∧ w'.cell? ⟨w.heap.size + 1, 1, none⟩ = some (.int .i64 b2) ∧ w'.cell? ⟨w.heap.size + 1 + 1, 0, none⟩ = some (.int .i64 c1) ∧ w'.cell? ⟨w.heap.size + 1 + 1, 1, none⟩ = some (.int .i64 c2) ∧ w'.cell? ⟨w.heap.size + 1 + 1 + 1, 0, none⟩ = some (.int .i64 d1) ∧ w'.cell? ⟨w.heap.size + 1 + 1 + 1, 1, none⟩ = some (.int .i64 d2) ∧ Below wc.heap.size wc w')
        ((refine HN.out _ ?_; repeat (first | exact Below.refl _ _ | (apply Hid.out; assumption) | refine bAl ?_ | refine Below.drew ?_ | (refine bSet2 ?_ ?_; rotate_left; (first | exact Nat.le_refl _ | (apply Below.size; apply Hid.out; assumption))))))
        (first | (go_at_call 30; refine (HT.out _ _ _ _ _ _ ?_ ?_ ?_ _).mono ?_; assumption; assumption; assumption; rintro e w' ⟨rfl, hbb⟩; have HBn : Hid (Below wc.heap.size wc w') := (by unfold Hid; refine bNext ?_ hbb; repeat (first | exact Below.refl _ _ | (apply Hid.out; assumption) | refine bAl ?_ | refine Below.drew ?_)); first | (have hf := Fr2.newd hbb; have hz := hf.facts; obtain ⟨zx, zy, z1, z2, z3, z4, z5⟩ := hz) | (have hf := Fr2.newe hbb; have hz := hf.facts; obtain ⟨zx, zy, z1, z2, z3, z4, z5⟩ := hz) | (have hf := Fr2.new hbb; have hz := hf.facts; obtain ⟨zx, zy, z1, z2, z3, z4, z5⟩ := hz) | (have hf := Fr2.next hf hbb; have hz := hf.facts; obtain ⟨zx, zy, z1, z2, z3, z4, z5⟩ := hz) | skip))
      all_goals rename_i hH
      all_goals have HB := Lib.hid hH.2.2.2.2.2.2.2.2
      all_goals clear hH
      all_goals go_wp2_with fail
      all_goals go_meet
      all_goals first | (have hq := hf.set (.int .i64 (trn (c1, c2) (d1, d2) (a1, a2))) (.int .i64 (trn (c1, c2) (d1, d2) (b1, b2))); obtain ⟨t, ht⟩ := hq; exact ⟨_, t, rfl, ht, HB.out⟩) | exact ⟨_, _, rfl, heap_alloc_new _ _, HB.out⟩
    case rest =>
      rename_i wd
      obtain ⟨g', t', rfl, hg1, hB⟩ := hcut
      obtain ⟨e1, e2, _, _⟩ := own2 ((hB.block _ (Array.getElem?_eq_some_iff.1 HG.out).1).trans HG.out)
      obtain ⟨e3, e4, _, _⟩ := own2 hg1
      have HBd := Lib.hid (HBc.out.trans (hB.mono HBc.out.size))
      obtain ⟨p1, p2, p3, p4, p5, p6, p7, p8, _⟩ := HN.out _ hB
      clear hB hg1 HG HBc HN HT ia ib ic id
      have b1' := trn_le (a1, a2) (b1, b2) (c1, c2)
      have b2' := trn_le (a1, a2) (b1, b2) (d1, d2)
      have b3' := trn_le (c1, c2) (d1, d2) (a1, a2)
      have b4' := trn_le (c1, c2) (d1, d2) (b1, b2)
      generalize trn (a1, a2) (b1, b2) (c1, c2) = T1 at *
      generalize trn (a1, a2) (b1, b2) (d1, d2) = T2 at *
      generalize trn (c1, c2) (d1, d2) (a1, a2) = T3 at *
      generalize trn (c1, c2) (d1, d2) (b1, b2) = T4 at *
      have B1 := Lib.hid b1'
      have B2 := Lib.hid b2'
      have B3 := Lib.hid b3'
      have B4 := Lib.hid b4'
      clear b1' b2' b3' b4'
      by_cases hz : T1 = 0 ∧ T2 = 0 ∧ T3 = 0 ∧ T4 = 0
      · obtain ⟨rfl, rfl, rfl, rfl⟩ := hz
        have q1 := fun W => eqlA2 0 0 0 0 W
        rw [show decide ((0 : Int) = 0 ∧ (0 : Int) = 0) = true by decide] at q1
        go_wp2_with fail
        refine (HL.out _).mono ?_
        rintro e w2 ⟨rfl, hb2⟩
        go_wp2_with fail
        have hr : r = onLine (a1, a2) (b1, b2) (c1, c2) (d1, d2) := by have := HR.out; simpa using this
        exact bodyPost_ret (v := .tuple #[.int .i64 (onLine (a1, a2) (b1, b2) (c1, c2) (d1, d2)), .int .i64 0]) (by simp [results, Try.results15, go_sem]) rfl ⟨by rw [hr], HBd.out.trans (hb2.mono HBd.out.size)⟩
      · have hr := HR.out
        rw [if_neg hz] at hr
        have HZ := Lib.hid hz
        have HR' := Lib.hid hr
        have c1' : -1 ≤ T1 * T2 ∧ T1 * T2 ≤ 1 := small_mul B1.out B2.out
        have c2' : -1 ≤ T3 * T4 ∧ T3 * T4 ≤ 1 := small_mul B3.out B4.out
        have e5 : wrap64 (T1 * T2) = T1 * T2 := IntWalk.wrap64_in _ (by omega)
        have e6 : wrap64 (T3 * T4) = T3 * T4 := IntWalk.wrap64_in _ (by omega)
        clear hz hr HR HL c1' c2'
        by_cases h12 : T1 = 0 ∧ T2 = 0
        · have h34 : ¬ (T3 = 0 ∧ T4 = 0) := fun h => HZ.out ⟨h12.1, h12.2, h.1, h.2⟩
          have q1 := fun W => eqlA2 T1 T2 0 0 W
          have q2 := fun W => eqlA2 T3 T4 0 0 W
          rw [decide_eq_true h12] at q1
          rw [decide_eq_false h34] at q2
          have H12 := Lib.hid h12
          clear h12 h34
          go_wp2_with fail
          all_goals first | exact bodyPost_ret (v := .tuple #[.int .i64 0, .int .i64 0]) (by simp [results, Try.results15, go_sem]) rfl ⟨by rw [HR'.out, if_pos (by omega)], HBd.out⟩ | exact bodyPost_ret (v := .tuple #[.int .i64 1, .int .i64 0]) (by simp [results, Try.results15, go_sem]) rfl ⟨by rw [HR'.out, if_neg (by omega)], HBd.out⟩
        · have q1 := fun W => eqlA2 T1 T2 0 0 W
          rw [decide_eq_false h12] at q1
          clear h12
          go_wp2_with fail
          all_goals first | exact bodyPost_ret (v := .tuple #[.int .i64 0, .int .i64 0]) (by simp [results, Try.results15, go_sem]) rfl ⟨by rw [HR'.out, if_pos (by omega)], HBd.out⟩ | exact bodyPost_ret (v := .tuple #[.int .i64 1, .int .i64 0]) (by simp [results, Try.results15, go_sem]) rfl ⟨by rw [HR'.out, if_neg (by omega)], HBd.out⟩
end Go.Proofs.Ytdbcflgacjgdoaa
