/- Contracts of layer 3: combine, the sum. -/
import Derived.Test.YtdbcflgacjgdoaaVeP
namespace Go.Proofs.Ytdbcflgacjgdoaa
open Go.RowKit

set_option maxRecDepth 20000 in
set_option maxHeartbeats 8000000 in
theorem comb_one (x y z x' y' z' : Int) (ha : inV (x, y, z) = true) (hb : inV (x', y', z') = true) (w : World) : Calls Try.prog 23 #[.agg #[.int .i64 x, .int .i64 y, .int .i64 z], .agg #[.int .i64 x', .int .i64 y', .int .i64 z'], .int .i64 1] w fun e w' => e = .returned (if inV (x + x', y + y', z + z') then .tuple #[.agg #[.int .i64 (x + x'), .int .i64 (y + y'), .int .i64 (z + z')], .int .i64 0] else .tuple #[.agg #[.int .i64 0, .int .i64 0, .int .i64 0], .int .i64 6]) ∧ Below w.heap.size w w' := by
  have HC := Lib.hid (fun g W t hg => ck2 x y z x' y' z' g W t hg)
  rw [ha, hb, Bool.and_self, if_pos rfl] at HC
  obtain ⟨x1, y1, z1⟩ := inV_two ha
  obtain ⟨x2, y2, z2⟩ := inV_two hb
  have HU := Lib.hid (fun W => sum_one x y z x' y' z' x1 y1 z1 x2 y2 z2 W)
  have HK := Lib.hid (fun a b c W => coords a b c W)
  have HV := Lib.hid (fun W => vect (x + x') (y + y') (z + z') W)
  have hN := fun W => check_any (x + x') (y + y') (z + z') W
  rw [errV_one] at hN
  have HN := Lib.hid hN
  clear ha hb x1 y1 z1 x2 y2 z2 hN
  generalize hr : (if inV (x + x', y + y', z + z') then Value.tuple #[.agg #[.int .i64 (x + x'), .int .i64 (y + y'), .int .i64 (z + z')], .int .i64 0] else Value.tuple #[.agg #[.int .i64 0, .int .i64 0, .int .i64 0], .int .i64 6]) = r
  have HR := Lib.hid hr
  clear hr
  go_enter Try.func23, Try.ntmps23
  go_wp2_with fail
  refine (HC.out _ _ _ (by simp)).mono ?_
  rintro e w1 ⟨rfl, hb1⟩
  have hs6 := Six.ck4 (hb1.mono (by simp))
  have h3 := Lib.hid (third (hb1.mono (by simp)))
  clear hb1
  obtain ⟨s1, s2, s3, s4, s5, s6, hz, hbw⟩ := hs6
  have HBw := Lib.hid hbw
  have HM : Hid (∀ w', Below w1.heap.size w1 w' → w'.cell? ⟨w.heap.size, 0, none⟩ = some (.int .i64 x) ∧ w'.cell? ⟨w.heap.size, 1, none⟩ = some (.int .i64 y) ∧ w'.cell? ⟨w.heap.size, 2, none⟩ = some (.int .i64 z) ∧ w'.cell? ⟨w.heap.size + 1, 0, none⟩ = some (.int .i64 x') ∧ w'.cell? ⟨w.heap.size + 1, 1, none⟩ = some (.int .i64 y') ∧ w'.cell? ⟨w.heap.size + 1, 2, none⟩ = some (.int .i64 z') ∧ Below w1.heap.size w1 w') := fun w' hB =>
    ⟨(hB.cell (p := ⟨_, 0, none⟩) (by show w.heap.size < _; omega)).trans s1, (hB.cell (p := ⟨_, 1, none⟩) (by show w.heap.size < _; omega)).trans s2, (hB.cell (p := ⟨_, 2, none⟩) (by show w.heap.size < _; omega)).trans s3,
      (hB.cell (p := ⟨_, 0, none⟩) (by show w.heap.size + 1 < _; omega)).trans s4, (hB.cell (p := ⟨_, 1, none⟩) (by show w.heap.size + 1 < _; omega)).trans s5, (hB.cell (p := ⟨_, 2, none⟩) (by show w.heap.size + 1 < _; omega)).trans s6, hB⟩
  clear s1 s2 s3 s4 s5 s6 hbw
  go_upto_region 4 with fail
  go_cut [9] (fun s9 wx => ∃ g t, s9 = .pointer (some ⟨g, 0, none⟩) ∧ wx.heap[g]? = some (.cells #[.int .i64 (x + x'), .int .i64 (y + y'), .int .i64 (z + z')] t (0, 0)) ∧ Below w1.heap.size w1 wx)
  case first =>
    go_region_held3 (fun w' => w'.cell? ⟨w.heap.size, 0, none⟩ = some (.int .i64 x) ∧ w'.cell? ⟨w.heap.size, 1, none⟩ = some (.int .i64 y) ∧ w'.cell? ⟨w.heap.size, 2, none⟩ = some (.int .i64 z) ∧ w'.cell? ⟨w.heap.size + 1, 0, none⟩ = some (.int .i64 x') ∧ w'.cell? ⟨w.heap.size + 1, 1, none⟩ = some (.int .i64 y') ∧ w'.cell? ⟨w.heap.size + 1, 2, none⟩ = some (.int .i64 z') ∧ Below w1.heap.size w1 w')
      ((refine HM.out _ ?_; repeat (first | exact Below.refl _ _ | (apply Hid.out; assumption) | refine bAl ?_ | refine Below.drew ?_ | (refine bSet3 ?_ ?_; rotate_left; (first | exact Nat.le_refl _ | (apply Below.size; apply Hid.out; assumption))))))
      (first | (go_at_call 26; refine (HK.out _ _ _ _).mono ?_; rintro e w' ⟨rfl, hbb⟩; have HBn : Hid (Below w1.heap.size w1 w') := (by unfold Hid; refine bNext ?_ hbb; repeat (first | exact Below.refl _ _ | (apply Hid.out; assumption) | refine bAl ?_ | refine Below.drew ?_)); first | (have hf := Fr3.newd hbb; have hz := hf.facts; obtain ⟨zx, zy, zz, z1, z2, z3, z4, z5, z6, z7⟩ := hz) | (have hf := Fr3.newe hbb; have hz := hf.facts; obtain ⟨zx, zy, zz, z1, z2, z3, z4, z5, z6, z7⟩ := hz) | (have hf := Fr3.new hbb; have hz := hf.facts; obtain ⟨zx, zy, zz, z1, z2, z3, z4, z5, z6, z7⟩ := hz) | (have hf := Fr3.next hf hbb; have hz := hf.facts; obtain ⟨zx, zy, zz, z1, z2, z3, z4, z5, z6, z7⟩ := hz) | skip) | (go_at_call 39; refine (HU.out _).mono ?_; rintro e w' ⟨rfl, hbb⟩; have HBn : Hid (Below w1.heap.size w1 w') := (by unfold Hid; refine bNext ?_ hbb; repeat (first | exact Below.refl _ _ | (apply Hid.out; assumption) | refine bAl ?_ | refine Below.drew ?_)); first | (have hf := Fr3.newd hbb; have hz := hf.facts; obtain ⟨zx, zy, zz, z1, z2, z3, z4, z5, z6, z7⟩ := hz) | (have hf := Fr3.newe hbb; have hz := hf.facts; obtain ⟨zx, zy, zz, z1, z2, z3, z4, z5, z6, z7⟩ := hz) | (have hf := Fr3.new hbb; have hz := hf.facts; obtain ⟨zx, zy, zz, z1, z2, z3, z4, z5, z6, z7⟩ := hz) | (have hf := Fr3.next hf hbb; have hz := hf.facts; obtain ⟨zx, zy, zz, z1, z2, z3, z4, z5, z6, z7⟩ := hz) | skip) | (go_at_call 38; refine (HV.out _).mono ?_; rintro e w' ⟨rfl, hbb⟩; have HBn : Hid (Below w1.heap.size w1 w') := (by unfold Hid; refine bNext ?_ hbb; repeat (first | exact Below.refl _ _ | (apply Hid.out; assumption) | refine bAl ?_ | refine Below.drew ?_)); first | (have hf := Fr3.newd hbb; have hz := hf.facts; obtain ⟨zx, zy, zz, z1, z2, z3, z4, z5, z6, z7⟩ := hz) | (have hf := Fr3.newe hbb; have hz := hf.facts; obtain ⟨zx, zy, zz, z1, z2, z3, z4, z5, z6, z7⟩ := hz) | (have hf := Fr3.new hbb; have hz := hf.facts; obtain ⟨zx, zy, zz, z1, z2, z3, z4, z5, z6, z7⟩ := hz) | (have hf := Fr3.next hf hbb; have hz := hf.facts; obtain ⟨zx, zy, zz, z1, z2, z3, z4, z5, z6, z7⟩ := hz) | skip))
    all_goals rename_i hH
    all_goals have HB := Lib.hid hH.2.2.2.2.2.2
    all_goals clear hH HN HC HU HK HV
    all_goals go_wp2_with fail
    all_goals go_meet
    all_goals first | (have hq := hf.set (.int .i64 (x + x')) (.int .i64 (y + y')) (.int .i64 (z + z')); obtain ⟨t, ht⟩ := hq; exact ⟨_, t, rfl, ht, HB.out⟩) | exact ⟨_, _, rfl, heap_alloc_new _ _, HB.out⟩
  case rest =>
    obtain ⟨g, t, rfl, hg0, hB⟩ := hcut
    have hw3 := (hB.block _ (by omega)).trans h3.out
    have hBw := HBw.out.trans (hB.mono (by omega))
    have HBw' := Lib.hid hBw
    obtain ⟨d1, d2, d3, _, _, _⟩ := own3 hg0
    have hg : g < wc.heap.size := (Array.getElem?_eq_some_iff.1 hg0).1
    have HG := Lib.hid hg0
    have HW3 := Lib.hid hw3
    have hzc : w.heap.size + 1 + 1 < wc.heap.size := by have := hB.size; omega
    clear hB hw3 hBw hg0
    have hr := HR.out
    have hn := HN.out
    clear HR HN
    cases hv : inV (x + x', y + y', z + z') with
    | true =>
      rw [hv, if_pos rfl] at hr hn
      subst hr
      have HN := Lib.hid hn
      clear hn hv
      go_wp2_with fail
      refine (HN.out _).mono ?_
      rintro e w2 ⟨rfl, hb2⟩
      obtain ⟨k1, k2, k3, _, _, _⟩ := own3 ((hb2.block _ hg).trans HG.out)
      have hw4 := (hb2.block _ hzc).trans HW3.out
      have HB2 := Lib.hid (HBw'.out.trans (hb2.mono HBw'.out.size))
      clear d1 d2 d3 HW3 hb2 HG HBw HBw'
      obtain ⟨r1, r2, r3, r4, r5, r6⟩ := own3 hw4
      clear hw4
      go_wp2_with fail
      exact bodyPost_ret (v := .tuple #[.agg #[.int .i64 (x + x'), .int .i64 (y + y'), .int .i64 (z + z')], .int .i64 0]) (by simp [results, Try.results23, go_sem, r1, r2, r3]) rfl ⟨rfl, ((HB2.out.setCell (p := ⟨w.heap.size + 1 + 1, 0, none⟩) (by show w.heap.size ≤ w.heap.size + 1 + 1; omega) _).setCell (p := ⟨w.heap.size + 1 + 1, 1, none⟩) (by show w.heap.size ≤ w.heap.size + 1 + 1; omega) _).setCell (p := ⟨w.heap.size + 1 + 1, 2, none⟩) (by show w.heap.size ≤ w.heap.size + 1 + 1; omega) _⟩
    | false =>
      rw [hv, if_neg (by simp)] at hr hn
      subst hr
      have HN := Lib.hid hn
      clear hn hv
      go_wp2_with fail
      refine (HN.out _).mono ?_
      rintro e w2 ⟨rfl, hb2⟩
      obtain ⟨k1, k2, k3, _, _, _⟩ := own3 ((hb2.block _ hg).trans HG.out)
      have hw4 := (hb2.block _ hzc).trans HW3.out
      have HB2 := Lib.hid (HBw'.out.trans (hb2.mono HBw'.out.size))
      clear d1 d2 d3 HW3 hb2 HG HBw HBw'
      obtain ⟨r1, r2, r3, r4, r5, r6⟩ := own3 hw4
      clear hw4
      go_wp2_with fail
      exact bodyPost_ret (v := .tuple #[.agg #[.int .i64 0, .int .i64 0, .int .i64 0], .int .i64 6]) (by simp [results, Try.results23, go_sem, r1, r2, r3]) rfl ⟨rfl, ((HB2.out.setCell (p := ⟨w.heap.size + 1 + 1, 0, none⟩) (by show w.heap.size ≤ w.heap.size + 1 + 1; omega) _).setCell (p := ⟨w.heap.size + 1 + 1, 1, none⟩) (by show w.heap.size ≤ w.heap.size + 1 + 1; omega) _).setCell (p := ⟨w.heap.size + 1 + 1, 2, none⟩) (by show w.heap.size ≤ w.heap.size + 1 + 1; omega) _⟩
end Go.Proofs.Ytdbcflgacjgdoaa
