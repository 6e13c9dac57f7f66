/- Contracts of layer 3: meetOnLine. -/
import Derived.Test.YtdbcflgacjgdoaaVeP
namespace Go.Proofs.Ytdbcflgacjgdoaa
open Go.RowKit

set_option maxRecDepth 20000 in
set_option maxHeartbeats 8000000 in
theorem onLine_any (a b c d : Pt) (w : World) : Calls Try.prog 31 #[ptV a, ptV b, ptV c, ptV d] w fun e w' => e = .returned (.int .i64 (onLine a b c d)) ∧ Below w.heap.size w w' := by
  have HE : Hid (∀ p1 p2 q1 q2 W, Calls Try.prog 42 #[.agg #[.int .i64 p1, .int .i64 p2], .agg #[.int .i64 q1, .int .i64 q2]] W fun e w' => e = .returned (.agg #[.int .i64 (earlierP (p1, p2) (q1, q2)).1, .int .i64 (earlierP (p1, p2) (q1, q2)).2]) ∧ Below W.heap.size W w') := fun p1 p2 q1 q2 W => earlier_any (p1, p2) (q1, q2) W
  have HL : Hid (∀ p1 p2 q1 q2 W, Calls Try.prog 41 #[.agg #[.int .i64 p1, .int .i64 p2], .agg #[.int .i64 q1, .int .i64 q2]] W fun e w' => e = .returned (.agg #[.int .i64 (laterP (p1, p2) (q1, q2)).1, .int .i64 (laterP (p1, p2) (q1, q2)).2]) ∧ Below W.heap.size W w') := fun p1 p2 q1 q2 W => later_any (p1, p2) (q1, q2) W
  obtain ⟨a1, a2⟩ := a
  obtain ⟨b1, b2⟩ := b
  obtain ⟨c1, c2⟩ := c
  obtain ⟨d1, d2⟩ := d
  obtain ⟨f, hf0⟩ : ∃ f, f = laterP (earlierP (a1, a2) (b1, b2)) (earlierP (c1, c2) (d1, d2)) := ⟨_, rfl⟩
  obtain ⟨u, hu0⟩ : ∃ u, u = earlierP (laterP (a1, a2) (b1, b2)) (laterP (c1, c2) (d1, d2)) := ⟨_, rfl⟩
  have HF := Lib.hid hf0
  have HU := Lib.hid hu0
  have HR : Hid (onLine (a1, a2) (b1, b2) (c1, c2) (d1, d2) = if lexP f u = -1 then 2 else if lexP f u = 0 then 1 else 0) := by unfold Hid; rw [hf0, hu0]; rfl
  have hle := lexP_le f u
  have hX : ∀ W, Calls Try.prog 43 #[.agg #[.int .i64 f.1, .int .i64 f.2], .agg #[.int .i64 u.1, .int .i64 u.2]] W fun e w' => e = .returned (.int .i64 (lexP f u)) ∧ Below W.heap.size W w' := fun W => lex_any f.1 f.2 u.1 u.2 W
  generalize lexP f u = l at hle hX HR
  have HX := Lib.hid hX
  have HLE := Lib.hid hle
  clear hX hle hf0 hu0
  generalize onLine (a1, a2) (b1, b2) (c1, c2) (d1, d2) = r at HR ⊢
  go_enter Try.func31, Try.ntmps31
  go_wp2_with fail
  obtain ⟨m1, m2, m3, m4, m5, m6⟩ := made4 w (.cells #[.int .i64 a1, .int .i64 a2] 35) (.cells #[.int .i64 b1, .int .i64 b2] 35) (.cells #[.int .i64 c1, .int .i64 c2] 35) (.cells #[.int .i64 d1, .int .i64 d2] 35)
  generalize (((w.alloc (.cells #[.int .i64 a1, .int .i64 a2] 35)).alloc (.cells #[.int .i64 b1, .int .i64 b2] 35)).alloc (.cells #[.int .i64 c1, .int .i64 c2] 35)).alloc (.cells #[.int .i64 d1, .int .i64 d2] 35) = w1 at m1 m2 m3 m4 m5 m6 ⊢
  have HM : Hid (∀ w', Below w1.heap.size w1 w' → w'.cell? ⟨w.heap.size, 0, none⟩ = some (.int .i64 a1) ∧ w'.cell? ⟨w.heap.size, 1, none⟩ = some (.int .i64 a2) ∧ w'.cell? ⟨w.heap.size + 1, 0, none⟩ = some (.int .i64 b1) ∧ w'.cell? ⟨w.heap.size + 1, 1, none⟩ = some (.int .i64 b2) ∧ w'.cell? ⟨w.heap.size + 1 + 1, 0, none⟩ = some (.int .i64 c1) ∧ w'.cell? ⟨w.heap.size + 1 + 1, 1, none⟩ = some (.int .i64 c2) ∧ w'.cell? ⟨w.heap.size + 1 + 1 + 1, 0, none⟩ = some (.int .i64 d1) ∧ w'.cell? ⟨w.heap.size + 1 + 1 + 1, 1, none⟩ = some (.int .i64 d2) ∧ Below w1.heap.size w1 w') := fun w' hB =>
    ⟨(hB.cell (p := ⟨_, 0, none⟩) (by show w.heap.size < _; omega)).trans (own2 m1).1, (hB.cell (p := ⟨_, 1, none⟩) (by show w.heap.size < _; omega)).trans (own2 m1).2.1,
      (hB.cell (p := ⟨_, 0, none⟩) (by show w.heap.size + 1 < _; omega)).trans (own2 m2).1, (hB.cell (p := ⟨_, 1, none⟩) (by show w.heap.size + 1 < _; omega)).trans (own2 m2).2.1,
      (hB.cell (p := ⟨_, 0, none⟩) (by show w.heap.size + 1 + 1 < _; omega)).trans (own2 m3).1, (hB.cell (p := ⟨_, 1, none⟩) (by show w.heap.size + 1 + 1 < _; omega)).trans (own2 m3).2.1,
      (hB.cell (p := ⟨_, 0, none⟩) (by show w.heap.size + 1 + 1 + 1 < _; omega)).trans (own2 m4).1, (hB.cell (p := ⟨_, 1, none⟩) (by show w.heap.size + 1 + 1 + 1 < _; omega)).trans (own2 m4).2.1, hB⟩
  have H5 := Lib.hid m5
  clear m1 m2 m3 m4 m5 m6
  go_cut [9] (fun s9 wx => ∃ g t, s9 = .pointer (some ⟨g, 0, none⟩) ∧ wx.heap[g]? = some (.cells #[.int .i64 f.1, .int .i64 f.2] t (0, 0)) ∧ Below w1.heap.size w1 wx)
  case first =>
    go_region_held3 (fun w' => w'.cell? ⟨w.heap.size, 0, none⟩ = some (.int .i64 a1) ∧ w'.cell? ⟨w.heap.size, 1, none⟩ = some (.int .i64 a2) ∧ w'.cell? ⟨w.heap.size + 1, 0, none⟩ = some (.int .i64 b1) ∧ w'.cell? ⟨w.heap.size + 1, 1, none⟩ = some (.int .i64 b2) ∧ w'.cell? ⟨w.heap.size + 1 + 1, 0, none⟩ = some (.int .i64 c1) ∧ w'.cell? ⟨w.heap.size + 1 + 1, 1, none⟩ = some (.int .i64 c2) ∧ w'.cell? ⟨w.heap.size + 1 + 1 + 1, 0, none⟩ = some (.int .i64 d1) ∧ w'.cell? ⟨w.heap.size + 1 + 1 + 1, 1, none⟩ = some (.int .i64 d2) ∧ Below w1.heap.size w1 w')
      ((refine HM.out _ ?_; repeat (first | exact Below.refl _ _ | (apply Hid.out; assumption) | refine bAl ?_ | refine Below.drew ?_ | (refine bSet2 ?_ ?_; rotate_left; (first | exact Nat.le_refl _ | (apply Below.size; apply Hid.out; assumption))))))
      (first | (go_at_call 42; refine (HE.out _ _ _ _ _).mono ?_; rintro e w' ⟨rfl, hbb⟩; have HBn : Hid (Below w1.heap.size w1 w') := (by unfold Hid; refine bNext ?_ hbb; repeat (first | exact Below.refl _ _ | (apply Hid.out; assumption) | refine bAl ?_ | refine Below.drew ?_)); first | (have hf := Fr2.newd hbb; have hz := hf.facts; obtain ⟨zx, zy, z1, z2, z3, z4, z5⟩ := hz) | (have hf := Fr2.newe hbb; have hz := hf.facts; obtain ⟨zx, zy, z1, z2, z3, z4, z5⟩ := hz) | (have hf := Fr2.new hbb; have hz := hf.facts; obtain ⟨zx, zy, z1, z2, z3, z4, z5⟩ := hz) | (have hf := Fr2.next hf hbb; have hz := hf.facts; obtain ⟨zx, zy, z1, z2, z3, z4, z5⟩ := hz) | skip) | (go_at_call 41; refine (HL.out _ _ _ _ _).mono ?_; rintro e w' ⟨rfl, hbb⟩; have HBn : Hid (Below w1.heap.size w1 w') := (by unfold Hid; refine bNext ?_ hbb; repeat (first | exact Below.refl _ _ | (apply Hid.out; assumption) | refine bAl ?_ | refine Below.drew ?_)); first | (have hf := Fr2.newd hbb; have hz := hf.facts; obtain ⟨zx, zy, z1, z2, z3, z4, z5⟩ := hz) | (have hf := Fr2.newe hbb; have hz := hf.facts; obtain ⟨zx, zy, z1, z2, z3, z4, z5⟩ := hz) | (have hf := Fr2.new hbb; have hz := hf.facts; obtain ⟨zx, zy, z1, z2, z3, z4, z5⟩ := hz) | (have hf := Fr2.next hf hbb; have hz := hf.facts; obtain ⟨zx, zy, z1, z2, z3, z4, z5⟩ := hz) | skip))
    all_goals rename_i hH
    all_goals have HB := Lib.hid hH.2.2.2.2.2.2.2.2
    all_goals clear hH
    all_goals go_wp2_with fail
    all_goals go_meet
    all_goals have hE := HF.out
    all_goals subst hE
    all_goals first | (have hq := hf.set (.int .i64 (laterP (earlierP (a1, a2) (b1, b2)) (earlierP (c1, c2) (d1, d2))).1) (.int .i64 (laterP (earlierP (a1, a2) (b1, b2)) (earlierP (c1, c2) (d1, d2))).2); obtain ⟨t, ht⟩ := hq; exact ⟨_, t, rfl, ht, HB.out⟩) | exact ⟨_, _, rfl, heap_alloc_new _ _, HB.out⟩
  case rest =>
    obtain ⟨g, t, rfl, hg0, hB⟩ := hcut
    have HN : Hid (∀ w', Below wc.heap.size wc w' → w'.cell? ⟨w.heap.size, 0, none⟩ = some (.int .i64 a1) ∧ w'.cell? ⟨w.heap.size, 1, none⟩ = some (.int .i64 a2) ∧ w'.cell? ⟨w.heap.size + 1, 0, none⟩ = some (.int .i64 b1) ∧ w'.cell? ⟨w.heap.size + 1, 1, none⟩ = some (.int .i64 b2) ∧ w'.cell? ⟨w.heap.size + 1 + 1, 0, none⟩ = some (.int .i64 c1) ∧ w'.cell? ⟨w.heap.size + 1 + 1, 1, none⟩ = some (.int .i64 c2) ∧ w'.cell? ⟨w.heap.size + 1 + 1 + 1, 0, none⟩ = some (.int .i64 d1) ∧ w'.cell? ⟨w.heap.size + 1 + 1 + 1, 1, none⟩ = some (.int .i64 d2) ∧ Below wc.heap.size wc w') := fun w' hB2 => by
      have h := HM.out w' (bNext hB hB2)
      exact ⟨h.1, h.2.1, h.2.2.1, h.2.2.2.1, h.2.2.2.2.1, h.2.2.2.2.2.1, h.2.2.2.2.2.2.1, h.2.2.2.2.2.2.2.1, hB2⟩
    have HBc := Lib.hid (H5.out.trans (hB.mono H5.out.size))
    have HG := Lib.hid hg0
    clear hg0 hB HM H5
    go_upto_region 2 with fail
    go_cut [10] (fun s10 wx => ∃ g' t', s10 = .pointer (some ⟨g', 0, none⟩) ∧ wx.heap[g']? = some (.cells #[.int .i64 u.1, .int .i64 u.2] t' (0, 0)) ∧ Below wc.heap.size wc wx)
    case first =>
      go_region_held3 (fun w' => w'.cell? ⟨w.heap.size, 0, none⟩ = some (.int .i64 a1) ∧ w'.cell? ⟨w.heap.size, 1, none⟩ = some (.int .i64 a2) ∧ w'.cell? ⟨w.heap.size + 1, 0, none⟩ = some (.int .i64 b1) ∧ w'.cell? ⟨w.heap.size + 1, 1, none⟩ = some (.int .i64 b2) ∧ w'.cell? ⟨w.heap.size + 1 + 1, 0, none⟩ = some (.int .i64 c1) ∧ w'.cell? ⟨w.heap.size + 1 + 1, 1, none⟩ = some (.int .i64 c2) ∧ w'.cell? ⟨w.heap.size + 1 + 1 + 1, 0, none⟩ = some (.int .i64 d1) ∧ w'.cell? ⟨w.heap.size + 1 + 1 + 1, 1, none⟩ = some (.int .i64 d2) ∧ Below wc.heap.size wc w')
        ((refine HN.out _ ?_; repeat (first | exact Below.refl _ _ | (apply Hid.out; assumption) | refine bAl ?_ | refine Below.drew ?_ | (refine bSet2 ?_ ?_; rotate_left; (first | exact Nat.le_refl _ | (apply Below.size; apply Hid.out; assumption))))))
        (first | (go_at_call 42; refine (HE.out _ _ _ _ _).mono ?_; rintro e w' ⟨rfl, hbb⟩; have HBn : Hid (Below wc.heap.size wc w') := (by unfold Hid; refine bNext ?_ hbb; repeat (first | exact Below.refl _ _ | (apply Hid.out; assumption) | refine bAl ?_ | refine Below.drew ?_)); first | (have hf := Fr2.newd hbb; have hz := hf.facts; obtain ⟨zx, zy, z1, z2, z3, z4, z5⟩ := hz) | (have hf := Fr2.newe hbb; have hz := hf.facts; obtain ⟨zx, zy, z1, z2, z3, z4, z5⟩ := hz) | (have hf := Fr2.new hbb; have hz := hf.facts; obtain ⟨zx, zy, z1, z2, z3, z4, z5⟩ := hz) | (have hf := Fr2.next hf hbb; have hz := hf.facts; obtain ⟨zx, zy, z1, z2, z3, z4, z5⟩ := hz) | skip) | (go_at_call 41; refine (HL.out _ _ _ _ _).mono ?_; rintro e w' ⟨rfl, hbb⟩; have HBn : Hid (Below wc.heap.size wc w') := (by unfold Hid; refine bNext ?_ hbb; repeat (first | exact Below.refl _ _ | (apply Hid.out; assumption) | refine bAl ?_ | refine Below.drew ?_)); first | (have hf := Fr2.newd hbb; have hz := hf.facts; obtain ⟨zx, zy, z1, z2, z3, z4, z5⟩ := hz) | (have hf := Fr2.newe hbb; have hz := hf.facts; obtain ⟨zx, zy, z1, z2, z3, z4, z5⟩ := hz) | (have hf := Fr2.new hbb; have hz := hf.facts; obtain ⟨zx, zy, z1, z2, z3, z4, z5⟩ := hz) | (have hf := Fr2.next hf hbb; have hz := hf.facts; obtain ⟨zx, zy, z1, z2, z3, z4, z5⟩ := hz) | skip))
      all_goals rename_i hH
      all_goals have HB := Lib.hid hH.2.2.2.2.2.2.2.2
      all_goals clear hH
      all_goals go_wp2_with fail
      all_goals go_meet
      all_goals have hE := HU.out
      all_goals subst hE
      all_goals first | (have hq := hf.set (.int .i64 (earlierP (laterP (a1, a2) (b1, b2)) (laterP (c1, c2) (d1, d2))).1) (.int .i64 (earlierP (laterP (a1, a2) (b1, b2)) (laterP (c1, c2) (d1, d2))).2); obtain ⟨t, ht⟩ := hq; exact ⟨_, t, rfl, ht, HB.out⟩) | exact ⟨_, _, rfl, heap_alloc_new _ _, HB.out⟩
    case rest =>
      rename_i wd
      obtain ⟨g', t', rfl, hg1, hB⟩ := hcut
      obtain ⟨e1, e2, _, _⟩ := own2 ((hB.block _ (Array.getElem?_eq_some_iff.1 HG.out).1).trans HG.out)
      obtain ⟨e3, e4, _, _⟩ := own2 hg1
      have HBd := Lib.hid (HBc.out.trans (hB.mono HBc.out.size))
      clear hB hg1 HG HBc HN HF HU HE HL
      go_wp2_with fail
      refine (HX.out _).mono ?_
      rintro e w2 ⟨rfl, hb2⟩
      have HB2 := Lib.hid (HBd.out.trans (hb2.mono HBd.out.size))
      have hle := HLE.out
      clear hb2 HBd HLE e1 e2 e3 e4 HX
      have h3 : l = -1 ∨ l = 0 ∨ l = 1 := by omega
      clear hle
      rcases h3 with rfl | rfl | rfl
      · go_wp2_with fail
        exact bodyPost_ret (v := .int .i64 2) (by simp [results, Try.results31, go_sem]) rfl ⟨by rw [HR.out]; simp, HB2.out⟩
      · go_wp2_with fail
        exact bodyPost_ret (v := .int .i64 1) (by simp [results, Try.results31, go_sem]) rfl ⟨by rw [HR.out]; simp, HB2.out⟩
      · go_wp2_with fail
        exact bodyPost_ret (v := .int .i64 0) (by simp [results, Try.results31, go_sem]) rfl ⟨by rw [HR.out]; simp, HB2.out⟩
end Go.Proofs.Ytdbcflgacjgdoaa
