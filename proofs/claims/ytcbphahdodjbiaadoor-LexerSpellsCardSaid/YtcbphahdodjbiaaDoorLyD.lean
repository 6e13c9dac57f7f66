/- Layer 9 (lexer): texts and numbers of the program. -/
import Derived.Test.YtcbphahdodjbiaaDoorLyC
namespace Go.Proofs.YtcbphahdodjbiaaDoor
open Go.RowKit Go.Ev
set_option maxRecDepth 100000

theorem labelL (l : List UInt8) (hl : l.length ≤ 1000) (w : World) : Calls Tryd.prog 41 #[strV l] w fun e w' => e = .returned (.bool (labelS ⟨l.toArray⟩)) ∧ Below w.heap.size w w' :=
  label_any ⟨l.toArray⟩ (by rw [str_size]; omega) w
noncomputable def textF (l : List UInt8) : FT :=
  if sp 34 (l.drop 1) < (l.drop 1).length then (if labelS ⟨((l.drop 1).take (sp 34 (l.drop 1))).toArray⟩ = true then ⟨3, (l.drop 1).take (sp 34 (l.drop 1)), 0, sp 34 (l.drop 1) + 2, 0⟩ else ⟨0, [], 0, 0, 4⟩) else ⟨0, [], 0, 0, 2⟩

set_option maxHeartbeats 1000000 in
theorem text_any (l : List UInt8) (h1 : 1 ≤ l.length) (hl : l.length ≤ 1000) (w : World) (hw : LxW w) : Calls Tryd.prog 24 #[strV l] w fun e w' => e = .returned (ftV (textF l)) ∧ Below w.heap.size w w' := by
  have hsp := sp_le 34 (l.drop 1)
  have hd : (l.drop 1).length = l.length - 1 := by simp
  have hlo : (⟨l.toArray⟩ : ByteArray).extract 1 l.length = ⟨(l.drop 1).toArray⟩ := str_lo l 1
  have h1' : (1 : Int) ≤ l.length := by omega
  have hb0 := al_below w (.cells #[iv 0, strV [], iv 0, iv 0] 23)
  have hcz := al_at w #[iv 0, strV [], iv 0, iv 0] 23
  have hw0 := hw.below hb0 hw.1
  obtain ⟨r, hr0⟩ : ∃ r, r = l.drop 1 := ⟨_, rfl⟩
  rw [← hr0] at hsp hd hlo
  have HTF : Hid (textF l = if sp 34 r < r.length then (if labelS ⟨(r.take (sp 34 r)).toArray⟩ = true then ⟨3, r.take (sp 34 r), 0, sp 34 r + 2, 0⟩ else ⟨0, [], 0, 0, 4⟩) else ⟨0, [], 0, 0, 2⟩) := by
    show textF l = _
    rw [hr0]
    rfl
  clear hr0
  go_enter Tryd.func24, Tryd.ntmps24
  go_wp2_with fail
  refine Calls.mono (cut_any 34 r (by omega) _ hw0) ?_
  rintro e W1 ⟨rfl, hb1⟩
  have hz1 := (hb1.block w.heap.size (by rw [al_size]; omega)).trans hcz
  have hbw1 := hb0.trans (hb1.mono (by rw [al_size]; omega))
  have hw1 := hw0.below hb1 hw0.1
  clear hb1 hcz
  by_cases hp : sp 34 r < r.length
  · simp only [hp, if_true, decide_true]
    go_wp2_with fail
    refine Calls.mono (labelL (r.take (sp 34 r)) (by rw [List.length_take]; omega) _) ?_
    rintro e W2 ⟨rfl, hb2⟩
    have hz2 := (hb2.block w.heap.size (Array.getElem?_eq_some_iff.1 hz1).1).trans hz1
    have hbw2 := hbw1.trans (hb2.mono hbw1.size)
    have hw2 := hw1.below hb2 hw1.1
    clear hb2 hz1
    by_cases hL : labelS ⟨(r.take (sp 34 r)).toArray⟩ = true
    · have hr : ftV (textF l) = .tuple #[tokV 3 (r.take (sp 34 r)) 0 0, iv ((sp 34 r : Nat) + 2), iv 0] := by rw [HTF.out, if_pos hp, if_pos hL]; simp [ftV]
      go_wp2_with fail
      refine Calls.mono (clone_any (r.take (sp 34 r)) (by rw [List.length_take]; omega) _) ?_
      rintro e W3 ⟨rfl, hb3⟩
      have hz3 := (hb3.block w.heap.size (Array.getElem?_eq_some_iff.1 hz2).1).trans hz2
      have hbw3 := hbw2.trans (hb3.mono hbw2.size)
      have hw3 := hw2.below hb3 hw2.1
      clear hb3 hz2
      have hlen : (r.take (sp 34 r)).length = sp 34 r := by rw [List.length_take]; omega
      have hmin : min (sp 34 r) r.length = sp 34 r := by omega
      have hwr : IntKind.i64.wrap ((sp 34 r : Nat) + 2 : Int) = (sp 34 r : Nat) + 2 := by rw [IntKind.wrap_i64]; omega
      have hc0 := cell_at (i := 0) hz3 rfl
      have hc1 := cell_at (i := 1) hz3 rfl
      have hc2 := cell_at (i := 2) hz3 rfl
      have hc3 := cell_at (i := 3) hz3 rfl
      obtain ⟨hf0, hf1, hf2, hf3⟩ := four_frozen hz3
      have hE0 := fun u0 u1 u2 u3 => cell_at (i := 0) (four_cells hz3 u0 u1 u2 u3) rfl
      have hE1 := fun u0 u1 u2 u3 => cell_at (i := 1) (four_cells hz3 u0 u1 u2 u3) rfl
      have hE2 := fun u0 u1 u2 u3 => cell_at (i := 2) (four_cells hz3 u0 u1 u2 u3) rfl
      have hE3 := fun u0 u1 u2 u3 => cell_at (i := 3) (four_cells hz3 u0 u1 u2 u3) rfl
      have hbe := fun u0 u1 u2 u3 => four_below hbw3 (Nat.le_refl _) u0 u1 u2 u3
      simp only [List.getElem_toArray, List.getElem_cons_zero, List.getElem_cons_succ] at hc0 hc1 hc2 hc3 hE0 hE1 hE2 hE3
      clear hz3
      go_wp2_with fail
      simp [bodyPost, results, Tryd.results24, go_sem, hr, hE0, hE1, hE2, hE3]
      exact hbe _ _ _ _
    · have hr : ftV (textF l) = .tuple #[tokV 0 [] 0 0, iv 0, iv 4] := by rw [HTF.out, if_pos hp, if_neg hL]; rfl
      have hc0 := cell_at (i := 0) hz2 rfl
      have hc1 := cell_at (i := 1) hz2 rfl
      have hc2 := cell_at (i := 2) hz2 rfl
      have hc3 := cell_at (i := 3) hz2 rfl
      obtain ⟨hf0, hf1, hf2, hf3⟩ := four_frozen hz2
      have hE0 := fun u0 u1 u2 u3 => cell_at (i := 0) (four_cells hz2 u0 u1 u2 u3) rfl
      have hE1 := fun u0 u1 u2 u3 => cell_at (i := 1) (four_cells hz2 u0 u1 u2 u3) rfl
      have hE2 := fun u0 u1 u2 u3 => cell_at (i := 2) (four_cells hz2 u0 u1 u2 u3) rfl
      have hE3 := fun u0 u1 u2 u3 => cell_at (i := 3) (four_cells hz2 u0 u1 u2 u3) rfl
      have hbe := fun u0 u1 u2 u3 => four_below hbw2 (Nat.le_refl _) u0 u1 u2 u3
      simp only [List.getElem_toArray, List.getElem_cons_zero, List.getElem_cons_succ] at hc0 hc1 hc2 hc3 hE0 hE1 hE2 hE3
      clear hz2
      go_wp2_with fail
      simp [bodyPost, results, Tryd.results24, go_sem, hr, hE0, hE1, hE2, hE3]
      exact hbe _ _ _ _
  · have hr : ftV (textF l) = .tuple #[tokV 0 [] 0 0, iv 0, iv 2] := by rw [HTF.out, if_neg hp]; rfl
    simp only [hp, if_false, decide_false]
    have hc0 := cell_at (i := 0) hz1 rfl
    have hc1 := cell_at (i := 1) hz1 rfl
    have hc2 := cell_at (i := 2) hz1 rfl
    have hc3 := cell_at (i := 3) hz1 rfl
    obtain ⟨hf0, hf1, hf2, hf3⟩ := four_frozen hz1
    have hE0 := fun u0 u1 u2 u3 => cell_at (i := 0) (four_cells hz1 u0 u1 u2 u3) rfl
    have hE1 := fun u0 u1 u2 u3 => cell_at (i := 1) (four_cells hz1 u0 u1 u2 u3) rfl
    have hE2 := fun u0 u1 u2 u3 => cell_at (i := 2) (four_cells hz1 u0 u1 u2 u3) rfl
    have hE3 := fun u0 u1 u2 u3 => cell_at (i := 3) (four_cells hz1 u0 u1 u2 u3) rfl
    have hbe := fun u0 u1 u2 u3 => four_below hbw1 (Nat.le_refl _) u0 u1 u2 u3
    simp only [List.getElem_toArray, List.getElem_cons_zero, List.getElem_cons_succ] at hc0 hc1 hc2 hc3 hE0 hE1 hE2 hE3
    clear hz1
    go_wp2_with fail
    simp [bodyPost, results, Tryd.results24, go_sem, hr, hE0, hE1, hE2, hE3]
    exact hbe _ _ _ _

theorem well_any (d : List UInt8) (hl : d.length ≤ 1000) (neg : Bool) (w : World) : Calls Tryd.prog 39 #[strV d, .bool neg] w fun e w' => e = .returned (.bool (wellF d neg)) ∧ Below w.heap.size w w' := by
  cases d with
  | nil =>
    go_enter Tryd.func39, Tryd.ntmps39
    go_wp2_with fail
    go_ret
    exact ⟨rfl, Below.refl _ _⟩
  | cons c r =>
    have h0 : (⟨(c :: r).toArray⟩ : ByteArray)[0]'(by rw [str_size]; simp) = c := rfl
    by_cases hc : c = 48
    · subst hc
      cases r with
      | nil =>
        cases neg
        · go_enter Tryd.func39, Tryd.ntmps39
          go_wp2_with fail
          go_ret
          exact ⟨rfl, Below.refl _ _⟩
        · go_enter Tryd.func39, Tryd.ntmps39
          go_wp2_with fail
          go_ret
          exact ⟨rfl, Below.refl _ _⟩
      | cons c2 r =>
        go_enter Tryd.func39, Tryd.ntmps39
        go_wp2_with fail
        go_ret
        exact ⟨rfl, Below.refl _ _⟩
    · have hcn : ((c.toNat : Int) == 48) = false := by
        rw [beq_eq_false_iff_ne]
        intro h
        exact hc (UInt8.toNat_inj.1 (by rw [show (48 : UInt8).toNat = 48 from rfl]; omega))
      have hcm : ¬ ((c.toNat : Int) = 48) := by simpa using hcn
      have hr : wellF (c :: r) neg = true := by simp [wellF, hc]
      clear hc
      go_enter Tryd.func39, Tryd.ntmps39
      go_wp2_with fail
      go_ret
      exact ⟨by rw [hr]; rfl, Below.refl _ _⟩
end Go.Proofs.YtcbphahdodjbiaaDoor
