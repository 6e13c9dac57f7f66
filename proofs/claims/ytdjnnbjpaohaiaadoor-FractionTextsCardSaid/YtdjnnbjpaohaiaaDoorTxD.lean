/- Layer 4 (fraction): Parse of the program. -/
import Derived.Test.YtdjnnbjpaohaiaaDoorTxC
namespace Go.Proofs.YtdjnnbjpaohaiaaDoor
open Go.RowKit Go.Ev
set_option maxRecDepth 100000

/-- What Parse returns of a text. -/
def okT (s : List UInt8) : Bool := validF (psN s) (psD s) && decide (txt (psN s) (psD s) = s)
def parseV (s : List UInt8) : Value := cond (okT s) (.tuple #[frV (psN s) (psD s), iv 0]) (.tuple #[frV 0 0, iv 2])
theorem pI_one : pI [49] = 1 := by decide +kernel

set_option maxHeartbeats 1000000 in
theorem pParse_any (s : List UInt8) (hs : s.length ≤ 100) (w : World) (hw : TxW w) : Calls Tryd.prog 35 #[strV s] w fun e w' => e = .returned (parseV s) ∧ Below w.heap.size w w' := by
  have hN := psN_in s
  have hD := psD_in s
  have hl := sp_le s
  have hb0 := al_below w (.cells #[iv 0, iv 0] 23)
  have hw0 := hw.below hb0 hw.1.size
  have hcz := al_at w #[iv 0, iv 0] 23
  have hsz := al_size w (.cells #[iv 0, iv 0] 23)
  go_enter Tryd.func35, Tryd.ntmps35
  go_wp2_with fail
  refine Calls.mono (cut_any s (by omega) _ hw0) ?_
  rintro e W1 ⟨rfl, hb1⟩
  have hw1 := hw0.below hb1 hw0.1.size
  have hbw1 := hb0.trans (hb1.mono (by rw [al_size]; omega))
  have hz1 := (hb1.block w.heap.size (by rw [al_size]; omega)).trans hcz
  by_cases hp : sp s < s.length
  · simp only [hp, if_true, decide_true]
    have hDe : psD s = pI (s.drop (sp s + 1)) := by unfold psD; rw [if_pos hp]
    go_wp2_with fail
    refine Calls.mono (pint_any (s.take (sp s)) (by rw [List.length_take]; omega) _ hw1) ?_
    rintro e W2 ⟨⟨E1, rfl⟩, hb2⟩
    have hw2 := hw1.below hb2 hw1.1.size
    have hbw2 := hbw1.trans (hb2.mono hbw1.size)
    have hz2 := (hb2.block w.heap.size (by have := hbw1.size; have := (Array.getElem?_eq_some_iff.1 hz1).1; omega)).trans hz1
    go_wp2_with fail
    refine Calls.mono (pint_any (s.drop (sp s + 1)) (by rw [List.length_drop]; omega) _ hw2) ?_
    rintro e W3 ⟨⟨E2, rfl⟩, hb3⟩
    have hw3 := hw2.below hb3 hw2.1.size
    have hbw3 := hbw2.trans (hb3.mono hbw2.size)
    have hz3 := (hb3.block w.heap.size (by have := hbw2.size; have := (Array.getElem?_eq_some_iff.1 hz2).1; omega)).trans hz2
    rw [← hDe]
    rw [show pI (s.take (sp s)) = psN s from rfl]
    have hc0 := cell_at (i := 0) hz3 rfl
    have hc1 := cell_at (i := 1) hz3 rfl
    generalize hn : psN s = n at hN
    generalize hd : psD s = d at hD
    clear hb1 hb2 hb3 hz1 hz2 hw1 hw2 hbw1 hbw2 hcz hsz
    go_wp2_with fail
    have hb4 := al_below W3 (.cells #[iv n, iv d] 23)
    have hw4 := hw3.below hb4 hw3.1.size
    refine Calls.mono (pText_any n d hN hD _ hw4) ?_
    rintro e W4 ⟨rfl, hb5⟩
    have hz4 := (hb5.block W3.heap.size (by rw [al_size]; omega)).trans (al_at W3 #[iv n, iv d] 23)
    have hlt := (Array.getElem?_eq_some_iff.1 hz3).1
    have hbw4 := hbw3.trans ((hb4.trans (hb5.mono (by rw [al_size]; omega))).mono hbw3.size)
    have hz5 := (hb5.block w.heap.size (by rw [al_size]; omega)).trans ((hb4.block _ hlt).trans hz3)
    clear hb5 hb4 hc0 hc1
    have hc0 := cell_at (i := 0) hz4 rfl
    have hc1 := cell_at (i := 1) hz4 rfl
    have hc2 := cell_at (i := 0) hz5 rfl
    have hc3 := cell_at (i := 1) hz5 rfl
    have hf0 : W4.frozen? ⟨w.heap.size, 0, none⟩ = false := by simp [World.frozen?, hz5]
    have hf1 : W4.frozen? ⟨w.heap.size, 1, none⟩ = false := by simp [World.frozen?, hz5]
    have hend : ∀ a b : Int, ((W4.setCell ⟨w.heap.size, 0, none⟩ (iv a)).setCell ⟨w.heap.size, 1, none⟩ (iv b)).heap[w.heap.size]? = some (.cells #[iv a, iv b] 23 (0, 0)) := fun a b => by simp [World.setCell, Array.getElem?_modify, hz5]
    have hE0 := fun a b => cell_at (i := 0) (hend a b) rfl
    have hE1 := fun a b => cell_at (i := 1) (hend a b) rfl
    have hbe : ∀ a b : Int, Below w.heap.size w ((W4.setCell ⟨w.heap.size, 0, none⟩ (iv a)).setCell ⟨w.heap.size, 1, none⟩ (iv b)) := fun a b => (hbw4.setCell (Nat.le_refl _) _).setCell (Nat.le_refl _) _
    simp only [List.getElem_toArray, List.getElem_cons_zero, List.getElem_cons_succ] at hc0 hc1 hc2 hc3 hE0 hE1
    clear hend hz5 hz4
    have hok : okT s = (validF n d && decide (txt n d = s)) := by unfold okT; rw [hn, hd]
    have hpv : parseV s = cond (validF n d && decide (txt n d = s)) (.tuple #[frV n d, iv 0]) (.tuple #[frV 0 0, iv 2]) := by unfold parseV; rw [hok, hn, hd]
    clear hok
    unfold textV
    cases hv : validF n d
    · have hpv' : parseV s = .tuple #[frV 0 0, iv 2] := by rw [hpv, hv]; rfl
      simp only [cond_false]
      go_wp2_with fail
      simp [bodyPost, results, Tryd.results35, go_sem, hpv', hE0, hE1]
      exact hbe 0 0
    · by_cases ht : txt n d = s
      · have hpv' : parseV s = .tuple #[frV n d, iv 0] := by rw [hpv, hv, decide_eq_true ht]; rfl
        simp only [cond_true, ht]
        go_wp2_with fail
        simp [bodyPost, results, Tryd.results35, go_sem, hpv', hE0, hE1]
        exact hbe n d
      · have hpv' : parseV s = .tuple #[frV 0 0, iv 2] := by rw [hpv, hv, decide_eq_false ht]; rfl
        have htb : (txt n d == s) = false := by rw [beq_eq_false_iff_ne]; exact ht
        simp only [cond_true]
        go_wp2_with fail
        simp [bodyPost, results, Tryd.results35, go_sem, hpv', hE0, hE1]
        exact hbe 0 0
  · simp only [hp, if_false, decide_false]
    have hDe : psD s = pI [49] := by unfold psD; rw [if_neg hp]; exact pI_one.symm
    go_wp2_with fail
    refine Calls.mono (pint_any (s.take (sp s)) (by rw [List.length_take]; omega) _ hw1) ?_
    rintro e W2 ⟨⟨E1, rfl⟩, hb2⟩
    have hw2 := hw1.below hb2 hw1.1.size
    have hbw2 := hbw1.trans (hb2.mono hbw1.size)
    have hz2 := (hb2.block w.heap.size (by have := hbw1.size; have := (Array.getElem?_eq_some_iff.1 hz1).1; omega)).trans hz1
    go_wp2_with fail
    refine Calls.mono (pint_any [49] (by decide) _ hw2) ?_
    rintro e W3 ⟨⟨E2, rfl⟩, hb3⟩
    have hw3 := hw2.below hb3 hw2.1.size
    have hbw3 := hbw2.trans (hb3.mono hbw2.size)
    have hz3 := (hb3.block w.heap.size (by have := hbw2.size; have := (Array.getElem?_eq_some_iff.1 hz2).1; omega)).trans hz2
    rw [← hDe]
    rw [show pI (s.take (sp s)) = psN s from rfl]
    have hc0 := cell_at (i := 0) hz3 rfl
    have hc1 := cell_at (i := 1) hz3 rfl
    generalize hn : psN s = n at hN
    generalize hd : psD s = d at hD
    clear hb1 hb2 hb3 hz1 hz2 hw1 hw2 hbw1 hbw2 hcz hsz
    go_wp2_with fail
    have hb4 := al_below W3 (.cells #[iv n, iv d] 23)
    have hw4 := hw3.below hb4 hw3.1.size
    refine Calls.mono (pText_any n d hN hD _ hw4) ?_
    rintro e W4 ⟨rfl, hb5⟩
    have hz4 := (hb5.block W3.heap.size (by rw [al_size]; omega)).trans (al_at W3 #[iv n, iv d] 23)
    have hlt := (Array.getElem?_eq_some_iff.1 hz3).1
    have hbw4 := hbw3.trans ((hb4.trans (hb5.mono (by rw [al_size]; omega))).mono hbw3.size)
    have hz5 := (hb5.block w.heap.size (by rw [al_size]; omega)).trans ((hb4.block _ hlt).trans hz3)
    clear hb5 hb4 hc0 hc1
    have hc0 := cell_at (i := 0) hz4 rfl
    have hc1 := cell_at (i := 1) hz4 rfl
    have hc2 := cell_at (i := 0) hz5 rfl
    have hc3 := cell_at (i := 1) hz5 rfl
    have hf0 : W4.frozen? ⟨w.heap.size, 0, none⟩ = false := by simp [World.frozen?, hz5]
    have hf1 : W4.frozen? ⟨w.heap.size, 1, none⟩ = false := by simp [World.frozen?, hz5]
    have hend : ∀ a b : Int, ((W4.setCell ⟨w.heap.size, 0, none⟩ (iv a)).setCell ⟨w.heap.size, 1, none⟩ (iv b)).heap[w.heap.size]? = some (.cells #[iv a, iv b] 23 (0, 0)) := fun a b => by simp [World.setCell, Array.getElem?_modify, hz5]
    have hE0 := fun a b => cell_at (i := 0) (hend a b) rfl
    have hE1 := fun a b => cell_at (i := 1) (hend a b) rfl
    have hbe : ∀ a b : Int, Below w.heap.size w ((W4.setCell ⟨w.heap.size, 0, none⟩ (iv a)).setCell ⟨w.heap.size, 1, none⟩ (iv b)) := fun a b => (hbw4.setCell (Nat.le_refl _) _).setCell (Nat.le_refl _) _
    simp only [List.getElem_toArray, List.getElem_cons_zero, List.getElem_cons_succ] at hc0 hc1 hc2 hc3 hE0 hE1
    clear hend hz5 hz4
    have hok : okT s = (validF n d && decide (txt n d = s)) := by unfold okT; rw [hn, hd]
    have hpv : parseV s = cond (validF n d && decide (txt n d = s)) (.tuple #[frV n d, iv 0]) (.tuple #[frV 0 0, iv 2]) := by unfold parseV; rw [hok, hn, hd]
    clear hok
    unfold textV
    cases hv : validF n d
    · have hpv' : parseV s = .tuple #[frV 0 0, iv 2] := by rw [hpv, hv]; rfl
      simp only [cond_false]
      go_wp2_with fail
      simp [bodyPost, results, Tryd.results35, go_sem, hpv', hE0, hE1]
      exact hbe 0 0
    · by_cases ht : txt n d = s
      · have hpv' : parseV s = .tuple #[frV n d, iv 0] := by rw [hpv, hv, decide_eq_true ht]; rfl
        simp only [cond_true, ht]
        go_wp2_with fail
        simp [bodyPost, results, Tryd.results35, go_sem, hpv', hE0, hE1]
        exact hbe n d
      · have hpv' : parseV s = .tuple #[frV 0 0, iv 2] := by rw [hpv, hv, decide_eq_false ht]; rfl
        have htb : (txt n d == s) = false := by rw [beq_eq_false_iff_ne]; exact ht
        simp only [cond_true]
        go_wp2_with fail
        simp [bodyPost, results, Tryd.results35, go_sem, hpv', hE0, hE1]
        exact hbe 0 0
end Go.Proofs.YtdjnnbjpaohaiaaDoor
