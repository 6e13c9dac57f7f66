/- Layer 9 (lexer): numbers of the program. -/
import Derived.Test.YtcbphahdodjbiaaDoorLyD
namespace Go.Proofs.YtcbphahdodjbiaaDoor
open Go.RowKit Go.Ev
set_option maxRecDepth 100000

theorem sg_le (l : List UInt8) : sg l ≤ l.length ∧ sg l ≤ 1 := by
  unfold sg
  split
  · split <;> simp
  · simp
set_option maxHeartbeats 2000000 in
theorem number_any (l : List UInt8) (hl : l.length ≤ 1000) (w : World) (hw : LxW w) : Calls Tryd.prog 23 #[strV l] w fun e w' => e = .returned (ftV (numF l)) ∧ Below w.heap.size w w' := by
  obtain ⟨hg1, hg2⟩ := sg_le l
  have hn := rn_le pDg (l.drop (sg l))
  have hdl : (l.drop (sg l)).length + sg l = l.length := by rw [List.length_drop]; omega
  have HF : Hid (numF l = if wellF ((l.drop (sg l)).take (rn pDg (l.drop (sg l)))) (decide (0 < sg l)) = false ∨ (∃ c, (l.drop (sg l))[rn pDg (l.drop (sg l))]? = some c ∧ pWd c.toNat = true) then ⟨0, [], 0, 0, 2⟩
    else if pE (l.take (sg l + rn pDg (l.drop (sg l)))) = true ∨ pI (l.take (sg l + rn pDg (l.drop (sg l)))) < -1000000000000000 ∨ 1000000000000000 < pI (l.take (sg l + rn pDg (l.drop (sg l)))) then ⟨0, [], 0, 0, 6⟩
    else ⟨2, [], pI (l.take (sg l + rn pDg (l.drop (sg l)))), sg l + rn pDg (l.drop (sg l)), 0⟩) := rfl
  have HT := Lib.hid (trim_any l)
  generalize sg l = g at hg1 hg2 hn hdl HF HT
  have HN := Lib.hid (runDg (l.drop g) (by omega))
  generalize hds : l.drop g = ds at hn hdl HF HT HN
  generalize rn pDg ds = n at hn HF HN
  clear hds
  have hhi : ∀ i : Nat, (⟨l.toArray⟩ : ByteArray).extract 0 i = ⟨(l.take i).toArray⟩ := fun i => str_hi l i
  have hhd : ∀ i : Nat, (⟨ds.toArray⟩ : ByteArray).extract 0 i = ⟨(ds.take i).toArray⟩ := fun i => str_hi ds i
  have hsub : IntKind.i64.wrap ((l.length : Int) - ds.length) = (g : Int) := by rw [IntKind.wrap_i64]; omega
  have hadd : IntKind.i64.wrap ((g : Int) + n) = (g : Int) + n := by rw [IntKind.wrap_i64]; omega
  have hn' : (n : Int) ≤ ds.length := by omega
  have hgn : (g : Int) + n ≤ l.length := by omega
  have hgn0 : (0 : Int) ≤ (g : Int) + n := by omega
  have hto : ((g : Int) + n).toNat = g + n := by omega
  have hb0 := al_below w (.cells #[iv 0, strV [], iv 0, iv 0] 23)
  have hcz := al_at w #[iv 0, strV [], iv 0, iv 0] 23
  have hw0 := hw.below hb0 hw.1
  go_enter Tryd.func23, Tryd.ntmps23
  go_wp2_with fail
  refine Calls.mono (HT.out _) ?_
  rintro e W0 ⟨rfl, rfl⟩
  go_wp2_with fail
  refine Calls.mono (HN.out _) ?_
  rintro e W1 ⟨rfl, hb1⟩
  have hz1 := (hb1.block w.heap.size (by rw [al_size]; omega)).trans hcz
  have hbw1 := hb0.trans (hb1.mono (by rw [al_size]; omega))
  have hw1 := hw0.below hb1 hw0.1
  clear hb1 hcz
  go_wp2_with fail
  refine Calls.mono (well_any (ds.take n) (by rw [List.length_take]; omega) (decide (0 < g)) _) ?_
  rintro e W2 ⟨rfl, hb2⟩
  have hz2 := (hb2.block w.heap.size (Array.getElem?_eq_some_iff.1 hz1).1).trans hz1
  have hbw2 := hbw1.trans (hb2.mono hbw1.size)
  have hw2 := hw1.below hb2 hw1.1
  clear hb2 hz1
  cases hwl : wellF (ds.take n) (decide (0 < g))
  · have hr : ftV (numF l) = .tuple #[tokV 0 [] 0 0, iv 0, iv 2] := by rw [HF.out, if_pos (.inl hwl)]; rfl
    clear hwl
    have hc0 := cell_at (i := 0) hz2 rfl
    have hc1 := cell_at (i := 1) hz2 rfl
    have hc2 := cell_at (i := 2) hz2 rfl
    have hc3 := cell_at (i := 3) hz2 rfl
    obtain ⟨hf0, hf1, hf2, hf3⟩ := four_frozen hz2
    have hE0 := fun u0 u1 u2 u3 => cell_at (i := 0) (four_cells hz2 u0 u1 u2 u3) rfl
    have hE1 := fun u0 u1 u2 u3 => cell_at (i := 1) (four_cells hz2 u0 u1 u2 u3) rfl
    have hE2 := fun u0 u1 u2 u3 => cell_at (i := 2) (four_cells hz2 u0 u1 u2 u3) rfl
    have hE3 := fun u0 u1 u2 u3 => cell_at (i := 3) (four_cells hz2 u0 u1 u2 u3) rfl
    have hbe := fun u0 u1 u2 u3 => four_below hbw2 (Nat.le_refl _) u0 u1 u2 u3
    simp only [List.getElem_toArray, List.getElem_cons_zero, List.getElem_cons_succ] at hc0 hc1 hc2 hc3 hE0 hE1 hE2 hE3
    clear hz2
    go_wp2_with fail
    simp [bodyPost, results, Tryd.results23, go_sem, hr, hE0, hE1, hE2, hE3]
    exact hbe _ _ _ _
  · have HWL := Lib.hid hwl
    clear hwl
    by_cases hnd : n < ds.length
    · have hnd' : (n : Int) < ds.length := by omega
      have hix : (⟨ds.toArray⟩ : ByteArray)[n]'(by rw [str_size]; exact hnd) = ds[n]'hnd := rfl
      have HC : Hid (ds[n]? = some (ds[n]'hnd)) := Lib.hid (List.getElem?_eq_getElem hnd)
      generalize ds[n]'hnd = c at hix HC
      go_wp2_with fail
      refine Calls.mono (byte_calls mixed tWdP c _) ?_
      rintro e W3 ⟨rfl, hb3⟩
      have hz3 := (hb3.block w.heap.size (Array.getElem?_eq_some_iff.1 hz2).1).trans hz2
      have hbw3 := hbw2.trans (hb3.mono hbw2.size)
      have hw3 := hw2.below hb3 hw2.1
      clear hb3 hz2
      cases hpw : pWd c.toNat
      · have HB : Hid (¬ (wellF (ds.take n) (decide (0 < g)) = false ∨ ∃ c, ds[n]? = some c ∧ pWd c.toNat = true)) := Lib.hid (by
          rintro (h | ⟨c', h1, h2⟩)
          · rw [HWL.out] at h; cases h
          · rw [HC.out] at h1; cases h1; rw [hpw] at h2; cases h2)
        have hwP := hw3
        have hbwP := hbw3
        have hzP := hz3
        clear hpw hw3 hbw3 hz3
        go_wp2_with fail
        refine Calls.mono (pint_any (l.take (g + n)) (by rw [List.length_take]; omega) _ hwP) ?_
        rintro e W4 ⟨⟨E, hE, rfl⟩, hb4⟩
        have hz4 := (hb4.block w.heap.size (Array.getElem?_eq_some_iff.1 hzP).1).trans hzP
        have hbw4 := hbwP.trans (hb4.mono hbwP.size)
        clear hb4 hzP
        cases hpe : pE (l.take (g + n))
        · have hE : E = .nilIface := by rw [hpe] at hE; exact hE
          subst hE
          have HP := Lib.hid hpe
          clear hpe
          by_cases hlo : pI (l.take (g + n)) < -1000000000000000
          · have hr : ftV (numF l) = .tuple #[tokV 0 [] 0 0, iv 0, iv 6] := by rw [HF.out, if_neg HB.out, if_pos (.inr (.inl hlo))]; rfl
            have hc0 := cell_at (i := 0) hz4 rfl
            have hc1 := cell_at (i := 1) hz4 rfl
            have hc2 := cell_at (i := 2) hz4 rfl
            have hc3 := cell_at (i := 3) hz4 rfl
            obtain ⟨hf0, hf1, hf2, hf3⟩ := four_frozen hz4
            have hE0 := fun u0 u1 u2 u3 => cell_at (i := 0) (four_cells hz4 u0 u1 u2 u3) rfl
            have hE1 := fun u0 u1 u2 u3 => cell_at (i := 1) (four_cells hz4 u0 u1 u2 u3) rfl
            have hE2 := fun u0 u1 u2 u3 => cell_at (i := 2) (four_cells hz4 u0 u1 u2 u3) rfl
            have hE3 := fun u0 u1 u2 u3 => cell_at (i := 3) (four_cells hz4 u0 u1 u2 u3) rfl
            have hbe := fun u0 u1 u2 u3 => four_below hbw4 (Nat.le_refl _) u0 u1 u2 u3
            simp only [List.getElem_toArray, List.getElem_cons_zero, List.getElem_cons_succ] at hc0 hc1 hc2 hc3 hE0 hE1 hE2 hE3
            clear hz4
            go_wp2_with fail
            simp [bodyPost, results, Tryd.results23, go_sem, hr, hE0, hE1, hE2, hE3]
            exact hbe _ _ _ _
          · by_cases hhi2 : 1000000000000000 < pI (l.take (g + n))
            · have hr : ftV (numF l) = .tuple #[tokV 0 [] 0 0, iv 0, iv 6] := by rw [HF.out, if_neg HB.out, if_pos (.inr (.inr hhi2))]; rfl
              have hc0 := cell_at (i := 0) hz4 rfl
              have hc1 := cell_at (i := 1) hz4 rfl
              have hc2 := cell_at (i := 2) hz4 rfl
              have hc3 := cell_at (i := 3) hz4 rfl
              obtain ⟨hf0, hf1, hf2, hf3⟩ := four_frozen hz4
              have hE0 := fun u0 u1 u2 u3 => cell_at (i := 0) (four_cells hz4 u0 u1 u2 u3) rfl
              have hE1 := fun u0 u1 u2 u3 => cell_at (i := 1) (four_cells hz4 u0 u1 u2 u3) rfl
              have hE2 := fun u0 u1 u2 u3 => cell_at (i := 2) (four_cells hz4 u0 u1 u2 u3) rfl
              have hE3 := fun u0 u1 u2 u3 => cell_at (i := 3) (four_cells hz4 u0 u1 u2 u3) rfl
              have hbe := fun u0 u1 u2 u3 => four_below hbw4 (Nat.le_refl _) u0 u1 u2 u3
              simp only [List.getElem_toArray, List.getElem_cons_zero, List.getElem_cons_succ] at hc0 hc1 hc2 hc3 hE0 hE1 hE2 hE3
              clear hz4
              go_wp2_with fail
              simp [bodyPost, results, Tryd.results23, go_sem, hr, hE0, hE1, hE2, hE3]
              exact hbe _ _ _ _
            · have hr : ftV (numF l) = .tuple #[tokV 2 [] (pI (l.take (g + n))) 0, iv ((g + n : Nat)), iv 0] := by rw [HF.out, if_neg HB.out, if_neg (fun h => h.elim (fun h => by rw [HP.out] at h; cases h) (fun h => by omega))]; rfl
              have hc0 := cell_at (i := 0) hz4 rfl
              have hc1 := cell_at (i := 1) hz4 rfl
              have hc2 := cell_at (i := 2) hz4 rfl
              have hc3 := cell_at (i := 3) hz4 rfl
              obtain ⟨hf0, hf1, hf2, hf3⟩ := four_frozen hz4
              have hE0 := fun u0 u1 u2 u3 => cell_at (i := 0) (four_cells hz4 u0 u1 u2 u3) rfl
              have hE1 := fun u0 u1 u2 u3 => cell_at (i := 1) (four_cells hz4 u0 u1 u2 u3) rfl
              have hE2 := fun u0 u1 u2 u3 => cell_at (i := 2) (four_cells hz4 u0 u1 u2 u3) rfl
              have hE3 := fun u0 u1 u2 u3 => cell_at (i := 3) (four_cells hz4 u0 u1 u2 u3) rfl
              have hbe := fun u0 u1 u2 u3 => four_below hbw4 (Nat.le_refl _) u0 u1 u2 u3
              simp only [List.getElem_toArray, List.getElem_cons_zero, List.getElem_cons_succ] at hc0 hc1 hc2 hc3 hE0 hE1 hE2 hE3
              clear hz4
              go_wp2_with fail
              simp [bodyPost, results, Tryd.results23, go_sem, hr, hE0, hE1, hE2, hE3]
              exact hbe _ _ _ _
        · have hE : ∃ t a, E = .iface t (.pointer (some a)) := by rw [hpe] at hE; exact hE
          obtain ⟨t, a, rfl⟩ := hE
          have hr : ftV (numF l) = .tuple #[tokV 0 [] 0 0, iv 0, iv 6] := by rw [HF.out, if_neg HB.out, if_pos (.inl hpe)]; rfl
          clear hpe
          have hc0 := cell_at (i := 0) hz4 rfl
          have hc1 := cell_at (i := 1) hz4 rfl
          have hc2 := cell_at (i := 2) hz4 rfl
          have hc3 := cell_at (i := 3) hz4 rfl
          obtain ⟨hf0, hf1, hf2, hf3⟩ := four_frozen hz4
          have hE0 := fun u0 u1 u2 u3 => cell_at (i := 0) (four_cells hz4 u0 u1 u2 u3) rfl
          have hE1 := fun u0 u1 u2 u3 => cell_at (i := 1) (four_cells hz4 u0 u1 u2 u3) rfl
          have hE2 := fun u0 u1 u2 u3 => cell_at (i := 2) (four_cells hz4 u0 u1 u2 u3) rfl
          have hE3 := fun u0 u1 u2 u3 => cell_at (i := 3) (four_cells hz4 u0 u1 u2 u3) rfl
          have hbe := fun u0 u1 u2 u3 => four_below hbw4 (Nat.le_refl _) u0 u1 u2 u3
          simp only [List.getElem_toArray, List.getElem_cons_zero, List.getElem_cons_succ] at hc0 hc1 hc2 hc3 hE0 hE1 hE2 hE3
          clear hz4
          go_wp2_with fail
          simp [bodyPost, results, Tryd.results23, go_sem, hr, hE0, hE1, hE2, hE3]
          exact hbe _ _ _ _
      · have hr : ftV (numF l) = .tuple #[tokV 0 [] 0 0, iv 0, iv 2] := by rw [HF.out, if_pos (.inr ⟨c, HC.out, hpw⟩)]; rfl
        clear hpw
        have hc0 := cell_at (i := 0) hz3 rfl
        have hc1 := cell_at (i := 1) hz3 rfl
        have hc2 := cell_at (i := 2) hz3 rfl
        have hc3 := cell_at (i := 3) hz3 rfl
        obtain ⟨hf0, hf1, hf2, hf3⟩ := four_frozen hz3
        have hE0 := fun u0 u1 u2 u3 => cell_at (i := 0) (four_cells hz3 u0 u1 u2 u3) rfl
        have hE1 := fun u0 u1 u2 u3 => cell_at (i := 1) (four_cells hz3 u0 u1 u2 u3) rfl
        have hE2 := fun u0 u1 u2 u3 => cell_at (i := 2) (four_cells hz3 u0 u1 u2 u3) rfl
        have hE3 := fun u0 u1 u2 u3 => cell_at (i := 3) (four_cells hz3 u0 u1 u2 u3) rfl
        have hbe := fun u0 u1 u2 u3 => four_below hbw3 (Nat.le_refl _) u0 u1 u2 u3
        simp only [List.getElem_toArray, List.getElem_cons_zero, List.getElem_cons_succ] at hc0 hc1 hc2 hc3 hE0 hE1 hE2 hE3
        clear hz3
        go_wp2_with fail
        simp [bodyPost, results, Tryd.results23, go_sem, hr, hE0, hE1, hE2, hE3]
        exact hbe _ _ _ _
    · have HB : Hid (¬ (wellF (ds.take n) (decide (0 < g)) = false ∨ ∃ c, ds[n]? = some c ∧ pWd c.toNat = true)) := Lib.hid (by
        rintro (h | ⟨c', h1, h2⟩)
        · rw [HWL.out] at h; cases h
        · rw [List.getElem?_eq_none (by omega)] at h1; cases h1)
      have hnd' : ¬ (n : Int) < ds.length := by omega
      have hwP := hw2
      have hbwP := hbw2
      have hzP := hz2
      clear hw2 hbw2 hz2
      go_wp2_with fail
      refine Calls.mono (pint_any (l.take (g + n)) (by rw [List.length_take]; omega) _ hwP) ?_
      rintro e W4 ⟨⟨E, hE, rfl⟩, hb4⟩
      have hz4 := (hb4.block w.heap.size (Array.getElem?_eq_some_iff.1 hzP).1).trans hzP
      have hbw4 := hbwP.trans (hb4.mono hbwP.size)
      clear hb4 hzP
      cases hpe : pE (l.take (g + n))
      · have hE : E = .nilIface := by rw [hpe] at hE; exact hE
        subst hE
        have HP := Lib.hid hpe
        clear hpe
        by_cases hlo : pI (l.take (g + n)) < -1000000000000000
        · have hr : ftV (numF l) = .tuple #[tokV 0 [] 0 0, iv 0, iv 6] := by rw [HF.out, if_neg HB.out, if_pos (.inr (.inl hlo))]; rfl
          have hc0 := cell_at (i := 0) hz4 rfl
          have hc1 := cell_at (i := 1) hz4 rfl
          have hc2 := cell_at (i := 2) hz4 rfl
          have hc3 := cell_at (i := 3) hz4 rfl
          obtain ⟨hf0, hf1, hf2, hf3⟩ := four_frozen hz4
          have hE0 := fun u0 u1 u2 u3 => cell_at (i := 0) (four_cells hz4 u0 u1 u2 u3) rfl
          have hE1 := fun u0 u1 u2 u3 => cell_at (i := 1) (four_cells hz4 u0 u1 u2 u3) rfl
          have hE2 := fun u0 u1 u2 u3 => cell_at (i := 2) (four_cells hz4 u0 u1 u2 u3) rfl
          have hE3 := fun u0 u1 u2 u3 => cell_at (i := 3) (four_cells hz4 u0 u1 u2 u3) rfl
          have hbe := fun u0 u1 u2 u3 => four_below hbw4 (Nat.le_refl _) u0 u1 u2 u3
          simp only [List.getElem_toArray, List.getElem_cons_zero, List.getElem_cons_succ] at hc0 hc1 hc2 hc3 hE0 hE1 hE2 hE3
          clear hz4
          go_wp2_with fail
          simp [bodyPost, results, Tryd.results23, go_sem, hr, hE0, hE1, hE2, hE3]
          exact hbe _ _ _ _
        · by_cases hhi2 : 1000000000000000 < pI (l.take (g + n))
          · have hr : ftV (numF l) = .tuple #[tokV 0 [] 0 0, iv 0, iv 6] := by rw [HF.out, if_neg HB.out, if_pos (.inr (.inr hhi2))]; rfl
            have hc0 := cell_at (i := 0) hz4 rfl
            have hc1 := cell_at (i := 1) hz4 rfl
            have hc2 := cell_at (i := 2) hz4 rfl
            have hc3 := cell_at (i := 3) hz4 rfl
            obtain ⟨hf0, hf1, hf2, hf3⟩ := four_frozen hz4
            have hE0 := fun u0 u1 u2 u3 => cell_at (i := 0) (four_cells hz4 u0 u1 u2 u3) rfl
            have hE1 := fun u0 u1 u2 u3 => cell_at (i := 1) (four_cells hz4 u0 u1 u2 u3) rfl
            have hE2 := fun u0 u1 u2 u3 => cell_at (i := 2) (four_cells hz4 u0 u1 u2 u3) rfl
            have hE3 := fun u0 u1 u2 u3 => cell_at (i := 3) (four_cells hz4 u0 u1 u2 u3) rfl
            have hbe := fun u0 u1 u2 u3 => four_below hbw4 (Nat.le_refl _) u0 u1 u2 u3
            simp only [List.getElem_toArray, List.getElem_cons_zero, List.getElem_cons_succ] at hc0 hc1 hc2 hc3 hE0 hE1 hE2 hE3
            clear hz4
            go_wp2_with fail
            simp [bodyPost, results, Tryd.results23, go_sem, hr, hE0, hE1, hE2, hE3]
            exact hbe _ _ _ _
          · have hr : ftV (numF l) = .tuple #[tokV 2 [] (pI (l.take (g + n))) 0, iv ((g + n : Nat)), iv 0] := by rw [HF.out, if_neg HB.out, if_neg (fun h => h.elim (fun h => by rw [HP.out] at h; cases h) (fun h => by omega))]; rfl
            have hc0 := cell_at (i := 0) hz4 rfl
            have hc1 := cell_at (i := 1) hz4 rfl
            have hc2 := cell_at (i := 2) hz4 rfl
            have hc3 := cell_at (i := 3) hz4 rfl
            obtain ⟨hf0, hf1, hf2, hf3⟩ := four_frozen hz4
            have hE0 := fun u0 u1 u2 u3 => cell_at (i := 0) (four_cells hz4 u0 u1 u2 u3) rfl
            have hE1 := fun u0 u1 u2 u3 => cell_at (i := 1) (four_cells hz4 u0 u1 u2 u3) rfl
            have hE2 := fun u0 u1 u2 u3 => cell_at (i := 2) (four_cells hz4 u0 u1 u2 u3) rfl
            have hE3 := fun u0 u1 u2 u3 => cell_at (i := 3) (four_cells hz4 u0 u1 u2 u3) rfl
            have hbe := fun u0 u1 u2 u3 => four_below hbw4 (Nat.le_refl _) u0 u1 u2 u3
            simp only [List.getElem_toArray, List.getElem_cons_zero, List.getElem_cons_succ] at hc0 hc1 hc2 hc3 hE0 hE1 hE2 hE3
            clear hz4
            go_wp2_with fail
            simp [bodyPost, results, Tryd.results23, go_sem, hr, hE0, hE1, hE2, hE3]
            exact hbe _ _ _ _
      · have hE : ∃ t a, E = .iface t (.pointer (some a)) := by rw [hpe] at hE; exact hE
        obtain ⟨t, a, rfl⟩ := hE
        have hr : ftV (numF l) = .tuple #[tokV 0 [] 0 0, iv 0, iv 6] := by rw [HF.out, if_neg HB.out, if_pos (.inl hpe)]; rfl
        clear hpe
        have hc0 := cell_at (i := 0) hz4 rfl
        have hc1 := cell_at (i := 1) hz4 rfl
        have hc2 := cell_at (i := 2) hz4 rfl
        have hc3 := cell_at (i := 3) hz4 rfl
        obtain ⟨hf0, hf1, hf2, hf3⟩ := four_frozen hz4
        have hE0 := fun u0 u1 u2 u3 => cell_at (i := 0) (four_cells hz4 u0 u1 u2 u3) rfl
        have hE1 := fun u0 u1 u2 u3 => cell_at (i := 1) (four_cells hz4 u0 u1 u2 u3) rfl
        have hE2 := fun u0 u1 u2 u3 => cell_at (i := 2) (four_cells hz4 u0 u1 u2 u3) rfl
        have hE3 := fun u0 u1 u2 u3 => cell_at (i := 3) (four_cells hz4 u0 u1 u2 u3) rfl
        have hbe := fun u0 u1 u2 u3 => four_below hbw4 (Nat.le_refl _) u0 u1 u2 u3
        simp only [List.getElem_toArray, List.getElem_cons_zero, List.getElem_cons_succ] at hc0 hc1 hc2 hc3 hE0 hE1 hE2 hE3
        clear hz4
        go_wp2_with fail
        simp [bodyPost, results, Tryd.results23, go_sem, hr, hE0, hE1, hE2, hE3]
        exact hbe _ _ _ _
end Go.Proofs.YtcbphahdodjbiaaDoor
