/- Layer 9 (lexer): the beginning of a string, spellings of the program. -/
import Derived.Test.YtcbphahdodjbiaaDoorLyE
namespace Go.Proofs.YtcbphahdodjbiaaDoor
open Go.RowKit Go.Ev
set_option maxRecDepth 100000

def isSg (c : UInt8) : Bool := decide (0 ≤ Lib.indexByte [40, 41, 44, 61, 58, 60, 62, 43, 47] c)
noncomputable def firstF : List UInt8 → FT
  | [] => ⟨0, [], 0, 0, 2⟩
  | c :: r => if pLt c.toNat = true then wordF (c :: r) else if pDg c.toNat = true ∨ c = 45 then numF (c :: r) else if c = 34 then textF (c :: r) else if isSg c = true then ⟨4, [c], 0, 1, 0⟩ else ⟨0, [], 0, 0, 2⟩
theorem index_any (c : UInt8) (w : World) : Calls Tryd.prog 25 #[strV [40, 41, 44, 61, 58, 60, 62, 43, 47], .int .u8 (c.toNat : Int)] w fun e w' => e = .returned (iv (Lib.indexByte [40, 41, 44, 61, 58, 60, 62, 43, 47] c)) ∧ w' = w := by
  refine (Any.strings_IndexByte Tryd.laysIndex ⟨#[40, 41, 44, 61, 58, 60, 62, 43, 47]⟩ (c.toNat : Int) w).mono fun e w' ⟨he, hw⟩ => ⟨?_, hw⟩
  rw [he]
  simp
theorem u8_eq {c d : UInt8} {n : Nat} (hd : d.toNat = n) : (((c.toNat : Int) == (n : Int)) = decide (c = d)) := by
  rw [Bool.eq_iff_iff, beq_iff_eq, decide_eq_true_eq]
  constructor
  · intro h
    exact UInt8.toNat_inj.1 (by omega)
  · rintro rfl
    omega
theorem u8_45 (c : UInt8) : ((c.toNat : Int) == 45) = decide (c = 45) := u8_eq (d := 45) (n := 45) rfl
theorem u8_34 (c : UInt8) : ((c.toNat : Int) == 34) = decide (c = 34) := u8_eq (d := 34) (n := 34) rfl
set_option maxHeartbeats 2000000 in
theorem first_any (c : UInt8) (r : List UInt8) (hl : (c :: r).length ≤ 1000) (w : World) (hw : LxW w) : Calls Tryd.prog 13 #[strV (c :: r)] w fun e w' => e = .returned (ftV (firstF (c :: r))) ∧ Below w.heap.size w w' := by
  have HF : Hid (firstF (c :: r) = if pLt c.toNat = true then wordF (c :: r) else if pDg c.toNat = true ∨ c = 45 then numF (c :: r) else if c = 34 then textF (c :: r) else if isSg c = true then ⟨4, [c], 0, 1, 0⟩ else ⟨0, [], 0, 0, 2⟩) := rfl
  have h0 : (⟨(c :: r).toArray⟩ : ByteArray)[0]'(by rw [str_size]; simp) = c := rfl
  have hp : (0 : Int) < ((c :: r).length : Int) := by rw [List.length_cons]; omega
  have hhi : (⟨(c :: r).toArray⟩ : ByteArray).extract 0 1 = ⟨[c].toArray⟩ := str_hi (c :: r) 1
  have hb0 := al_below w (.cells #[iv 0, strV [], iv 0, iv 0] 23)
  have hcz := al_at w #[iv 0, strV [], iv 0, iv 0] 23
  have hw0 := hw.below hb0 hw.1
  go_enter Tryd.func13, Tryd.ntmps13
  go_wp2_with fail
  refine Calls.mono (byte_calls mixed tLtP c _) ?_
  rintro e W1 ⟨rfl, hb1⟩
  have hz1 := (hb1.block w.heap.size (by rw [al_size]; omega)).trans hcz
  have hbw1 := hb0.trans (hb1.mono (by rw [al_size]; omega))
  have hw1 := hw0.below hb1 hw0.1
  clear hb1 hcz
  cases hlt : pLt c.toNat
  case true =>
    go_wp2_with fail
    refine Calls.mono (word_any (c :: r) hl _) ?_
    rintro e W2 ⟨rfl, hb2⟩
    have hz2 := (hb2.block w.heap.size (Array.getElem?_eq_some_iff.1 hz1).1).trans hz1
    have hbw2 := hbw1.trans (hb2.mono hbw1.size)
    have hw2 := hw1.below hb2 hw1.1
    clear hb2 hz1
    have hr : ftV (firstF (c :: r)) = ftV (wordF (c :: r)) := by rw [HF.out]; rw [if_pos hlt]
    obtain ⟨R, hR⟩ : ∃ R, R = wordF (c :: r) := ⟨_, rfl⟩
    rw [← hR] at hr ⊢
    clear hR
    obtain ⟨k, t, n, len, e0⟩ := R
    have hr : ftV (firstF (c :: r)) = .tuple #[tokV k t n 0, iv len, iv e0] := hr
    simp only [ftV]
    have hc0 := cell_at (i := 0) hz2 rfl
    have hc1 := cell_at (i := 1) hz2 rfl
    have hc2 := cell_at (i := 2) hz2 rfl
    have hc3 := cell_at (i := 3) hz2 rfl
    obtain ⟨hf0, hf1, hf2, hf3⟩ := four_frozen hz2
    have hE0 := fun u0 u1 u2 u3 => cell_at (i := 0) (four_cells hz2 u0 u1 u2 u3) rfl
    have hE1 := fun u0 u1 u2 u3 => cell_at (i := 1) (four_cells hz2 u0 u1 u2 u3) rfl
    have hE2 := fun u0 u1 u2 u3 => cell_at (i := 2) (four_cells hz2 u0 u1 u2 u3) rfl
    have hE3 := fun u0 u1 u2 u3 => cell_at (i := 3) (four_cells hz2 u0 u1 u2 u3) rfl
    have hbe := fun u0 u1 u2 u3 => four_below hbw2 (Nat.le_refl _) u0 u1 u2 u3
    simp only [List.getElem_toArray, List.getElem_cons_zero, List.getElem_cons_succ] at hc0 hc1 hc2 hc3 hE0 hE1 hE2 hE3
    clear hz2
    go_wp2_with fail
    simp [bodyPost, results, Tryd.results13, go_sem, hr, hE0, hE1, hE2, hE3]
    exact hbe _ _ _ _
  have HL := Lib.hid hlt
  clear hlt
  go_wp2_with fail
  refine Calls.mono (byte_calls mixed tDgP c _) ?_
  rintro e W2 ⟨rfl, hb2⟩
  have hz2 := (hb2.block w.heap.size (Array.getElem?_eq_some_iff.1 hz1).1).trans hz1
  have hbw2 := hbw1.trans (hb2.mono hbw1.size)
  have hw2 := hw1.below hb2 hw1.1
  clear hb2 hz1
  cases hdg : pDg c.toNat
  case true =>
    go_wp2_with fail
    refine Calls.mono (number_any (c :: r) hl _ hw2) ?_
    rintro e W3 ⟨rfl, hb3⟩
    have hz3 := (hb3.block w.heap.size (Array.getElem?_eq_some_iff.1 hz2).1).trans hz2
    have hbw3 := hbw2.trans (hb3.mono hbw2.size)
    have hw3 := hw2.below hb3 hw2.1
    clear hb3 hz2
    have hr : ftV (firstF (c :: r)) = ftV (numF (c :: r)) := by rw [HF.out]; rw [if_neg (by rw [HL.out]; decide), if_pos (.inl hdg)]
    obtain ⟨R, hR⟩ : ∃ R, R = numF (c :: r) := ⟨_, rfl⟩
    rw [← hR] at hr ⊢
    clear hR
    obtain ⟨k, t, n, len, e0⟩ := R
    have hr : ftV (firstF (c :: r)) = .tuple #[tokV k t n 0, iv len, iv e0] := hr
    simp only [ftV]
    have hc0 := cell_at (i := 0) hz3 rfl
    have hc1 := cell_at (i := 1) hz3 rfl
    have hc2 := cell_at (i := 2) hz3 rfl
    have hc3 := cell_at (i := 3) hz3 rfl
    obtain ⟨hf0, hf1, hf2, hf3⟩ := four_frozen hz3
    have hE0 := fun u0 u1 u2 u3 => cell_at (i := 0) (four_cells hz3 u0 u1 u2 u3) rfl
    have hE1 := fun u0 u1 u2 u3 => cell_at (i := 1) (four_cells hz3 u0 u1 u2 u3) rfl
    have hE2 := fun u0 u1 u2 u3 => cell_at (i := 2) (four_cells hz3 u0 u1 u2 u3) rfl
    have hE3 := fun u0 u1 u2 u3 => cell_at (i := 3) (four_cells hz3 u0 u1 u2 u3) rfl
    have hbe := fun u0 u1 u2 u3 => four_below hbw3 (Nat.le_refl _) u0 u1 u2 u3
    simp only [List.getElem_toArray, List.getElem_cons_zero, List.getElem_cons_succ] at hc0 hc1 hc2 hc3 hE0 hE1 hE2 hE3
    clear hz3
    go_wp2_with fail
    simp [bodyPost, results, Tryd.results13, go_sem, hr, hE0, hE1, hE2, hE3]
    exact hbe _ _ _ _
  have HD := Lib.hid hdg
  clear hdg
  by_cases h45 : c = 45
  · have hc45 : ((c.toNat : Int) == 45) = true := by rw [u8_45]; exact decide_eq_true h45
    have H45 := Lib.hid h45
    clear h45
    go_wp2_with fail
    refine Calls.mono (number_any (c :: r) hl _ hw2) ?_
    rintro e W3 ⟨rfl, hb3⟩
    have hz3 := (hb3.block w.heap.size (Array.getElem?_eq_some_iff.1 hz2).1).trans hz2
    have hbw3 := hbw2.trans (hb3.mono hbw2.size)
    have hw3 := hw2.below hb3 hw2.1
    clear hb3 hz2
    have hr : ftV (firstF (c :: r)) = ftV (numF (c :: r)) := by rw [HF.out]; rw [if_neg (by rw [HL.out]; decide), if_pos (.inr H45.out)]
    obtain ⟨R, hR⟩ : ∃ R, R = numF (c :: r) := ⟨_, rfl⟩
    rw [← hR] at hr ⊢
    clear hR
    obtain ⟨k, t, n, len, e0⟩ := R
    have hr : ftV (firstF (c :: r)) = .tuple #[tokV k t n 0, iv len, iv e0] := hr
    simp only [ftV]
    have hc0 := cell_at (i := 0) hz3 rfl
    have hc1 := cell_at (i := 1) hz3 rfl
    have hc2 := cell_at (i := 2) hz3 rfl
    have hc3 := cell_at (i := 3) hz3 rfl
    obtain ⟨hf0, hf1, hf2, hf3⟩ := four_frozen hz3
    have hE0 := fun u0 u1 u2 u3 => cell_at (i := 0) (four_cells hz3 u0 u1 u2 u3) rfl
    have hE1 := fun u0 u1 u2 u3 => cell_at (i := 1) (four_cells hz3 u0 u1 u2 u3) rfl
    have hE2 := fun u0 u1 u2 u3 => cell_at (i := 2) (four_cells hz3 u0 u1 u2 u3) rfl
    have hE3 := fun u0 u1 u2 u3 => cell_at (i := 3) (four_cells hz3 u0 u1 u2 u3) rfl
    have hbe := fun u0 u1 u2 u3 => four_below hbw3 (Nat.le_refl _) u0 u1 u2 u3
    simp only [List.getElem_toArray, List.getElem_cons_zero, List.getElem_cons_succ] at hc0 hc1 hc2 hc3 hE0 hE1 hE2 hE3
    clear hz3
    go_wp2_with fail
    simp [bodyPost, results, Tryd.results13, go_sem, hr, hE0, hE1, hE2, hE3]
    exact hbe _ _ _ _
  have hc45 : ((c.toNat : Int) == 45) = false := by rw [u8_45]; exact decide_eq_false h45
  by_cases h34 : c = 34
  · have hc34 : ((c.toNat : Int) == 34) = true := by rw [u8_34]; exact decide_eq_true h34
    have H34 := Lib.hid h34
    clear h34
    go_wp2_with fail
    refine Calls.mono (text_any (c :: r) (by simp) hl _ hw2) ?_
    rintro e W3 ⟨rfl, hb3⟩
    have hz3 := (hb3.block w.heap.size (Array.getElem?_eq_some_iff.1 hz2).1).trans hz2
    have hbw3 := hbw2.trans (hb3.mono hbw2.size)
    have hw3 := hw2.below hb3 hw2.1
    clear hb3 hz2
    have hr : ftV (firstF (c :: r)) = ftV (textF (c :: r)) := by rw [HF.out]; rw [if_neg (by rw [HL.out]; decide), if_neg (by rw [HD.out]; rintro (h | h); cases h; exact h45 h), if_pos H34.out]
    obtain ⟨R, hR⟩ : ∃ R, R = textF (c :: r) := ⟨_, rfl⟩
    rw [← hR] at hr ⊢
    clear hR
    obtain ⟨k, t, n, len, e0⟩ := R
    have hr : ftV (firstF (c :: r)) = .tuple #[tokV k t n 0, iv len, iv e0] := hr
    simp only [ftV]
    have hc0 := cell_at (i := 0) hz3 rfl
    have hc1 := cell_at (i := 1) hz3 rfl
    have hc2 := cell_at (i := 2) hz3 rfl
    have hc3 := cell_at (i := 3) hz3 rfl
    obtain ⟨hf0, hf1, hf2, hf3⟩ := four_frozen hz3
    have hE0 := fun u0 u1 u2 u3 => cell_at (i := 0) (four_cells hz3 u0 u1 u2 u3) rfl
    have hE1 := fun u0 u1 u2 u3 => cell_at (i := 1) (four_cells hz3 u0 u1 u2 u3) rfl
    have hE2 := fun u0 u1 u2 u3 => cell_at (i := 2) (four_cells hz3 u0 u1 u2 u3) rfl
    have hE3 := fun u0 u1 u2 u3 => cell_at (i := 3) (four_cells hz3 u0 u1 u2 u3) rfl
    have hbe := fun u0 u1 u2 u3 => four_below hbw3 (Nat.le_refl _) u0 u1 u2 u3
    simp only [List.getElem_toArray, List.getElem_cons_zero, List.getElem_cons_succ] at hc0 hc1 hc2 hc3 hE0 hE1 hE2 hE3
    clear hz3
    go_wp2_with fail
    simp [bodyPost, results, Tryd.results13, go_sem, hr, hE0, hE1, hE2, hE3]
    exact hbe _ _ _ _
  have hc34 : ((c.toNat : Int) == 34) = false := by rw [u8_34]; exact decide_eq_false h34
  go_wp2_with fail
  refine Calls.mono (index_any c _) ?_
  rintro e W3 ⟨rfl, rfl⟩
  by_cases hsg : 0 ≤ Lib.indexByte [40, 41, 44, 61, 58, 60, 62, 43, 47] c
  · have hr : ftV (firstF (c :: r)) = .tuple #[tokV 4 [c] 0 0, iv 1, iv 0] := by rw [HF.out, if_neg (by rw [HL.out]; decide), if_neg (by rw [HD.out]; rintro (h | h); cases h; exact h45 h), if_neg h34, if_pos (show isSg c = true from decide_eq_true hsg)]; rfl
    go_wp2_with fail
    refine Calls.mono (clone_any [c] (by simp) _) ?_
    rintro e W3 ⟨rfl, hb3⟩
    have hz3 := (hb3.block w.heap.size (Array.getElem?_eq_some_iff.1 hz2).1).trans hz2
    have hbw3 := hbw2.trans (hb3.mono hbw2.size)
    have hw3 := hw2.below hb3 hw2.1
    clear hb3 hz2
    have hc0 := cell_at (i := 0) hz3 rfl
    have hc1 := cell_at (i := 1) hz3 rfl
    have hc2 := cell_at (i := 2) hz3 rfl
    have hc3 := cell_at (i := 3) hz3 rfl
    obtain ⟨hf0, hf1, hf2, hf3⟩ := four_frozen hz3
    have hE0 := fun u0 u1 u2 u3 => cell_at (i := 0) (four_cells hz3 u0 u1 u2 u3) rfl
    have hE1 := fun u0 u1 u2 u3 => cell_at (i := 1) (four_cells hz3 u0 u1 u2 u3) rfl
    have hE2 := fun u0 u1 u2 u3 => cell_at (i := 2) (four_cells hz3 u0 u1 u2 u3) rfl
    have hE3 := fun u0 u1 u2 u3 => cell_at (i := 3) (four_cells hz3 u0 u1 u2 u3) rfl
    have hbe := fun u0 u1 u2 u3 => four_below hbw3 (Nat.le_refl _) u0 u1 u2 u3
    simp only [List.getElem_toArray, List.getElem_cons_zero, List.getElem_cons_succ] at hc0 hc1 hc2 hc3 hE0 hE1 hE2 hE3
    clear hz3
    go_wp2_with fail
    simp [bodyPost, results, Tryd.results13, go_sem, hr, hE0, hE1, hE2, hE3]
    exact hbe _ _ _ _
  · have hr : ftV (firstF (c :: r)) = .tuple #[tokV 0 [] 0 0, iv 0, iv 2] := by rw [HF.out, if_neg (by rw [HL.out]; decide), if_neg (by rw [HD.out]; rintro (h | h); cases h; exact h45 h), if_neg h34, if_neg (show ¬ isSg c = true from by unfold isSg; rw [decide_eq_true_eq]; exact hsg)]; rfl
    have hc0 := cell_at (i := 0) hz2 rfl
    have hc1 := cell_at (i := 1) hz2 rfl
    have hc2 := cell_at (i := 2) hz2 rfl
    have hc3 := cell_at (i := 3) hz2 rfl
    obtain ⟨hf0, hf1, hf2, hf3⟩ := four_frozen hz2
    have hE0 := fun u0 u1 u2 u3 => cell_at (i := 0) (four_cells hz2 u0 u1 u2 u3) rfl
    have hE1 := fun u0 u1 u2 u3 => cell_at (i := 1) (four_cells hz2 u0 u1 u2 u3) rfl
    have hE2 := fun u0 u1 u2 u3 => cell_at (i := 2) (four_cells hz2 u0 u1 u2 u3) rfl
    have hE3 := fun u0 u1 u2 u3 => cell_at (i := 3) (four_cells hz2 u0 u1 u2 u3) rfl
    have hbe := fun u0 u1 u2 u3 => four_below hbw2 (Nat.le_refl _) u0 u1 u2 u3
    simp only [List.getElem_toArray, List.getElem_cons_zero, List.getElem_cons_succ] at hc0 hc1 hc2 hc3 hE0 hE1 hE2 hE3
    clear hz2
    go_wp2_with fail
    simp [bodyPost, results, Tryd.results13, go_sem, hr, hE0, hE1, hE2, hE3]
    exact hbe _ _ _ _
end Go.Proofs.YtcbphahdodjbiaaDoor
