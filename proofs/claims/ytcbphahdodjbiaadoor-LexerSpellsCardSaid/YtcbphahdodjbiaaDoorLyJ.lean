/- Layer 9 (lexer): words and signs of the reference. -/
import Derived.Test.YtcbphahdodjbiaaDoorLyI
namespace Go.Proofs.YtcbphahdodjbiaaDoor
open Go.RowKit Go.Ev
set_option maxRecDepth 100000

/-- A reading of the reference (column 1). -/
def rtV (r : FT) : Value := .tuple #[tokV r.k r.t r.n 1, iv r.len, iv r.e]
def rWordF (l : List UInt8) : FT := ⟨1, l.take (rn pWd l), 0, rn pWd l, if 40 < rn pWd l then 4 else 0⟩
set_option maxHeartbeats 2000000 in
theorem rWord_any (c : UInt8) (r : List UInt8) (hl : (c :: r).length ≤ 1000) (hlt : pLt c.toNat = true) (w : World) : Calls Tryd.prog 14 #[strV (c :: r), iv 0] w fun e w' => e = .returned (rtV (rWordF (c :: r))) ∧ Below w.heap.size w w' := by
  have HF : Hid (rWordF (c :: r) = ⟨1, (c :: r).take (rn pWd (c :: r)), 0, rn pWd (c :: r), if 40 < rn pWd (c :: r) then 4 else 0⟩) := rfl
  have hn := rn_le pWd (c :: r)
  have h0 : (⟨(c :: r).toArray⟩ : ByteArray)[0]'(by rw [str_size]; simp) = c := rfl
  have hp : (0 : Int) < ((c :: r).length : Int) := by rw [List.length_cons]; omega
  have hhi : ∀ i : Nat, (⟨(c :: r).toArray⟩ : ByteArray).extract 0 i = ⟨((c :: r).take i).toArray⟩ := fun i => str_hi (c :: r) i
  have HR : Hid (∀ w, Calls Tryd.prog 27 #[strV (c :: r), iv 0, .bool true] w fun e w' => e = .returned (iv (rn pWd (c :: r))) ∧ Below w.heap.size w w') := Lib.hid (fun w => by
    have := rRun_any (c :: r) 0 true (Nat.zero_le _) hl w
    simpa using this)
  have HL : Hid (∀ w, Calls Tryd.prog 26 #[.int .u8 (c.toNat : Int)] w fun e w' => e = .returned (.bool true) ∧ Below w.heap.size w w') := Lib.hid (fun w => by
    have := byte_calls mixed tLt c w
    rw [hlt] at this
    exact this)
  clear hlt
  generalize rn pWd (c :: r) = n at HF hn HR
  have hn' : (n : Int) ≤ ((c :: r).length : Int) := by omega
  have hbb0 := al_below w (.cells #[iv 0, strV [], iv 0, iv 0] 23)
  have hcz0 := al_at w #[iv 0, strV [], iv 0, iv 0] 23
  have hs0 := al_size w (.cells #[iv 0, strV [], iv 0, iv 0] 23)
  generalize hw0e : w.alloc (.cells #[iv 0, strV [], iv 0, iv 0] 23) = w0 at hbb0 hcz0 hs0
  have hbb1 := hbb0.trans ((al_below w0 (.cells #[iv 0, strV [], iv 0, iv 1] 23)).mono hbb0.size)
  have hcz1 := al_at w0 #[iv 0, strV [], iv 0, iv 1] 23
  have hcy1 := (Below.heap_alloc w0 (.cells #[iv 0, strV [], iv 0, iv 1] 23) w.heap.size (by omega)).trans hcz0
  have hs1 := al_size w0 (.cells #[iv 0, strV [], iv 0, iv 1] 23)
  rw [hs0] at hcz1
  subst hw0e
  go_enter Tryd.func14, Tryd.ntmps14
  go_wp2_with fail
  refine Calls.mono (HL.out _) ?_
  rintro e W1 ⟨rfl, hb1⟩
  have hz1 := (hb1.block (w.heap.size + 1) (by rw [hs1, hs0]; omega)).trans hcz1
  have hy1 := (hb1.block w.heap.size (by rw [hs1, hs0]; omega)).trans hcy1
  have hbw1 := hbb1.trans (hb1.mono hbb1.size)
  clear hb1 hcz1 hcy1
  go_wp2_with fail
  refine Calls.mono (HR.out _) ?_
  rintro e W2 ⟨rfl, hb2⟩
  have hz2 := (hb2.block (w.heap.size + 1) (Array.getElem?_eq_some_iff.1 hz1).1).trans hz1
  have hy2 := (hb2.block w.heap.size (Array.getElem?_eq_some_iff.1 hy1).1).trans hy1
  have hbw2 := hbw1.trans (hb2.mono hbw1.size)
  clear hb2 hz1 hy1
  have hc0 := cell_at (i := 0) hz2 rfl
  have hc1 := cell_at (i := 1) hz2 rfl
  have hc2 := cell_at (i := 2) hz2 rfl
  have hc3 := cell_at (i := 3) hz2 rfl
  have hd0 := cell_at (i := 0) hy2 rfl
  have hd1 := cell_at (i := 1) hy2 rfl
  have hd2 := cell_at (i := 2) hy2 rfl
  have hd3 := cell_at (i := 3) hy2 rfl
  obtain ⟨hf0, hf1, hf2, hf3⟩ := four_frozen hz2
  obtain ⟨hg0, hg1, hg2, hg3⟩ := four_frozen hy2
  simp only [List.getElem_toArray, List.getElem_cons_zero, List.getElem_cons_succ] at hc0 hc1 hc2 hc3 hd0 hd1 hd2 hd3
  have hy3 := (Below.heap_setCell W2 ⟨w.heap.size + 1, 0, none⟩ (iv 1) w.heap.size (by show w.heap.size ≠ w.heap.size + 1; omega)).trans hy2
  have hy4 := (Below.heap_setCell (W2.setCell ⟨w.heap.size + 1, 0, none⟩ (iv 1)) ⟨w.heap.size + 1, 1, none⟩ (strV ((c :: r).take n)) w.heap.size (by show w.heap.size ≠ w.heap.size + 1; omega)).trans hy3
  have hbw4 : Below w.heap.size w ((W2.setCell ⟨w.heap.size + 1, 0, none⟩ (iv 1)).setCell ⟨w.heap.size + 1, 1, none⟩ (strV ((c :: r).take n))) := (hbw2.setCell (by show w.heap.size ≤ w.heap.size + 1; omega) _).setCell (by show w.heap.size ≤ w.heap.size + 1; omega) _
  have hE0 := fun u0 u1 u2 u3 => cell_at (i := 0) (four_cells hy4 u0 u1 u2 u3) rfl
  have hE1 := fun u0 u1 u2 u3 => cell_at (i := 1) (four_cells hy4 u0 u1 u2 u3) rfl
  have hE2 := fun u0 u1 u2 u3 => cell_at (i := 2) (four_cells hy4 u0 u1 u2 u3) rfl
  have hE3 := fun u0 u1 u2 u3 => cell_at (i := 3) (four_cells hy4 u0 u1 u2 u3) rfl
  have hbe := fun u0 u1 u2 u3 => four_below hbw4 (Nat.le_refl _) u0 u1 u2 u3
  simp only [List.getElem_toArray, List.getElem_cons_zero, List.getElem_cons_succ] at hE0 hE1 hE2 hE3
  clear hz2 hy2 hy3 hy4
  by_cases h40 : 40 < n
  · have h40' : (40 : Int) < n := by omega
    have hr : rtV (rWordF (c :: r)) = .tuple #[tokV 1 ((c :: r).take n) 0 1, iv n, iv 4] := by rw [HF.out, if_pos h40]; rfl
    go_wp2_with fail
    simp [bodyPost, results, Tryd.results14, go_sem, hr, hE0, hE1, hE2, hE3]
    exact hbe _ _ _ _
  · have h40' : ¬ (40 : Int) < n := by omega
    have hr : rtV (rWordF (c :: r)) = .tuple #[tokV 1 ((c :: r).take n) 0 1, iv n, iv 0] := by rw [HF.out, if_neg h40]; rfl
    go_wp2_with fail
    simp [bodyPost, results, Tryd.results14, go_sem, hr, hE0, hE1, hE2, hE3]
    exact hbe _ _ _ _
end Go.Proofs.YtcbphahdodjbiaaDoor
