/- Layer 9 (lexer): signs and what is no token of the reference. -/
import Derived.Test.YtcbphahdodjbiaaDoorLyJ
namespace Go.Proofs.YtcbphahdodjbiaaDoor
open Go.RowKit Go.Ev
set_option maxRecDepth 100000

def pSg (n : Nat) : Bool := [40, 41, 44, 61, 58, 60, 62, 43, 47].any (Nat.beq n)
noncomputable def rSignF (c : UInt8) : FT := if pSg c.toNat = true then ⟨4, [c], 0, 1, 0⟩ else ⟨0, [], 0, 1, 2⟩
set_option maxHeartbeats 2000000 in
theorem rSign_any (c : UInt8) (r : List UInt8) (hlt : pLt c.toNat = false) (hdg : pDg c.toNat = false) (h45 : c ≠ 45) (h34 : c ≠ 34) (w : World) : Calls Tryd.prog 14 #[strV (c :: r), iv 0] w fun e w' => e = .returned (rtV (rSignF c)) ∧ Below w.heap.size w w' := by
  have hc45 : ((c.toNat : Int) == 45) = false := by rw [u8_45]; exact decide_eq_false h45
  have hc34 : ((c.toNat : Int) == 34) = false := by rw [u8_34]; exact decide_eq_false h34
  have HS := Lib.hid (fun w => byte_calls mixed tSgR c w)
  have h1l : (⟨(c :: r).toArray⟩ : ByteArray).extract 0 1 = ⟨[c].toArray⟩ := str_hi (c :: r) 1
  have h0 : (⟨(c :: r).toArray⟩ : ByteArray)[0]'(by rw [str_size]; simp) = c := rfl
  have hp : (0 : Int) < ((c :: r).length : Int) := by rw [List.length_cons]; omega
  have hhi : ∀ i : Nat, (⟨(c :: r).toArray⟩ : ByteArray).extract 0 i = ⟨((c :: r).take i).toArray⟩ := fun i => str_hi (c :: r) i
  have HL : Hid (∀ w, Calls Tryd.prog 26 #[.int .u8 (c.toNat : Int)] w fun e w' => e = .returned (.bool false) ∧ Below w.heap.size w w') := Lib.hid (fun w => by
    have := byte_calls mixed tLt c w
    rw [hlt] at this
    exact this)
  have HD := Lib.hid (fun w => byte_calls mixed tDgR c w)
  have hbb0 := al_below w (.cells #[iv 0, strV [], iv 0, iv 0] 23)
  have hcz0 := al_at w #[iv 0, strV [], iv 0, iv 0] 23
  have hs0 := al_size w (.cells #[iv 0, strV [], iv 0, iv 0] 23)
  generalize hw0e : w.alloc (.cells #[iv 0, strV [], iv 0, iv 0] 23) = w0 at hbb0 hcz0 hs0
  have hbb1 := hbb0.trans ((al_below w0 (.cells #[iv 0, strV [], iv 0, iv 1] 23)).mono hbb0.size)
  have hcz1 := al_at w0 #[iv 0, strV [], iv 0, iv 1] 23
  have hcy1 := (Below.heap_alloc w0 (.cells #[iv 0, strV [], iv 0, iv 1] 23) w.heap.size (by omega)).trans hcz0
  have hs1 := al_size w0 (.cells #[iv 0, strV [], iv 0, iv 1] 23)
  rw [hs0] at hcz1
  subst hw0e
  go_enter Tryd.func14, Tryd.ntmps14
  go_wp2_with fail
  refine Calls.mono (HL.out _) ?_
  rintro e W1 ⟨rfl, hb1⟩
  have hz1 := (hb1.block (w.heap.size + 1) (by rw [hs1, hs0]; omega)).trans hcz1
  have hy1 := (hb1.block w.heap.size (by rw [hs1, hs0]; omega)).trans hcy1
  have hbw1 := hbb1.trans (hb1.mono hbb1.size)
  clear hb1 hcz1 hcy1
  go_wp2_with fail
  refine Calls.mono (HD.out _) ?_
  rintro e W2 ⟨rfl, hb2⟩
  have hz2 := (hb2.block (w.heap.size + 1) (Array.getElem?_eq_some_iff.1 hz1).1).trans hz1
  have hy2 := (hb2.block w.heap.size (Array.getElem?_eq_some_iff.1 hy1).1).trans hy1
  have hbw2 := hbw1.trans (hb2.mono hbw1.size)
  clear hb2 hz1 hy1
  rw [hdg]
  clear hdg hlt h45 h34
  go_wp2_with fail
  refine Calls.mono (HS.out _) ?_
  rintro e W3 ⟨rfl, hb3⟩
  have hz3 := (hb3.block (w.heap.size + 1) (Array.getElem?_eq_some_iff.1 hz2).1).trans hz2
  have hy3 := (hb3.block w.heap.size (Array.getElem?_eq_some_iff.1 hy2).1).trans hy2
  have hbw3 := hbw2.trans (hb3.mono hbw2.size)
  clear hb3 hz2 hy2
  have hc0 := cell_at (i := 0) hz3 rfl
  have hc1 := cell_at (i := 1) hz3 rfl
  have hc2 := cell_at (i := 2) hz3 rfl
  have hc3 := cell_at (i := 3) hz3 rfl
  have hd0 := cell_at (i := 0) hy3 rfl
  have hd1 := cell_at (i := 1) hy3 rfl
  have hd2 := cell_at (i := 2) hy3 rfl
  have hd3 := cell_at (i := 3) hy3 rfl
  obtain ⟨hf0, hf1, hf2, hf3⟩ := four_frozen hz3
  obtain ⟨hg0, hg1, hg2, hg3⟩ := four_frozen hy3
  simp only [List.getElem_toArray, List.getElem_cons_zero, List.getElem_cons_succ] at hc0 hc1 hc2 hc3 hd0 hd1 hd2 hd3
  cases hsg : pSg c.toNat
  · have hr : rtV (rSignF c) = .tuple #[tokV 0 [] 0 1, iv 1, iv 2] := by unfold rSignF; rw [hsg]; rfl
    have hsg' : ([40, 41, 44, 61, 58, 60, 62, 43, 47].any (Nat.beq c.toNat)) = false := hsg
    rw [hsg']
    clear hsg hsg'
    have hE0 := fun u0 u1 u2 u3 => cell_at (i := 0) (four_cells hy3 u0 u1 u2 u3) rfl
    have hE1 := fun u0 u1 u2 u3 => cell_at (i := 1) (four_cells hy3 u0 u1 u2 u3) rfl
    have hE2 := fun u0 u1 u2 u3 => cell_at (i := 2) (four_cells hy3 u0 u1 u2 u3) rfl
    have hE3 := fun u0 u1 u2 u3 => cell_at (i := 3) (four_cells hy3 u0 u1 u2 u3) rfl
    have hbe := fun u0 u1 u2 u3 => four_below hbw3 (Nat.le_refl _) u0 u1 u2 u3
    simp only [List.getElem_toArray, List.getElem_cons_zero, List.getElem_cons_succ] at hE0 hE1 hE2 hE3
    clear hz3 hy3
    go_wp2_with fail
    simp [bodyPost, results, Tryd.results14, go_sem, hr, hE0, hE1, hE2, hE3]
    exact hbe _ _ _ _
  · have hr : rtV (rSignF c) = .tuple #[tokV 4 [c] 0 1, iv 1, iv 0] := by unfold rSignF; rw [hsg]; rfl
    have hsg' : ([40, 41, 44, 61, 58, 60, 62, 43, 47].any (Nat.beq c.toNat)) = true := hsg
    rw [hsg']
    clear hsg hsg'
    have hs0y := (Below.heap_setCell (W3) ⟨w.heap.size + 1, 0, none⟩ (iv 4) w.heap.size (by show w.heap.size ≠ w.heap.size + 1; omega)).trans hy3
    have hs0b := Below.setCell hbw3 (p := ⟨w.heap.size + 1, 0, none⟩) (by show w.heap.size ≤ w.heap.size + 1; omega) (iv 4)
    have hs1y := (Below.heap_setCell (World.setCell (W3) ⟨w.heap.size + 1, 0, none⟩ (iv 4)) ⟨w.heap.size + 1, 1, none⟩ (strV [c]) w.heap.size (by show w.heap.size ≠ w.heap.size + 1; omega)).trans hs0y
    have hs1b := Below.setCell hs0b (p := ⟨w.heap.size + 1, 1, none⟩) (by show w.heap.size ≤ w.heap.size + 1; omega) (strV [c])
    have hE0 := fun u0 u1 u2 u3 => cell_at (i := 0) (four_cells hs1y u0 u1 u2 u3) rfl
    have hE1 := fun u0 u1 u2 u3 => cell_at (i := 1) (four_cells hs1y u0 u1 u2 u3) rfl
    have hE2 := fun u0 u1 u2 u3 => cell_at (i := 2) (four_cells hs1y u0 u1 u2 u3) rfl
    have hE3 := fun u0 u1 u2 u3 => cell_at (i := 3) (four_cells hs1y u0 u1 u2 u3) rfl
    have hbe := fun u0 u1 u2 u3 => four_below hs1b (Nat.le_refl _) u0 u1 u2 u3
    simp only [List.getElem_toArray, List.getElem_cons_zero, List.getElem_cons_succ] at hE0 hE1 hE2 hE3
    clear hz3 hy3 hs0y hs1y
    go_wp2_with fail
    simp [bodyPost, results, Tryd.results14, go_sem, hr, hE0, hE1, hE2, hE3]
    exact hbe _ _ _ _
end Go.Proofs.YtcbphahdodjbiaaDoor
