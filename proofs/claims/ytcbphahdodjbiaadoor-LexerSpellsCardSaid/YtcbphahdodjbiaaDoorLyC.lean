/- Layer 9 (lexer): words of the program. -/
import Derived.Test.YtcbphahdodjbiaaDoorLyB
import Derived.Test.YtcbphahdodjbiaaDoorLpA
namespace Go.Proofs.YtcbphahdodjbiaaDoor
open Go.RowKit Go.Ev
set_option maxRecDepth 100000

theorem str_at (s : List UInt8) (i : Nat) : (⟨s.toArray⟩ : ByteArray)[i]? = s[i]? := by
  rw [← List.getElem?_toArray]
  rfl
theorem str_hi (s : List UInt8) (i : Nat) : (⟨s.toArray⟩ : ByteArray).extract 0 i = ⟨(s.take i).toArray⟩ := by
  apply ByteArray.ext
  simp [ByteArray.data_extract]
theorem str_lo (s : List UInt8) (i : Nat) : (⟨s.toArray⟩ : ByteArray).extract i s.length = ⟨(s.drop i).toArray⟩ := by
  apply ByteArray.ext
  simp [ByteArray.data_extract, List.take_of_length_le]
theorem al_at (w : World) (c : Array Value) (t : TypeId) : (w.alloc (.cells c t)).heap[w.heap.size]? = some (.cells c t (0, 0)) := Array.getElem?_push_size
theorem al_below (w : World) (o : Obj) : Below w.heap.size w (w.alloc o) := (Below.refl _ w).alloc (Nat.le_refl _) o
theorem al_size (w : World) (o : Obj) : (w.alloc o).heap.size = w.heap.size + 1 := Array.size_push ..
theorem runWd (l : List UInt8) (hl : l.length ≤ 1000) (w : World) : Calls Tryd.prog 36 #[strV l, .func (.func 37) #[] #[]] w fun e w' => e = .returned (.int .i64 (rn pWd l)) ∧ Below w.heap.size w w' := by
  refine (runWd_any ⟨l.toArray⟩ (by rw [str_size]; omega) w).mono ?_
  rintro e w' ⟨⟨k, hk, h1, h2, rfl⟩, hb⟩
  rw [str_size] at hk
  have := rn_is (p := pWd) (l := l) hk (fun j b hj hb => h1 j b hj (by rw [str_at]; exact hb)) (fun b hb => h2 b (by rw [str_at]; exact hb))
  rw [← this]
  exact ⟨rfl, hb⟩
theorem runDg (l : List UInt8) (hl : l.length ≤ 1000) (w : World) : Calls Tryd.prog 36 #[strV l, .func (.func 22) #[] #[]] w fun e w' => e = .returned (.int .i64 (rn pDg l)) ∧ Below w.heap.size w w' := by
  refine (runDg_any ⟨l.toArray⟩ (by rw [str_size]; omega) w).mono ?_
  rintro e w' ⟨⟨k, hk, h1, h2, rfl⟩, hb⟩
  rw [str_size] at hk
  have := rn_is (p := pDg) (l := l) hk (fun j b hj hb => h1 j b hj (by rw [str_at]; exact hb)) (fun b hb => h2 b (by rw [str_at]; exact hb))
  rw [← this]
  exact ⟨rfl, hb⟩
/-- A token; a reading as what a function returns. -/
abbrev tokV (k : Int) (t : List UInt8) (n at' : Int) : Value := .agg #[iv k, strV t, iv n, iv at']
def ftV (r : FT) : Value := .tuple #[tokV r.k r.t r.n 0, iv r.len, iv r.e]

theorem four_frozen {W : World} {b : Nat} {x0 x1 x2 x3 : Value} {t : TypeId} (h : W.heap[b]? = some (.cells #[x0, x1, x2, x3] t (0, 0))) :
    W.frozen? ⟨b, 0, none⟩ = false ∧ W.frozen? ⟨b, 1, none⟩ = false ∧ W.frozen? ⟨b, 2, none⟩ = false ∧ W.frozen? ⟨b, 3, none⟩ = false := by
  refine ⟨?_, ?_, ?_, ?_⟩ <;> simp [World.frozen?, h]
theorem four_cells {W : World} {b : Nat} {x0 x1 x2 x3 : Value} {t : TypeId} (h : W.heap[b]? = some (.cells #[x0, x1, x2, x3] t (0, 0))) (u0 u1 u2 u3 : Value) :
    ((((W.setCell ⟨b, 0, none⟩ u0).setCell ⟨b, 1, none⟩ u1).setCell ⟨b, 2, none⟩ u2).setCell ⟨b, 3, none⟩ u3).heap[b]? = some (.cells #[u0, u1, u2, u3] t (0, 0)) := by
  simp [World.setCell, Array.getElem?_modify, h]
theorem four_below {B : Nat} {w W : World} {b : Nat} (h : Below B w W) (hb : B ≤ b) (u0 u1 u2 u3 : Value) :
    Below B w ((((W.setCell ⟨b, 0, none⟩ u0).setCell ⟨b, 1, none⟩ u1).setCell ⟨b, 2, none⟩ u2).setCell ⟨b, 3, none⟩ u3) :=
  (((h.setCell hb _).setCell hb _).setCell hb _).setCell hb _
set_option maxHeartbeats 1000000 in
theorem word_any (l : List UInt8) (hl : l.length ≤ 1000) (w : World) : Calls Tryd.prog 21 #[strV l] w fun e w' => e = .returned (ftV (wordF l)) ∧ Below w.heap.size w w' := by
  have hk := rn_le pWd l
  have hhi : ∀ i : Nat, (⟨l.toArray⟩ : ByteArray).extract 0 i = ⟨(l.take i).toArray⟩ := fun i => str_hi l i
  have hb0 := al_below w (.cells #[iv 0, strV [], iv 0, iv 0] 23)
  have hcz := al_at w #[iv 0, strV [], iv 0, iv 0] 23
  go_enter Tryd.func21, Tryd.ntmps21
  go_wp2_with fail
  refine Calls.mono (runWd l hl _) ?_
  rintro e W1 ⟨rfl, hb1⟩
  have hz1 := (hb1.block w.heap.size (by rw [al_size]; omega)).trans hcz
  have hbw1 := hb0.trans (hb1.mono (by rw [al_size]; omega))
  clear hb1
  by_cases h40 : 40 < rn pWd l
  · have hr : ftV (wordF l) = .tuple #[tokV 0 [] 0 0, iv 0, iv 4] := by unfold wordF ftV; rw [if_pos h40]; rfl
    have h40' : (40 : Int) < rn pWd l := by omega
    have hc0 := cell_at (i := 0) hz1 rfl
    have hc1 := cell_at (i := 1) hz1 rfl
    have hc2 := cell_at (i := 2) hz1 rfl
    have hc3 := cell_at (i := 3) hz1 rfl
    obtain ⟨hf0, hf1, hf2, hf3⟩ := four_frozen hz1
    have hE0 := fun u0 u1 u2 u3 => cell_at (i := 0) (four_cells hz1 u0 u1 u2 u3) rfl
    have hE1 := fun u0 u1 u2 u3 => cell_at (i := 1) (four_cells hz1 u0 u1 u2 u3) rfl
    have hE2 := fun u0 u1 u2 u3 => cell_at (i := 2) (four_cells hz1 u0 u1 u2 u3) rfl
    have hE3 := fun u0 u1 u2 u3 => cell_at (i := 3) (four_cells hz1 u0 u1 u2 u3) rfl
    have hbe := fun u0 u1 u2 u3 => four_below hbw1 (Nat.le_refl _) u0 u1 u2 u3
    simp only [List.getElem_toArray, List.getElem_cons_zero, List.getElem_cons_succ] at hc0 hc1 hc2 hc3 hE0 hE1 hE2 hE3
    clear hz1
    go_wp2_with fail
    simp [bodyPost, results, Tryd.results21, go_sem, hr, hE0, hE1, hE2, hE3]
    exact hbe _ _ _ _
  · have hr : ftV (wordF l) = .tuple #[tokV 1 (l.take (rn pWd l)) 0 0, iv (rn pWd l), iv 0] := by unfold wordF ftV; rw [if_neg h40]
    have h40' : ¬ (40 : Int) < rn pWd l := by omega
    go_wp2_with fail
    refine Calls.mono (clone_any (l.take (rn pWd l)) (by rw [List.length_take]; omega) _) ?_
    rintro e W2 ⟨rfl, hb2⟩
    have hz2 := (hb2.block w.heap.size (by have := (Array.getElem?_eq_some_iff.1 hz1).1; exact this)).trans hz1
    have hbw2 := hbw1.trans (hb2.mono hbw1.size)
    clear hb2 hz1
    have hc0 := cell_at (i := 0) hz2 rfl
    have hc1 := cell_at (i := 1) hz2 rfl
    have hc2 := cell_at (i := 2) hz2 rfl
    have hc3 := cell_at (i := 3) hz2 rfl
    obtain ⟨hf0, hf1, hf2, hf3⟩ := four_frozen hz2
    have hE0 := fun u0 u1 u2 u3 => cell_at (i := 0) (four_cells hz2 u0 u1 u2 u3) rfl
    have hE1 := fun u0 u1 u2 u3 => cell_at (i := 1) (four_cells hz2 u0 u1 u2 u3) rfl
    have hE2 := fun u0 u1 u2 u3 => cell_at (i := 2) (four_cells hz2 u0 u1 u2 u3) rfl
    have hE3 := fun u0 u1 u2 u3 => cell_at (i := 3) (four_cells hz2 u0 u1 u2 u3) rfl
    have hbe := fun u0 u1 u2 u3 => four_below hbw2 (Nat.le_refl _) u0 u1 u2 u3
    simp only [List.getElem_toArray, List.getElem_cons_zero, List.getElem_cons_succ] at hc0 hc1 hc2 hc3 hE0 hE1 hE2 hE3
    clear hz2
    go_wp2_with fail
    simp [bodyPost, results, Tryd.results21, go_sem, hr, hE0, hE1, hE2, hE3]
    exact hbe _ _ _ _
end Go.Proofs.YtcbphahdodjbiaaDoor
