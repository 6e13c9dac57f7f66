/- The walk of SpanChecks. -/
import Derived.Test.YtbhkbhaepefdgaaSpK
import Derived.Deep.RegionHeld3
namespace Go.Proofs.Ytbhkbhaepefdgaa
open Go.RowKit

theorem keep4 {w w1 w2 : World} {N : Nat} {p q r s : Value} (h : w1.cell? ⟨N, 0, none⟩ = some p ∧ w1.cell? ⟨N, 1, none⟩ = some q ∧ w1.cell? ⟨N + 1, 0, none⟩ = some r ∧ w1.cell? ⟨N + 1, 1, none⟩ = some s ∧ N + 1 < w1.heap.size ∧ Below w.heap.size w w1) (hb : Below w1.heap.size w1 w2) :
    w2.cell? ⟨N, 0, none⟩ = some p ∧ w2.cell? ⟨N, 1, none⟩ = some q ∧ w2.cell? ⟨N + 1, 0, none⟩ = some r ∧ w2.cell? ⟨N + 1, 1, none⟩ = some s ∧ N + 1 < w2.heap.size ∧ Below w.heap.size w w2 := by
  obtain ⟨h1, h2, h3, h4, h5, h6⟩ := h
  exact ⟨(hb.cell (p := ⟨N, _, none⟩) (by show N < _; omega)).trans h1, (hb.cell (p := ⟨N, _, none⟩) (by show N < _; omega)).trans h2, (hb.cell (p := ⟨N + 1, _, none⟩) (by show N + 1 < _; omega)).trans h3, (hb.cell (p := ⟨N + 1, _, none⟩) (by show N + 1 < _; omega)).trans h4, by have := hb.size; omega, h6.trans (hb.mono h6.size)⟩
theorem keep4d {w w1 : World} {N : Nat} {p q r s : Value} (h : w1.cell? ⟨N, 0, none⟩ = some p ∧ w1.cell? ⟨N, 1, none⟩ = some q ∧ w1.cell? ⟨N + 1, 0, none⟩ = some r ∧ w1.cell? ⟨N + 1, 1, none⟩ = some s ∧ N + 1 < w1.heap.size ∧ Below w.heap.size w w1) :
    w1.drew.cell? ⟨N, 0, none⟩ = some p ∧ w1.drew.cell? ⟨N, 1, none⟩ = some q ∧ w1.drew.cell? ⟨N + 1, 0, none⟩ = some r ∧ w1.drew.cell? ⟨N + 1, 1, none⟩ = some s ∧ N + 1 < w1.drew.heap.size ∧ Below w.heap.size w w1.drew := ⟨h.1, h.2.1, h.2.2.1, h.2.2.2.1, h.2.2.2.2.1, h.2.2.2.2.2.drew⟩

theorem boxes2 {w w1 : World} {p q r s : Value} {t t' : TypeId} (hb : Below ((w.alloc (.cells #[p, q] t)).alloc (.cells #[r, s] t')).heap.size ((w.alloc (.cells #[p, q] t)).alloc (.cells #[r, s] t')) w1) :
    w1.cell? ⟨w.heap.size, 0, none⟩ = some p ∧ w1.cell? ⟨w.heap.size, 1, none⟩ = some q ∧ w1.cell? ⟨w.heap.size + 1, 0, none⟩ = some r ∧ w1.cell? ⟨w.heap.size + 1, 1, none⟩ = some s ∧ w.heap.size + 1 < w1.heap.size ∧ Below w.heap.size w w1 := by
  have hsz : (w.alloc (.cells #[p, q] t)).heap.size = w.heap.size + 1 := by simp
  have h0 : ((w.alloc (.cells #[p, q] t)).alloc (.cells #[r, s] t')).heap[w.heap.size]? = some (.cells #[p, q] t) := by
    rw [heap_alloc_old _ _ (by rw [hsz]; omega)]
    exact heap_alloc_new w _
  have h1 : ((w.alloc (.cells #[p, q] t)).alloc (.cells #[r, s] t')).heap[w.heap.size + 1]? = some (.cells #[r, s] t') := by
    rw [← hsz]
    exact heap_alloc_new _ _
  have hsz2 : ((w.alloc (.cells #[p, q] t)).alloc (.cells #[r, s] t')).heap.size = w.heap.size + 1 + 1 := by simp
  have k0 := (hb.block w.heap.size (by rw [hsz2]; omega)).trans h0
  have k1 := (hb.block (w.heap.size + 1) (by rw [hsz2]; omega)).trans h1
  refine ⟨?_, ?_, ?_, ?_, ?_, ?_⟩
  · rw [cell_of_row w1 _ _ _ _ (0, 0) k0]; rfl
  · rw [cell_of_row w1 _ _ _ _ (0, 0) k0]; rfl
  · rw [cell_of_row w1 _ _ _ _ (0, 0) k1]; rfl
  · rw [cell_of_row w1 _ _ _ _ (0, 0) k1]; rfl
  · have := hb.size; rw [hsz2] at this; omega
  · exact (((Below.refl _ _).alloc (Nat.le_refl _) _).alloc (by rw [hsz]; omega) _).trans (hb.mono (by rw [hsz2]; omega))

set_option maxHeartbeats 4000000 in
theorem spanChecks_any (a b c d n : Int) (w : World) :
    Calls Try.prog 3 #[.agg #[.int .i64 a, .int .i64 b], .agg #[.int .i64 c, .int .i64 d], .int .i64 n] w fun e w' => e = .returned (.bool true) ∧ Below w.heap.size w w' := by
  have hCk := fun W => check_any a b W
  have hRk := fun W => refCheck_any a b W
  obtain ⟨x1, hx1⟩ : ∃ x, x = errAll [(a, b)] := ⟨_, rfl⟩
  rw [← hx1] at hCk hRk
  have hCn := fun W => contains_any a b n W
  have hRn := fun W => refContains_any a b n W
  obtain ⟨x2, hx2⟩ : ∃ x, x = inIv a b n := ⟨_, rfl⟩
  rw [← hx2] at hCn hRn
  have hCw := fun W => within_any a b c d W
  have hRw := fun W => refWithin_any a b c d W
  obtain ⟨x3, hx3⟩ : ∃ x, x = withinIv a b c d := ⟨_, rfl⟩
  rw [← hx3] at hCw hRw
  have hCl := fun W => length_any a b W
  have hRl := fun W => refLength_any a b W
  obtain ⟨x4, hx4⟩ : ∃ x, x = lenIv a b := ⟨_, rfl⟩
  rw [← hx4] at hCl hRl
  clear hx1 hx2 hx3 hx4
  have HCk := Lib.hid hCk
  have HRk := Lib.hid hRk
  have HCn := Lib.hid hCn
  have HRn := Lib.hid hRn
  have HCw := Lib.hid hCw
  have HRw := Lib.hid hRw
  have HCl := Lib.hid hCl
  have HRl := Lib.hid hRl
  clear hCk hRk hCn hRn hCw hRw hCl hRl
  go_enter Try.func3, Try.ntmps3
  go_wp2_with fail
  refine (awake_any _).mono ?_
  rintro e w1 ⟨rfl, hb⟩
  have hS := boxes2 hb
  clear hb
  have HS := Lib.hid hS
  clear hS
  go_wp2_with fail
  go_region_held3 (fun w' => w'.cell? ⟨w.heap.size, 0, none⟩ = some (.int .i64 a) ∧ w'.cell? ⟨w.heap.size, 1, none⟩ = some (.int .i64 b) ∧ w'.cell? ⟨w.heap.size + 1, 0, none⟩ = some (.int .i64 c) ∧ w'.cell? ⟨w.heap.size + 1, 1, none⟩ = some (.int .i64 d) ∧ w.heap.size + 1 < w'.heap.size ∧ Below w.heap.size w w')
    ((first | exact keep4d HS.out | exact keep4 (by assumption) (by assumption)))
    (first | (go_at_call 7; refine (HCk.out _).mono ?_; rintro e w' ⟨rfl, hbb⟩) | (go_at_call 8; refine (HRk.out _).mono ?_; rintro e w' ⟨rfl, hbb⟩) | (go_at_call 9; refine (HCn.out _).mono ?_; rintro e w' ⟨rfl, hbb⟩) | (go_at_call 10; refine (HRn.out _).mono ?_; rintro e w' ⟨rfl, hbb⟩) | (go_at_call 11; refine (HCw.out _).mono ?_; rintro e w' ⟨rfl, hbb⟩) | (go_at_call 12; refine (HRw.out _).mono ?_; rintro e w' ⟨rfl, hbb⟩) | (go_at_call 13; refine (HCl.out _).mono ?_; rintro e w' ⟨rfl, hbb⟩) | (go_at_call 14; refine (HRl.out _).mono ?_; rintro e w' ⟨rfl, hbb⟩))
  rename_i hHeld
  have HF := Lib.hid hHeld.2.2.2.2.2
  clear hHeld
  go_wp2_with fail
  go_ret
  exact ⟨rfl, HF.out⟩
end Go.Proofs.Ytbhkbhaepefdgaa
