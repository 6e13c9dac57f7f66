/- Contracts of layer 3: Add, Sub, Dot, Cross, Distance, Compare. -/
import Derived.Test.YtdbcflgacjgdoaaVeB
import Derived.Deep.RegionHeld3
import Derived.Laws.EntriesVeiled
namespace Go.Proofs.Ytdbcflgacjgdoaa
open Go.RowKit

abbrev vecV (a : V3) : Value := .agg #[.int .i64 a.1, .int .i64 a.2.1, .int .i64 a.2.2]
theorem errV_two (a b : V3) : errV [a, b] = if inV a && inV b then 0 else 6 := by simp [errV]
theorem errV_one (a : V3) : errV [a] = if inV a then 0 else 6 := by simp [errV]
theorem inV_two {x y z : Int} (h : inV (x, y, z) = true) : two x ∧ two y ∧ two z := by
  simp [inV, inC] at h
  unfold two
  omega
abbrev Six (w0 : World) (m : Nat) (w' : World) (a0 a1 a2 b0 b1 b2 : Value) : Prop := w'.cell? ⟨w0.heap.size, 0, none⟩ = some a0 ∧ w'.cell? ⟨w0.heap.size, 1, none⟩ = some a1 ∧ w'.cell? ⟨w0.heap.size, 2, none⟩ = some a2 ∧
  w'.cell? ⟨w0.heap.size + 1, 0, none⟩ = some b0 ∧ w'.cell? ⟨w0.heap.size + 1, 1, none⟩ = some b1 ∧ w'.cell? ⟨w0.heap.size + 1, 2, none⟩ = some b2 ∧ w0.heap.size + m < w'.heap.size ∧ Below w0.heap.size w0 w'
theorem Six.next {w0 w1 w2 : World} {m : Nat} {a0 a1 a2 b0 b1 b2 : Value} (h : Six w0 (m + 1) w1 a0 a1 a2 b0 b1 b2) (hb : Below w1.heap.size w1 w2) : Six w0 (m + 1) w2 a0 a1 a2 b0 b1 b2 := by
  obtain ⟨h1, h2, h3, h4, h5, h6, h7, h8⟩ := h
  exact ⟨(hb.cell (p := ⟨_, 0, none⟩) (by show w0.heap.size < _; omega)).trans h1, (hb.cell (p := ⟨_, 1, none⟩) (by show w0.heap.size < _; omega)).trans h2, (hb.cell (p := ⟨_, 2, none⟩) (by show w0.heap.size < _; omega)).trans h3,
    (hb.cell (p := ⟨_, 0, none⟩) (by show w0.heap.size + 1 < _; omega)).trans h4, (hb.cell (p := ⟨_, 1, none⟩) (by show w0.heap.size + 1 < _; omega)).trans h5, (hb.cell (p := ⟨_, 2, none⟩) (by show w0.heap.size + 1 < _; omega)).trans h6, by have := hb.size; omega, h8.trans (hb.mono h8.size)⟩
theorem Six.al {w0 w1 : World} {m : Nat} {a0 a1 a2 b0 b1 b2 : Value} {o : Obj} (h : Six w0 (m + 1) w1 a0 a1 a2 b0 b1 b2) : Six w0 (m + 1) (w1.alloc o) a0 a1 a2 b0 b1 b2 := h.next ((Below.refl _ _).alloc (Nat.le_refl _) _)
theorem Six.dr {w0 w1 : World} {m : Nat} {a0 a1 a2 b0 b1 b2 : Value} (h : Six w0 m w1 a0 a1 a2 b0 b1 b2) : Six w0 m w1.drew a0 a1 a2 b0 b1 b2 := ⟨h.1, h.2.1, h.2.2.1, h.2.2.2.1, h.2.2.2.2.1, h.2.2.2.2.2.1, h.2.2.2.2.2.2.1, h.2.2.2.2.2.2.2.drew⟩
theorem Six.more {w0 w1 : World} {m n : Nat} {a0 a1 a2 b0 b1 b2 : Value} (h : Six w0 m w1 a0 a1 a2 b0 b1 b2) (hn : w0.heap.size + n < w1.heap.size) : Six w0 n w1 a0 a1 a2 b0 b1 b2 := ⟨h.1, h.2.1, h.2.2.1, h.2.2.2.1, h.2.2.2.2.1, h.2.2.2.2.2.1, hn, h.2.2.2.2.2.2.2⟩
theorem Below.unalloc {B : Nat} {a w : World} {o : Obj} (h : Below B a (w.alloc o)) (h1 : a.heap.size ≤ w.heap.size) (hB : B ≤ w.heap.size) : Below B a w :=
  ⟨h.os, h.tape, h.output, h1, fun k hk => (Below.heap_alloc w o k (by omega)).symm.trans (h.block k hk)⟩
/-- The last block taken away. -/
theorem Six.un {w0 w1 : World} {m : Nat} {a0 a1 a2 b0 b1 b2 : Value} {o : Obj} (h : Six w0 (m + 2) (w1.alloc o) a0 a1 a2 b0 b1 b2) : Six w0 (m + 1) w1 a0 a1 a2 b0 b1 b2 := by
  obtain ⟨h1, h2, h3, h4, h5, h6, h7, h8⟩ := h
  have hs : (w1.alloc o).heap.size = w1.heap.size + 1 := Array.size_push ..
  rw [hs] at h7
  have hl : ∀ b i, b < w1.heap.size → (w1.alloc o).cell? ⟨b, i, none⟩ = w1.cell? ⟨b, i, none⟩ := fun b i hb => World.cell?_alloc_lt _ _ _ hb
  refine ⟨(hl _ _ (by omega)).symm.trans h1, (hl _ _ (by omega)).symm.trans h2, (hl _ _ (by omega)).symm.trans h3, (hl _ _ (by omega)).symm.trans h4, (hl _ _ (by omega)).symm.trans h5, (hl _ _ (by omega)).symm.trans h6, by omega, Below.unalloc h8 (by omega) (by omega)⟩
theorem Six.re {w0 w1 : World} {m : Nat} {a0 a1 a2 b0 b1 b2 : Value} {o p : Obj} (h : Six w0 (m + 2) (w1.alloc o) a0 a1 a2 b0 b1 b2) : Six w0 (m + 2) (w1.alloc p) a0 a1 a2 b0 b1 b2 := by
  have hs : (w1.alloc o).heap.size = w1.heap.size + 1 := Array.size_push ..
  have hs' : (w1.alloc p).heap.size = w1.heap.size + 1 := Array.size_push ..
  have h7 := h.2.2.2.2.2.2.1
  have h' : Six w0 (m + 1) w1 a0 a1 a2 b0 b1 b2 := Six.un h
  exact (h'.al (o := p)).more (by omega)
theorem Six.re2 {w0 w1 : World} {m : Nat} {a0 a1 a2 b0 b1 b2 : Value} {o o' p p' : Obj} (h : Six w0 (m + 3) ((w1.alloc o).alloc o') a0 a1 a2 b0 b1 b2) : Six w0 (m + 3) ((w1.alloc p).alloc p') a0 a1 a2 b0 b1 b2 := by
  have hs : ∀ (W : World) o, (W.alloc o).heap.size = W.heap.size + 1 := fun W o => Array.size_push ..
  have h7 := h.2.2.2.2.2.2.1
  rw [hs, hs] at h7
  have h' : Six w0 (m + 1) w1 a0 a1 a2 b0 b1 b2 := Six.un (Six.un h)
  exact ((h'.al (o := p)).al (o := p')).more (by rw [hs, hs]; omega)
theorem Six.made (w : World) (a0 a1 a2 b0 b1 b2 : Value) {t t' : TypeId} : Six w 0 ((w.alloc (.cells #[a0, a1, a2] t)).alloc (.cells #[b0, b1, b2] t')) a0 a1 a2 b0 b1 b2 := by
  have hsz : (w.alloc (.cells #[a0, a1, a2] t)).heap.size = w.heap.size + 1 := Array.size_push ..
  have hsz2 : ((w.alloc (.cells #[a0, a1, a2] t)).alloc (.cells #[b0, b1, b2] t')).heap.size = w.heap.size + 1 + 1 := by rw [← hsz]; exact Array.size_push ..
  have h0 : ((w.alloc (.cells #[a0, a1, a2] t)).alloc (.cells #[b0, b1, b2] t')).heap[w.heap.size]? = some (.cells #[a0, a1, a2] t (0, 0)) := by
    rw [heap_alloc_old _ _ (by rw [hsz]; omega)]
    exact heap_alloc_new w _
  have h1 : ((w.alloc (.cells #[a0, a1, a2] t)).alloc (.cells #[b0, b1, b2] t')).heap[w.heap.size + 1]? = some (.cells #[b0, b1, b2] t' (0, 0)) := by
    rw [← hsz]
    exact heap_alloc_new _ _
  exact ⟨cell_of_row _ _ 0 _ _ (0, 0) h0, cell_of_row _ _ 1 _ _ (0, 0) h0, cell_of_row _ _ 2 _ _ (0, 0) h0, cell_of_row _ _ 0 _ _ (0, 0) h1, cell_of_row _ _ 1 _ _ (0, 0) h1, cell_of_row _ _ 2 _ _ (0, 0) h1, by rw [hsz2]; omega,
    ((Below.refl _ _).alloc (Nat.le_refl _) _).alloc (by rw [hsz]; omega) _⟩
/-- Behind the check: three blocks and more. -/
theorem Six.ck {w w1 : World} {a0 a1 a2 b0 b1 b2 : Value} {t t' : TypeId} {o : Obj} (hb : Below (w.heap.size + 1 + 1 + 1) (((w.alloc (.cells #[a0, a1, a2] t)).alloc (.cells #[b0, b1, b2] t')).alloc o) w1) : Six w 2 w1 a0 a1 a2 b0 b1 b2 := by
  have hs : ∀ (W : World) o, (W.alloc o).heap.size = W.heap.size + 1 := fun W o => Array.size_push ..
  exact (((Six.made w a0 a1 a2 b0 b1 b2).more (n := 1) (by rw [hs, hs]; omega)).al.more (n := 2) (by rw [hs, hs, hs]; omega)).next (hb.mono (by rw [hs, hs, hs]; omega))
theorem Six.ck4 {w w1 : World} {a0 a1 a2 b0 b1 b2 : Value} {t t' : TypeId} {o o' : Obj} (hb : Below (w.heap.size + 1 + 1 + 1 + 1) ((((w.alloc (.cells #[a0, a1, a2] t)).alloc (.cells #[b0, b1, b2] t')).alloc o).alloc o') w1) : Six w 3 w1 a0 a1 a2 b0 b1 b2 := by
  have hs : ∀ (W : World) o, (W.alloc o).heap.size = W.heap.size + 1 := fun W o => Array.size_push ..
  exact (((Six.made w a0 a1 a2 b0 b1 b2).more (n := 1) (by rw [hs, hs]; omega)).al.al.more (n := 3) (by rw [hs, hs, hs, hs]; omega)).next (hb.mono (by rw [hs, hs, hs, hs]; omega))

theorem ck2 (x y z x' y' z' : Int) (g : Nat) (W : World) (t : TypeId) (hg : W.heap.size = g) :
    Calls Try.prog 24 #[.slice (some ⟨g, 0, none⟩) 2 2] (W.alloc (.cells #[.int .i64 x, .int .i64 y, .int .i64 z, .int .i64 x', .int .i64 y', .int .i64 z'] t)) fun e w' => e = .returned (.int .i64 (if inV (x, y, z) && inV (x', y', z') then 0 else 6)) ∧ Below (W.heap.size + 1) (W.alloc (.cells #[.int .i64 x, .int .i64 y, .int .i64 z, .int .i64 x', .int .i64 y', .int .i64 z'] t)) w' := by
  have h := checkV_any [(x, y, z), (x', y', z')] (some ⟨g, 0, none⟩) 2 (g + 1) (W.alloc (.cells #[.int .i64 x, .int .i64 y, .int .i64 z, .int .i64 x', .int .i64 y', .int .i64 z'] t)) (liesV_two W x y z x' y' z' t g hg) (by simp [hg]) (by simp)
  rw [errV_two] at h
  have hs : (W.alloc (.cells #[.int .i64 x, .int .i64 y, .int .i64 z, .int .i64 x', .int .i64 y', .int .i64 z'] t)).heap.size = W.heap.size + 1 := Array.size_push ..
  rw [hs] at h
  exact h

set_option maxRecDepth 20000 in
set_option maxHeartbeats 4000000 in
theorem dot2_ok (x y z x' y' z' : Int) (ha : inV (x, y, z) = true) (hb : inV (x', y', z') = true) (w : World) : Calls Try.prog 18 #[.agg #[.int .i64 x, .int .i64 y, .int .i64 z], .agg #[.int .i64 x', .int .i64 y', .int .i64 z']] w fun e w' => e = .returned (.tuple #[.int .i64 (x * x' + y * y' + z * z'), .int .i64 0]) ∧ Below w.heap.size w w' := by
  have HC := Lib.hid (fun g W t hg => ck2 x y z x' y' z' g W t hg)
  rw [ha, hb, Bool.and_self, if_pos rfl] at HC
  obtain ⟨x1, y1, z1⟩ := inV_two ha
  obtain ⟨x2, y2, z2⟩ := inV_two hb
  have HD := Lib.hid (fun W => dot_any x y z x' y' z' x1 y1 z1 x2 y2 z2 W)
  have HK := Lib.hid (fun a b c W => coords a b c W)
  clear ha hb x1 y1 z1 x2 y2 z2
  go_enter Try.func18, Try.ntmps18
  go_wp2_with fail
  refine (HC.out _ _ _ (by simp)).mono ?_
  rintro e w1 ⟨rfl, hb1⟩
  have HS := Lib.hid (Six.ck (hb1.mono (by simp)))
  clear hb1
  go_wp2_with fail
  go_region_held3 (fun w' => w'.cell? ⟨w.heap.size, 0, none⟩ = some (.int .i64 x) ∧ w'.cell? ⟨w.heap.size, 1, none⟩ = some (.int .i64 y) ∧ w'.cell? ⟨w.heap.size, 2, none⟩ = some (.int .i64 z) ∧ w'.cell? ⟨w.heap.size + 1, 0, none⟩ = some (.int .i64 x') ∧ w'.cell? ⟨w.heap.size + 1, 1, none⟩ = some (.int .i64 y') ∧ w'.cell? ⟨w.heap.size + 1, 2, none⟩ = some (.int .i64 z') ∧ w.heap.size + 2 < w'.heap.size ∧ Below w.heap.size w w')
    (first | (refine Six.dr ?_; exact HS.out) | (refine Six.next ?_ hbb; assumption) | (refine Six.al ?_; assumption) | (rename_i hh; exact Six.re hh) | (rename_i hh; exact Six.re2 hh))
    (first | (go_at_call 26; refine (HK.out _ _ _ _).mono ?_; rintro e w' ⟨rfl, hbb⟩) | (go_at_call 36; refine (HD.out _).mono ?_; rintro e w' ⟨rfl, hbb⟩))
  rename_i hH
  have HB := Lib.hid hH.2.2.2.2.2.2.2
  clear hH
  go_wp2_with fail
  exact bodyPost_ret (v := .tuple #[.int .i64 (x * x' + y * y' + z * z'), .int .i64 0]) (by simp [results, Try.results18, go_sem]) rfl ⟨rfl, HB.out⟩
end Go.Proofs.Ytdbcflgacjgdoaa
