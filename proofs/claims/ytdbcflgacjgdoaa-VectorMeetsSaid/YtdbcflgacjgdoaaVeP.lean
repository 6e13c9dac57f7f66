/- Worlds behind calls that only make blocks; points in memory; comparePoints, earlier, later, turn. -/
import Derived.Test.YtdbcflgacjgdoaaVeS
namespace Go.Proofs.Ytdbcflgacjgdoaa
open Go.RowKit

theorem own2 {w : World} {g : Nat} {t : TypeId} {p q : Value} (h : w.heap[g]? = some (.cells #[p, q] t (0, 0))) : w.cell? ⟨g, 0, none⟩ = some p ∧ w.cell? ⟨g, 1, none⟩ = some q ∧ w.frozen? ⟨g, 0, none⟩ = false ∧ w.frozen? ⟨g, 1, none⟩ = false :=
  ⟨cell_of_row w g 0 _ t (0, 0) h, cell_of_row w g 1 _ t (0, 0) h, by simp [World.frozen?, h], by simp [World.frozen?, h]⟩
theorem set2 {w : World} {g : Nat} {t : TypeId} {p q : Value} (h : w.heap[g]? = some (.cells #[p, q] t (0, 0))) (p' q' : Value) : ((w.setCell ⟨g, 0, none⟩ p').setCell ⟨g, 1, none⟩ q').heap[g]? = some (.cells #[p', q'] t (0, 0)) :=
  heap_setCell_same _ g 1 _ t q' (heap_setCell_same w g 0 _ t p' h)
theorem hNew (W : World) (o : Obj) (g : Nat) (hg : g = W.heap.size) : (W.alloc o).heap[g]? = some o := by subst hg; exact heap_alloc_new W o
theorem hOld (W : World) (o : Obj) (g : Nat) (x : Obj) (hg : g < W.heap.size) (h : W.heap[g]? = some x) : (W.alloc o).heap[g]? = some x := (heap_alloc_old W o hg).trans h

theorem bAl {a w : World} {o : Obj} (h : Below a.heap.size a w) : Below a.heap.size a (w.alloc o) := h.alloc h.size o
theorem bNext {a w w' : World} (h : Below a.heap.size a w) (hb : Below w.heap.size w w') : Below a.heap.size a w' := h.trans (hb.mono h.size)
theorem bSet2 {a w : World} {p : Nat} {x y : Value} (h : Below a.heap.size a w) (hp : a.heap.size ≤ p) : Below a.heap.size a ((w.setCell ⟨p, 0, none⟩ x).setCell ⟨p, 1, none⟩ y) := (h.setCell (p := ⟨p, 0, none⟩) hp x).setCell (p := ⟨p, 1, none⟩) hp y

/-- A block of two cells. -/
def Fr2 (w : World) (p : Nat) : Prop := ∃ x y t, w.heap[p]? = some (.cells #[x, y] t (0, 0))
theorem Fr2.new {W w' : World} {x y : Value} {t : TypeId} (hb : Below (W.alloc (.cells #[x, y] t)).heap.size (W.alloc (.cells #[x, y] t)) w') : Fr2 w' W.heap.size :=
  ⟨x, y, t, (hb.block _ (by rw [szA]; omega)).trans (heap_alloc_new W _)⟩
theorem Fr2.newd {W w' : World} {x y : Value} {t : TypeId} (hb : Below (W.alloc (.cells #[x, y] t)).drew.heap.size (W.alloc (.cells #[x, y] t)).drew w') : Fr2 w' W.heap.size :=
  ⟨x, y, t, (hb.block _ (by rw [szD, szA]; omega)).trans (heap_alloc_new W _)⟩
theorem Fr2.newe {W w' : World} {x y : Value} {t : TypeId} (hb : Below (W.drew.alloc (.cells #[x, y] t)).heap.size (W.drew.alloc (.cells #[x, y] t)) w') : Fr2 w' W.heap.size :=
  ⟨x, y, t, (hb.block _ (by rw [szA, szD]; omega)).trans (heap_alloc_new W.drew _)⟩
theorem Fr2.next {W w' : World} {p : Nat} (h : Fr2 W p) (hb : Below W.heap.size W w') : Fr2 w' p := by
  obtain ⟨x, y, t, h2⟩ := h
  exact ⟨x, y, t, (hb.block _ (Array.getElem?_eq_some_iff.1 h2).1).trans h2⟩
theorem Fr2.facts {W : World} {p : Nat} (h : Fr2 W p) : ∃ x y, W.cell? ⟨p, 0, none⟩ = some x ∧ W.cell? ⟨p, 1, none⟩ = some y ∧ W.frozen? ⟨p, 0, none⟩ = false ∧ W.frozen? ⟨p, 1, none⟩ = false ∧ p < W.heap.size := by
  obtain ⟨x, y, t, h2⟩ := h
  obtain ⟨a, b, c, d⟩ := own2 h2
  exact ⟨x, y, a, b, c, d, (Array.getElem?_eq_some_iff.1 h2).1⟩
theorem Fr2.set {W : World} {p : Nat} (h : Fr2 W p) (x y : Value) : ∃ t, ((W.setCell ⟨p, 0, none⟩ x).setCell ⟨p, 1, none⟩ y).heap[p]? = some (.cells #[x, y] t (0, 0)) := by
  obtain ⟨x', y', t, h2⟩ := h
  exact ⟨t, set2 h2 x y⟩

theorem bSet3 {a w : World} {p : Nat} {x y z : Value} (h : Below a.heap.size a w) (hp : a.heap.size ≤ p) : Below a.heap.size a (((w.setCell ⟨p, 0, none⟩ x).setCell ⟨p, 1, none⟩ y).setCell ⟨p, 2, none⟩ z) := ((h.setCell (p := ⟨p, 0, none⟩) hp x).setCell (p := ⟨p, 1, none⟩) hp y).setCell (p := ⟨p, 2, none⟩) hp z
/-- A block of three cells. -/
def Fr3 (w : World) (p : Nat) : Prop := ∃ x y z t, w.heap[p]? = some (.cells #[x, y, z] t (0, 0))
theorem Fr3.new {W w' : World} {x y z : Value} {t : TypeId} (hb : Below (W.alloc (.cells #[x, y, z] t)).heap.size (W.alloc (.cells #[x, y, z] t)) w') : Fr3 w' W.heap.size :=
  ⟨x, y, z, t, (hb.block _ (by rw [szA]; omega)).trans (heap_alloc_new W _)⟩
theorem Fr3.newd {W w' : World} {x y z : Value} {t : TypeId} (hb : Below (W.alloc (.cells #[x, y, z] t)).drew.heap.size (W.alloc (.cells #[x, y, z] t)).drew w') : Fr3 w' W.heap.size :=
  ⟨x, y, z, t, (hb.block _ (by rw [szD, szA]; omega)).trans (heap_alloc_new W _)⟩
theorem Fr3.newe {W w' : World} {x y z : Value} {t : TypeId} (hb : Below (W.drew.alloc (.cells #[x, y, z] t)).heap.size (W.drew.alloc (.cells #[x, y, z] t)) w') : Fr3 w' W.heap.size :=
  ⟨x, y, z, t, (hb.block _ (by rw [szA, szD]; omega)).trans (heap_alloc_new W.drew _)⟩
theorem Fr3.next {W w' : World} {p : Nat} (h : Fr3 W p) (hb : Below W.heap.size W w') : Fr3 w' p := by
  obtain ⟨x, y, z, t, h2⟩ := h
  exact ⟨x, y, z, t, (hb.block _ (Array.getElem?_eq_some_iff.1 h2).1).trans h2⟩
theorem Fr3.facts {W : World} {p : Nat} (h : Fr3 W p) : ∃ x y z, W.cell? ⟨p, 0, none⟩ = some x ∧ W.cell? ⟨p, 1, none⟩ = some y ∧ W.cell? ⟨p, 2, none⟩ = some z ∧ W.frozen? ⟨p, 0, none⟩ = false ∧ W.frozen? ⟨p, 1, none⟩ = false ∧ W.frozen? ⟨p, 2, none⟩ = false ∧ p < W.heap.size := by
  obtain ⟨x, y, z, t, h2⟩ := h
  obtain ⟨a, b, c, d, e, f⟩ := own3 h2
  exact ⟨x, y, z, a, b, c, d, e, f, (Array.getElem?_eq_some_iff.1 h2).1⟩
theorem Fr3.set {W : World} {p : Nat} (h : Fr3 W p) (x y z : Value) : ∃ t, (((W.setCell ⟨p, 0, none⟩ x).setCell ⟨p, 1, none⟩ y).setCell ⟨p, 2, none⟩ z).heap[p]? = some (.cells #[x, y, z] t (0, 0)) := by
  obtain ⟨x', y', z', t, h2⟩ := h
  exact ⟨t, set3 h2 x y z⟩

abbrev ptV (p : Pt) : Value := .agg #[.int .i64 p.1, .int .i64 p.2]
abbrev ptC (p : Pt) (t : TypeId) : Obj := .cells #[.int .i64 p.1, .int .i64 p.2] t

theorem made2 (w : World) (A B : Obj) : ((w.alloc A).alloc B).heap[w.heap.size]? = some A ∧ ((w.alloc A).alloc B).heap[w.heap.size + 1]? = some B ∧ Below w.heap.size w ((w.alloc A).alloc B) ∧ ((w.alloc A).alloc B).heap.size = w.heap.size + 2 :=
  ⟨hOld _ _ _ _ (by rw [szA]; omega) (hNew _ _ _ rfl), hNew _ _ _ (by rw [szA]), bAl (bAl (Below.refl _ _)), by rw [szA, szA]⟩
theorem made3 (w : World) (A B C : Obj) : (((w.alloc A).alloc B).alloc C).heap[w.heap.size]? = some A ∧ (((w.alloc A).alloc B).alloc C).heap[w.heap.size + 1]? = some B ∧ (((w.alloc A).alloc B).alloc C).heap[w.heap.size + 1 + 1]? = some C ∧ Below w.heap.size w (((w.alloc A).alloc B).alloc C) ∧ (((w.alloc A).alloc B).alloc C).heap.size = w.heap.size + 3 :=
  have h := made2 w A B
  ⟨hOld _ _ _ _ (by rw [h.2.2.2]; omega) h.1, hOld _ _ _ _ (by rw [h.2.2.2]; omega) h.2.1, hNew _ _ _ (by rw [h.2.2.2]), bAl h.2.2.1, by rw [szA, h.2.2.2]⟩
theorem made4 (w : World) (A B C D : Obj) : ((((w.alloc A).alloc B).alloc C).alloc D).heap[w.heap.size]? = some A ∧ ((((w.alloc A).alloc B).alloc C).alloc D).heap[w.heap.size + 1]? = some B ∧ ((((w.alloc A).alloc B).alloc C).alloc D).heap[w.heap.size + 1 + 1]? = some C ∧ ((((w.alloc A).alloc B).alloc C).alloc D).heap[w.heap.size + 1 + 1 + 1]? = some D ∧ Below w.heap.size w ((((w.alloc A).alloc B).alloc C).alloc D) ∧ ((((w.alloc A).alloc B).alloc C).alloc D).heap.size = w.heap.size + 4 :=
  have h := made3 w A B C
  ⟨hOld _ _ _ _ (by rw [h.2.2.2.2]; omega) h.1, hOld _ _ _ _ (by rw [h.2.2.2.2]; omega) h.2.1, hOld _ _ _ _ (by rw [h.2.2.2.2]; omega) h.2.2.1, hNew _ _ _ (by rw [h.2.2.2.2]), bAl h.2.2.2.1, by rw [szA, h.2.2.2.2]⟩

set_option maxRecDepth 20000 in
set_option maxHeartbeats 4000000 in
theorem lex_any (a1 a2 b1 b2 : Int) (w : World) : Calls Try.prog 43 #[.agg #[.int .i64 a1, .int .i64 a2], .agg #[.int .i64 b1, .int .i64 b2]] w fun e w' => e = .returned (.int .i64 (lexP (a1, a2) (b1, b2))) ∧ Below w.heap.size w w' := by
  have HI := Lib.hid (fun m n W => cmpInt m n W)
  have HO : Hid (∀ g t W, W.heap[g]? = some (.cells #[.int .i64 (cmpI a1 b1), .int .i64 (cmpI a2 b2)] t (0, 0)) → Calls Try.prog 44 #[.slice (some ⟨g, 0, none⟩) 2 2] W fun e w' => e = .returned (.int .i64 (lexP (a1, a2) (b1, b2))) ∧ w' = W) := fun g t W hg => or2 (cmpI a1 b1) (cmpI a2 b2) g t W hg
  go_enter Try.func43, Try.ntmps43
  go_wp2_with fail
  obtain ⟨m1, m2, m3, m4⟩ := made2 w (.cells #[.int .i64 a1, .int .i64 a2] 35) (.cells #[.int .i64 b1, .int .i64 b2] 35)
  generalize (w.alloc (.cells #[.int .i64 a1, .int .i64 a2] 35)).alloc (.cells #[.int .i64 b1, .int .i64 b2] 35) = w1 at m1 m2 m3 m4 ⊢
  have HM : Hid (∀ w', Below w1.heap.size w1 w' → w'.cell? ⟨w.heap.size, 0, none⟩ = some (.int .i64 a1) ∧ w'.cell? ⟨w.heap.size, 1, none⟩ = some (.int .i64 a2) ∧ w'.cell? ⟨w.heap.size + 1, 0, none⟩ = some (.int .i64 b1) ∧ w'.cell? ⟨w.heap.size + 1, 1, none⟩ = some (.int .i64 b2) ∧ Below w1.heap.size w1 w') := fun w' hB =>
    ⟨(hB.cell (p := ⟨_, 0, none⟩) (by show w.heap.size < _; omega)).trans (own2 m1).1, (hB.cell (p := ⟨_, 1, none⟩) (by show w.heap.size < _; omega)).trans (own2 m1).2.1, (hB.cell (p := ⟨_, 0, none⟩) (by show w.heap.size + 1 < _; omega)).trans (own2 m2).1, (hB.cell (p := ⟨_, 1, none⟩) (by show w.heap.size + 1 < _; omega)).trans (own2 m2).2.1, hB⟩
  have H3 := Lib.hid m3
  clear m1 m2 m3 m4
  go_region_held3 (fun w' => w'.cell? ⟨w.heap.size, 0, none⟩ = some (.int .i64 a1) ∧ w'.cell? ⟨w.heap.size, 1, none⟩ = some (.int .i64 a2) ∧ w'.cell? ⟨w.heap.size + 1, 0, none⟩ = some (.int .i64 b1) ∧ w'.cell? ⟨w.heap.size + 1, 1, none⟩ = some (.int .i64 b2) ∧ Below w1.heap.size w1 w')
    ((refine HM.out _ ?_; repeat (first | exact Below.refl _ _ | refine bAl ?_ | refine Below.drew ?_)))
    (first | (go_at_call 45; refine (HI.out _ _ _).mono ?_; rintro e w' ⟨rfl, rfl⟩) | (go_at_call 44; refine (HO.out w1.heap.size 3 _ ?_).mono ?_; exact heap_alloc_new w1 _; rintro e w' ⟨rfl, rfl⟩))
  rename_i hH
  have HB := Lib.hid hH.2.2.2.2
  clear hH
  go_wp2_with fail
  go_ret
  exact ⟨rfl, H3.out.trans (HB.out.mono H3.out.size)⟩

theorem lexP_le (p q : Pt) : -1 ≤ lexP p q ∧ lexP p q ≤ 1 := by
  unfold lexP cmpI
  (repeat' split) <;> omega

set_option maxRecDepth 20000 in
set_option maxHeartbeats 4000000 in
theorem earlier_any (p q : Pt) (w : World) : Calls Try.prog 42 #[ptV p, ptV q] w fun e w' => e = .returned (ptV (earlierP p q)) ∧ Below w.heap.size w w' := by
  have HL := Lib.hid (fun W => lex_any p.1 p.2 q.1 q.2 W)
  have HR : Hid (earlierP p q = if lexP p q < 0 then p else q) := rfl
  obtain ⟨p1, p2⟩ := p
  obtain ⟨q1, q2⟩ := q
  generalize earlierP (p1, p2) (q1, q2) = r at HR ⊢
  obtain ⟨l, hl⟩ : ∃ l, l = lexP (p1, p2) (q1, q2) := ⟨_, rfl⟩
  simp only [← hl] at HL HR
  clear hl
  obtain ⟨m1, m2, m3, m4, m5⟩ := made3 w (.cells #[.int .i64 p1, .int .i64 p2] 35) (.cells #[.int .i64 q1, .int .i64 q2] 35) (.cells #[.int .i64 0, .int .i64 0] 35)
  have M1 := Lib.hid m1
  have M2 := Lib.hid m2
  have M3 := Lib.hid m3
  have M4 := Lib.hid m4
  have M5 := Lib.hid m5
  clear m1 m2 m3 m4 m5
  go_enter Try.func42, Try.ntmps42
  go_wp2_with fail
  refine (HL.out _).mono ?_
  rintro e w2 ⟨rfl, hb⟩
  obtain ⟨a1, a2, a3, a4⟩ := own2 ((hb.block _ (by rw [M5.out]; omega)).trans M1.out)
  obtain ⟨b1, b2, b3, b4⟩ := own2 ((hb.block _ (by rw [M5.out]; omega)).trans M2.out)
  obtain ⟨c1, c2, c3, c4⟩ := own2 ((hb.block _ (by rw [M5.out]; omega)).trans M3.out)
  have HB := Lib.hid (M4.out.trans (hb.mono (by rw [M5.out]; omega)))
  clear hb M1 M2 M3 M4 M5 HL
  by_cases h : l < 0
  · rw [if_pos h] at HR
    obtain rfl : r = (p1, p2) := HR
    go_wp2_with fail
    exact bodyPost_ret (v := ptV (p1, p2)) (by simp [results, Try.results42, go_sem, c1, c2]) rfl ⟨rfl, (HB.out.setCell (p := ⟨w.heap.size + 1 + 1, 0, none⟩) (by show w.heap.size ≤ w.heap.size + 1 + 1; omega) _).setCell (p := ⟨w.heap.size + 1 + 1, 1, none⟩) (by show w.heap.size ≤ w.heap.size + 1 + 1; omega) _⟩
  · rw [if_neg h] at HR
    obtain rfl : r = (q1, q2) := HR
    go_wp2_with fail
    exact bodyPost_ret (v := ptV (q1, q2)) (by simp [results, Try.results42, go_sem, c1, c2]) rfl ⟨rfl, (HB.out.setCell (p := ⟨w.heap.size + 1 + 1, 0, none⟩) (by show w.heap.size ≤ w.heap.size + 1 + 1; omega) _).setCell (p := ⟨w.heap.size + 1 + 1, 1, none⟩) (by show w.heap.size ≤ w.heap.size + 1 + 1; omega) _⟩

set_option maxRecDepth 20000 in
set_option maxHeartbeats 4000000 in
theorem later_any (p q : Pt) (w : World) : Calls Try.prog 41 #[ptV p, ptV q] w fun e w' => e = .returned (ptV (laterP p q)) ∧ Below w.heap.size w w' := by
  have HL := Lib.hid (fun W => lex_any p.1 p.2 q.1 q.2 W)
  have HR : Hid (laterP p q = if lexP p q > 0 then p else q) := rfl
  obtain ⟨p1, p2⟩ := p
  obtain ⟨q1, q2⟩ := q
  generalize laterP (p1, p2) (q1, q2) = r at HR ⊢
  obtain ⟨l, hl⟩ : ∃ l, l = lexP (p1, p2) (q1, q2) := ⟨_, rfl⟩
  simp only [← hl] at HL HR
  clear hl
  obtain ⟨m1, m2, m3, m4, m5⟩ := made3 w (.cells #[.int .i64 p1, .int .i64 p2] 35) (.cells #[.int .i64 q1, .int .i64 q2] 35) (.cells #[.int .i64 0, .int .i64 0] 35)
  have M1 := Lib.hid m1
  have M2 := Lib.hid m2
  have M3 := Lib.hid m3
  have M4 := Lib.hid m4
  have M5 := Lib.hid m5
  clear m1 m2 m3 m4 m5
  go_enter Try.func41, Try.ntmps41
  go_wp2_with fail
  refine (HL.out _).mono ?_
  rintro e w2 ⟨rfl, hb⟩
  obtain ⟨a1, a2, a3, a4⟩ := own2 ((hb.block _ (by rw [M5.out]; omega)).trans M1.out)
  obtain ⟨b1, b2, b3, b4⟩ := own2 ((hb.block _ (by rw [M5.out]; omega)).trans M2.out)
  obtain ⟨c1, c2, c3, c4⟩ := own2 ((hb.block _ (by rw [M5.out]; omega)).trans M3.out)
  have HB := Lib.hid (M4.out.trans (hb.mono (by rw [M5.out]; omega)))
  clear hb M1 M2 M3 M4 M5 HL
  by_cases h : l > 0
  · rw [if_pos h] at HR
    obtain rfl : r = (p1, p2) := HR
    go_wp2_with fail
    exact bodyPost_ret (v := ptV (p1, p2)) (by simp [results, Try.results41, go_sem, c1, c2]) rfl ⟨rfl, (HB.out.setCell (p := ⟨w.heap.size + 1 + 1, 0, none⟩) (by show w.heap.size ≤ w.heap.size + 1 + 1; omega) _).setCell (p := ⟨w.heap.size + 1 + 1, 1, none⟩) (by show w.heap.size ≤ w.heap.size + 1 + 1; omega) _⟩
  · rw [if_neg h] at HR
    obtain rfl : r = (q1, q2) := HR
    go_wp2_with fail
    exact bodyPost_ret (v := ptV (q1, q2)) (by simp [results, Try.results41, go_sem, c1, c2]) rfl ⟨rfl, (HB.out.setCell (p := ⟨w.heap.size + 1 + 1, 0, none⟩) (by show w.heap.size ≤ w.heap.size + 1 + 1; omega) _).setCell (p := ⟨w.heap.size + 1 + 1, 1, none⟩) (by show w.heap.size ≤ w.heap.size + 1 + 1; omega) _⟩

/-- A number of at most two million in size, of both coordinates. -/
theorem tw {x y : Int} (h1 : -1000000 ≤ x) (h2 : x ≤ 1000000) (h3 : -1000000 ≤ y) (h4 : y ≤ 1000000) : two (x - y) := by unfold two; omega
set_option maxHeartbeats 1000000 in
theorem turn_any (a b c : Pt) (ha : InP a) (hb : InP b) (hc : InP c) (w : World) : Calls Try.prog 30 #[ptV a, ptV b, ptV c] w fun e w' => e = .returned (.int .i64 (trn a b c)) ∧ Below w.heap.size w w' := by
  have H64 := Lib.hid (fun m n W => cmp64 m n W)
  have HT : Hid (trn a b c = cmpI ((b.1 - a.1) * (c.2 - a.2)) ((b.2 - a.2) * (c.1 - a.1))) := rfl
  generalize trn a b c = r at HT ⊢
  obtain ⟨a1, a2⟩ := a
  obtain ⟨b1, b2⟩ := b
  obtain ⟨c1, c2⟩ := c
  simp only [InP] at ha hb hc HT
  obtain ⟨x1, x2, x3, x4⟩ := ha
  obtain ⟨y1, y2, y3, y4⟩ := hb
  obtain ⟨z1, z2, z3, z4⟩ := hc
  have p1 := two_mul (tw y1 y2 x1 x2) (tw z3 z4 x3 x4)
  have p2 := two_mul (tw y3 y4 x3 x4) (tw z1 z2 x1 x2)
  have e1 : wrap64 (b1 - a1) = b1 - a1 := IntWalk.wrap64_in _ (by omega)
  have e2 : wrap64 (c2 - a2) = c2 - a2 := IntWalk.wrap64_in _ (by omega)
  have e3 : wrap64 (b2 - a2) = b2 - a2 := IntWalk.wrap64_in _ (by omega)
  have e4 : wrap64 (c1 - a1) = c1 - a1 := IntWalk.wrap64_in _ (by omega)
  have e5 : wrap64 ((b1 - a1) * (c2 - a2)) = (b1 - a1) * (c2 - a2) := IntWalk.wrap64_in _ (by omega)
  have e6 : wrap64 ((b2 - a2) * (c1 - a1)) = (b2 - a2) * (c1 - a1) := IntWalk.wrap64_in _ (by omega)
  clear p1 p2 x1 x2 x3 x4 y1 y2 y3 y4 z1 z2 z3 z4
  go_enter Try.func30, Try.ntmps30
  go_wp2_with fail
  refine (H64.out _ _ _).mono ?_
  rintro e w2 ⟨rfl, rfl⟩
  go_wp2_with fail
  go_ret
  rw [HT.out]
  exact ⟨rfl, below3 _ _ _ _⟩
end Go.Proofs.Ytdbcflgacjgdoaa
