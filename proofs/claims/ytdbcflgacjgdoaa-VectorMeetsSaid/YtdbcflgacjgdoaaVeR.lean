/- Contracts of layer 3: Turn, Meet. -/
import Derived.Test.YtdbcflgacjgdoaaVeQ
namespace Go.Proofs.Ytdbcflgacjgdoaa
open Go.RowKit

theorem liesP_row {w : World} {g B : Nat} {cur : Array Value} {t : TypeId} {r : Nat × Nat} (h : w.heap[g]? = some (.cells cur t r)) (hg : g < B) {xs : List Pt}
    (hc : ∀ k, k < xs.length → cur[k * 2]? = some (.int .i64 (xs.getD k (0, 0)).1) ∧ cur[k * 2 + 1]? = some (.int .i64 (xs.getD k (0, 0)).2)) : LiesP w B (some ⟨g, 0, none⟩) xs :=
  ⟨g, 0, rfl, hg, fun k hk => by
    rw [Nat.zero_add, cell_of_row w g _ cur t r h, cell_of_row w g _ cur t r h]
    exact hc k hk⟩
theorem errP_three (a b c : Pt) : errP [a, b, c] = if inP a && inP b && inP c then 0 else 6 := by simp [errP, Bool.and_assoc]
theorem errP_four (a b c d : Pt) : errP [a, b, c, d] = if inP a && inP b && inP c && inP d then 0 else 6 := by simp [errP, Bool.and_assoc]
abbrev row6 (a b c : Pt) (t : TypeId) : Obj := .cells #[.int .i64 a.1, .int .i64 a.2, .int .i64 b.1, .int .i64 b.2, .int .i64 c.1, .int .i64 c.2] t
abbrev row8 (a b c d : Pt) (t : TypeId) : Obj := .cells #[.int .i64 a.1, .int .i64 a.2, .int .i64 b.1, .int .i64 b.2, .int .i64 c.1, .int .i64 c.2, .int .i64 d.1, .int .i64 d.2] t
theorem ckP3 (a b c : Pt) (g : Nat) (W : World) (t : TypeId) (hg : W.heap.size = g) :
    Calls Try.prog 29 #[.slice (some ⟨g, 0, none⟩) 3 3] (W.alloc (row6 a b c t)) fun e w' => e = .returned (.int .i64 (if inP a && inP b && inP c then 0 else 6)) ∧ Below (W.heap.size + 1) (W.alloc (row6 a b c t)) w' := by
  have hl : LiesP (W.alloc (row6 a b c t)) (g + 1) (some ⟨g, 0, none⟩) [a, b, c] := by
    subst hg
    refine liesP_row (heap_alloc_new W _) (by omega) fun k hk => ?_
    have : k = 0 ∨ k = 1 ∨ k = 2 := by simp at hk; omega
    rcases this with rfl | rfl | rfl <;> exact ⟨rfl, rfl⟩
  have h := checkP_any [a, b, c] (some ⟨g, 0, none⟩) 3 (g + 1) _ hl (by rw [szA]; omega) (by simp)
  rw [errP_three, szA] at h
  exact h
theorem ckP4 (a b c d : Pt) (g : Nat) (W : World) (t : TypeId) (hg : W.heap.size = g) :
    Calls Try.prog 29 #[.slice (some ⟨g, 0, none⟩) 4 4] (W.alloc (row8 a b c d t)) fun e w' => e = .returned (.int .i64 (if inP a && inP b && inP c && inP d then 0 else 6)) ∧ Below (W.heap.size + 1) (W.alloc (row8 a b c d t)) w' := by
  have hl : LiesP (W.alloc (row8 a b c d t)) (g + 1) (some ⟨g, 0, none⟩) [a, b, c, d] := by
    subst hg
    refine liesP_row (heap_alloc_new W _) (by omega) fun k hk => ?_
    have : k = 0 ∨ k = 1 ∨ k = 2 ∨ k = 3 := by simp at hk; omega
    rcases this with rfl | rfl | rfl | rfl <;> exact ⟨rfl, rfl⟩
  have h := checkP_any [a, b, c, d] (some ⟨g, 0, none⟩) 4 (g + 1) _ hl (by rw [szA]; omega) (by simp)
  rw [errP_four, szA] at h
  exact h

set_option maxRecDepth 20000 in
set_option maxHeartbeats 4000000 in
theorem turn3_ok (a b c : Pt) (ha : inP a = true) (hb : inP b = true) (hc : inP c = true) (w : World) : Calls Try.prog 21 #[ptV a, ptV b, ptV c] w fun e w' => e = .returned (.tuple #[.int .i64 (trn a b c), .int .i64 0]) ∧ Below w.heap.size w w' := by
  have HC := Lib.hid (fun g W t hg => ckP3 a b c g W t hg)
  rw [ha, hb, hc, Bool.and_self, Bool.and_self, if_pos rfl] at HC
  have HT := Lib.hid (fun W => turn_any a b c ((inP_iff a).1 ha) ((inP_iff b).1 hb) ((inP_iff c).1 hc) W)
  obtain ⟨a1, a2⟩ := a
  obtain ⟨b1, b2⟩ := b
  obtain ⟨c1, c2⟩ := c
  clear ha hb hc
  obtain ⟨m1, m2, m3, m4, m5⟩ := made3 w (.cells #[.int .i64 a1, .int .i64 a2] 35) (.cells #[.int .i64 b1, .int .i64 b2] 35) (.cells #[.int .i64 c1, .int .i64 c2] 35)
  have M1 := Lib.hid m1
  have M2 := Lib.hid m2
  have M3 := Lib.hid m3
  have M4 := Lib.hid m4
  have M5 := Lib.hid m5
  clear m1 m2 m3 m4 m5
  go_enter Try.func21, Try.ntmps21
  go_wp2_with fail
  refine (HC.out _ _ _ (by simp)).mono ?_
  rintro e w1 ⟨rfl, hb1⟩
  have hb2 := Below.trans ((Below.refl _ _).alloc (Nat.le_refl _) _) (hb1.mono (by omega))
  obtain ⟨e1, e2, _, _⟩ := own2 ((hb2.block _ (by rw [M5.out]; omega)).trans M1.out)
  obtain ⟨e3, e4, _, _⟩ := own2 ((hb2.block _ (by rw [M5.out]; omega)).trans M2.out)
  obtain ⟨e5, e6, _, _⟩ := own2 ((hb2.block _ (by rw [M5.out]; omega)).trans M3.out)
  have HB := Lib.hid (M4.out.trans (hb2.mono (by rw [M5.out]; omega)))
  clear hb1 hb2 M1 M2 M3 M4 M5
  go_wp2_with fail
  refine (HT.out _).mono ?_
  rintro e w2 ⟨rfl, hb3⟩
  go_wp2_with fail
  exact bodyPost_ret (v := .tuple #[.int .i64 (trn (a1, a2) (b1, b2) (c1, c2)), .int .i64 0]) (by simp [results, Try.results21, go_sem]) rfl ⟨rfl, HB.out.trans (hb3.mono HB.out.size)⟩
set_option maxRecDepth 20000 in
set_option maxHeartbeats 4000000 in
theorem turn3_bad (a b c : Pt) (h : (inP a && inP b && inP c) = false) (w : World) : Calls Try.prog 21 #[ptV a, ptV b, ptV c] w fun e w' => e = .returned (.tuple #[.int .i64 0, .int .i64 6]) ∧ Below w.heap.size w w' := by
  have HC := Lib.hid (fun g W t hg => ckP3 a b c g W t hg)
  rw [h, if_neg (by simp)] at HC
  clear h
  have HM := Lib.hid (fun t => made3 w (.cells #[.int .i64 a.1, .int .i64 a.2] t) (.cells #[.int .i64 b.1, .int .i64 b.2] t) (.cells #[.int .i64 c.1, .int .i64 c.2] t))
  go_enter Try.func21, Try.ntmps21
  go_wp2_with fail
  refine (HC.out _ _ _ (by simp)).mono ?_
  rintro e w1 ⟨rfl, hb1⟩
  have HB := Lib.hid (((HM.out 35).2.2.2.1.alloc (HM.out 35).2.2.2.1.size _).trans (hb1.mono (by have := (HM.out 35).2.2.2.1.size; omega)))
  clear hb1 HM
  go_wp2_with fail
  exact bodyPost_ret (v := .tuple #[.int .i64 0, .int .i64 6]) (by simp [results, Try.results21, go_sem]) rfl ⟨rfl, HB.out⟩

set_option maxRecDepth 20000 in
set_option maxHeartbeats 4000000 in
theorem meet4_bad (a b c d : Pt) (h : (inP a && inP b && inP c && inP d) = false) (w : World) : Calls Try.prog 15 #[ptV a, ptV b, ptV c, ptV d] w fun e w' => e = .returned (.tuple #[.int .i64 0, .int .i64 6]) ∧ Below w.heap.size w w' := by
  have HC := Lib.hid (fun g W t hg => ckP4 a b c d g W t hg)
  rw [h, if_neg (by simp)] at HC
  clear h
  have HM := Lib.hid (fun t => made4 w (.cells #[.int .i64 a.1, .int .i64 a.2] t) (.cells #[.int .i64 b.1, .int .i64 b.2] t) (.cells #[.int .i64 c.1, .int .i64 c.2] t) (.cells #[.int .i64 d.1, .int .i64 d.2] t))
  go_enter Try.func15, Try.ntmps15
  go_wp2_with fail
  refine (HC.out _ _ _ (by simp)).mono ?_
  rintro e w1 ⟨rfl, hb1⟩
  have HB := Lib.hid (((HM.out 35).2.2.2.2.1.alloc (HM.out 35).2.2.2.2.1.size _).trans (hb1.mono (by have := (HM.out 35).2.2.2.2.1.size; omega)))
  clear hb1 HM
  go_wp2_with fail
  exact bodyPost_ret (v := .tuple #[.int .i64 0, .int .i64 6]) (by simp [results, Try.results15, go_sem]) rfl ⟨rfl, HB.out⟩
end Go.Proofs.Ytdbcflgacjgdoaa
