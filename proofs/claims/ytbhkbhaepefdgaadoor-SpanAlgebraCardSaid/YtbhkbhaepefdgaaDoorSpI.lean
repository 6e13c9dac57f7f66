/- checkLists, Lists, Normalize, Count, Add. -/
import Derived.Test.YtbhkbhaepefdgaaDoorSpH
namespace Go.Proofs.YtbhkbhaepefdgaaDoor
open Go.RowKit

theorem LiesLL.one {w : World} {B : Nat} {v : Value} {xs : List Iv} (h : SliceIv w B v xs) (hB : B ≤ w.heap.size) (t : TypeId) (g : Nat) (hg : w.heap.size = g) : LiesLL (w.alloc (.cells #[v] t)) (g + 1) (some ⟨g, 0, none⟩) [(v, xs)] := fun _ => by
  subst hg
  refine ⟨_, _, rfl, by omega, fun k hk => ?_⟩
  have : k = 0 := by simpa using hk
  subst this
  refine ⟨?_, ?_⟩
  · rw [cell_of_row _ _ _ _ t (0, 0) (heap_alloc_new w _)]; rfl
  · exact (h.below ((Below.refl B w).alloc hB _) (Nat.le_refl _)).more (by omega)
theorem LiesLL.two {w : World} {B : Nat} {v u : Value} {xs ys : List Iv} (h : SliceIv w B v xs) (h' : SliceIv w B u ys) (hB : B ≤ w.heap.size) (t : TypeId) (g : Nat) (hg : w.heap.size = g) : LiesLL (w.alloc (.cells #[v, u] t)) (g + 1) (some ⟨g, 0, none⟩) [(v, xs), (u, ys)] := fun _ => by
  subst hg
  refine ⟨_, _, rfl, by omega, fun k hk => ?_⟩
  have : k = 0 ∨ k = 1 := by simp at hk; omega
  rcases this with rfl | rfl
  · refine ⟨?_, ?_⟩
    · rw [cell_of_row _ _ _ _ t (0, 0) (heap_alloc_new w _)]; rfl
    · exact (h.below ((Below.refl B w).alloc hB _) (Nat.le_refl _)).more (by omega)
  · refine ⟨?_, ?_⟩
    · rw [cell_of_row _ _ _ _ t (0, 0) (heap_alloc_new w _)]; rfl
    · exact (h'.below ((Below.refl B w).alloc hB _) (Nat.le_refl _)).more (by omega)
theorem catL_one (v : Value) (xs : List Iv) : catL [(v, xs)] = xs := by simp [catL]
theorem catL_two (v u : Value) (xs ys : List Iv) : catL [(v, xs), (u, ys)] = xs ++ ys := by simp [catL]

theorem own_checkAll {w w1 : World} {v : Value} {xs : List Iv} (h : OwnIv w1 w.heap.size v xs) (hm : xs.length ≤ 9223372036854775807) :
    Calls Tryd.prog 46 #[v] w1 fun e w' => e = .returned (.int .i64 (errAll xs)) ∧ Below w1.heap.size w1 w' := by
  obtain ⟨A, c, rfl, _, hL⟩ := OwnIv.slice h
  exact checkAll_any xs A c w1.heap.size w1 hL (Nat.le_refl _) hm
theorem own_refAll {w w1 : World} {v : Value} {xs : List Iv} (h : OwnIv w1 w.heap.size v xs) (hm : xs.length ≤ 9223372036854775807) :
    Calls Tryd.prog 50 #[v] w1 fun e w' => e = .returned (.int .i64 (errAll xs)) ∧ Below w1.heap.size w1 w' := by
  obtain ⟨A, c, rfl, _, hL⟩ := OwnIv.slice h
  exact refAll_any xs A c w1.heap.size w1 hL (Nat.le_refl _) hm

set_option maxHeartbeats 1000000 in
theorem checkLists_any (L : List (Value × List Iv)) (A : Option Addr) (c B : Nat) (w : World) (hL : LiesLL w B A L) (hB : B ≤ w.heap.size) (hm : L.length ≤ 1000000) (hbig : (catL L).length ≤ 1000000) (hs : ∀ e ∈ L, e.2.length ≤ 10000) :
    Calls Tryd.prog 52 #[.slice A L.length c] w fun e w' => e = .returned (.int .i64 (errAll (catL L))) ∧ Below w.heap.size w w' := by
  have HL := Lib.hid hL
  have HZ := Lib.hid hs
  clear hL hs
  go_enter Tryd.func52, Tryd.ntmps52
  go_wp2_with fail
  go_loop [7] (fun i => ∃ k : Nat, k ≤ L.length ∧ i = .int .i64 k) (fun i => L.length - (intOf i).toNat)
  case atStart => exact ⟨0, Nat.zero_le _, rfl⟩
  case round =>
    obtain ⟨k, hk, rfl⟩ := hrel
    by_cases hlt : k < L.length
    · obtain ⟨g, o, rfl, hg, hcell⟩ := HL.out (by omega)
      obtain ⟨c1, hs⟩ := hcell k hlt
      clear hcell
      have hle : (L.getD k (.slice none 0 0, [])).2.length ≤ 10000 := by
        refine HZ.out _ ?_
        rw [List.getD_eq_getElem?_getD, List.getElem?_eq_getElem hlt]
        exact List.getElem_mem hlt
      generalize L.getD k (.slice none 0 0, []) = e at c1 hs hle
      obtain ⟨v, ys⟩ := e
      simp only at c1 hs hle
      obtain ⟨A', c', rfl, hc', hL'⟩ := hs
      clear hL' hc'
      go_wp2_with fail
      go_round
      case rel => exact ⟨k + 1, by omega, by go_num⟩
      case measure => simp [intOf]; omega
    · have hkn : k = L.length := by omega
      subst hkn
      go_wp2_with fail
      refine (concat_any L A c B w HL.out hB hm (by omega)).mono ?_
      rintro e w1 ⟨v0, rfl, hown0, hb0⟩
      have HO0 := Lib.hid hown0
      clear hown0
      go_wp2_with fail
      refine (own_checkAll HO0.out (by omega)).mono ?_
      rintro e w2 ⟨rfl, hb1⟩
      go_wp2_with fail
      go_ret
      exact ⟨rfl, hb0.trans (hb1.mono hb0.size)⟩

set_option maxHeartbeats 1000000 in
theorem lists_any (v u : Value) (xs ys : List Iv) (B : Nat) (w : World) (hx : SliceIv w B v xs) (hy : SliceIv w B u ys) (hB : B ≤ w.heap.size) (h1 : xs.length ≤ 10000) (h2 : ys.length ≤ 10000) :
    Calls Tryd.prog 57 #[v, u] w fun e w' => e = .returned (.int .i64 (errAll (xs ++ ys))) ∧ Below w.heap.size w w' := by
  have HX := Lib.hid hx
  have HY := Lib.hid hy
  obtain ⟨A, c, rfl, _, _⟩ := hx
  obtain ⟨A', c', rfl, _, _⟩ := hy
  go_enter Tryd.func57, Tryd.ntmps57
  go_wp2_with (at_builtin; refine wpList_append_iv rfl (.tmp 13) (.tmp 14) rfl w.heap.size _ [] rfl ?c1 B _ xs rfl ?c2 ?c3 ?c4 ?_)
  case c1 => exact World.ownsRow_made w #[] 0 (Nat.le_refl _) (by unfold maxLen; omega) rfl
  case c2 => exact HX.out.below ((Below.refl _ _).alloc (Nat.le_refl _) _) hB
  case c3 => simp; omega
  case c4 => simp
  intro v1 w1 hown1 hg1
  have hb1 : Below w.heap.size w w1 := ((Below.refl _ _).alloc (Nat.le_refl _) _).grown hg1 (by simp) (fun k hk => by simp [Value.ownBlock] at hk; omega)
  have HO := Lib.hid hown1
  clear hown1 hg1
  go_wp2_with (at_builtin; refine wpList_append_iv rfl (.tmp 15) (.tmp 16) rfl w.heap.size _ xs rfl ?d1 B _ ys rfl ?d2 ?d3 ?d4 ?_)
  case d1 => exact HO.out
  case d2 => exact HY.out.below hb1 hB
  case d3 => omega
  case d4 => exact hb1.size
  intro v2 w2 hown2 hg2
  have hb2 : Below w.heap.size w w2 := hb1.grown hg2 hb1.size (fun k hk => (HO.out.lt k hk).1)
  have HO2 := Lib.hid hown2
  clear hown2 hg2
  go_wp2_with fail
  refine (own_refAll HO2.out (by rw [List.length_append]; omega)).mono ?_
  rintro e w3 ⟨rfl, hb3⟩
  go_wp2_with fail
  go_ret
  exact ⟨rfl, hb2.trans (hb3.mono hb2.size)⟩

set_option maxHeartbeats 1000000 in
theorem normalize_ok (v : Value) (xs : List Iv) (B : Nat) (w : World) (hx : SliceIv w B v xs) (hB : B ≤ w.heap.size) (h1 : xs.length ≤ 10000) (he : errAll xs = 0) :
    Calls Tryd.prog 21 #[v] w fun e w' => ∃ u zs, e = .returned (.tuple #[u, .int .i64 0]) ∧ NF zs ∧ (∀ n, memL n zs ↔ memL n xs) ∧ zs.length ≤ xs.length ∧ OwnIv w' w.heap.size u zs ∧ Below w.heap.size w w' := by
  have HX := Lib.hid hx
  have HE := Lib.hid he
  have HK := Lib.hid (errAll_zero.1 he)
  clear he
  obtain ⟨A, c, rfl, _, _⟩ := hx
  go_enter Tryd.func21, Tryd.ntmps21
  go_wp2_with fail
  refine (checkLists_any [(_, xs)] _ _ (w.heap.size + 1) _ (LiesLL.one HX.out hB _ _ rfl) (by simp) (by simp) (by rw [catL_one]; omega) (by simpa using h1)).mono ?_
  rw [catL_one, HE.out]
  rintro e w1 ⟨rfl, hb1⟩
  have hb1' : Below w.heap.size w w1 := ((Below.refl _ _).alloc (Nat.le_refl _) _).trans (hb1.mono (by simp))
  go_wp2_with fail
  refine (normal_any [(_, xs)] _ _ (w1.heap.size + 1) _ (LiesLL.one (HX.out.below hb1' hB) (by have := hb1'.size; omega) _ _ rfl) (by simp) (by simp) (by rw [catL_one]; omega) (by rw [catL_one]; exact HK.out)).mono ?_
  rw [catL_one]
  rintro e w2 ⟨u, zs, rfl, n1, n2, n3, hown, hb2⟩
  have hb2' : Below w.heap.size w w2 := (hb1'.alloc hb1'.size _).trans (hb2.mono (by have := hb1'.size; simp; omega))
  have HO := Lib.hid hown
  have HN := Lib.hid (And.intro n1 n2)
  clear hown n1 n2
  go_wp2_with fail
  go_ret2
  refine ⟨u, zs, rfl, HN.out.1, HN.out.2, n3, ?_, hb2'⟩
  obtain ⟨o1, o2⟩ := HO.out
  refine ⟨o1, o2.imp id ?_⟩
  rintro ⟨g, cap, cur, e1, e2, e3⟩
  exact ⟨g, cap, cur, e1, by have := hb1'.size; simp at e2; omega, e3⟩

set_option maxHeartbeats 1000000 in
theorem normalize_err (v : Value) (xs : List Iv) (B : Nat) (w : World) (hx : SliceIv w B v xs) (hB : B ≤ w.heap.size) (h1 : xs.length ≤ 10000) (he : errAll xs ≠ 0) :
    Calls Tryd.prog 21 #[v] w fun e w' => e = .returned (.tuple #[.slice none 0 0, .int .i64 (errAll xs)]) ∧ Below w.heap.size w w' := by
  have HX := Lib.hid hx
  have hne : (errAll xs != 0) = true := by simp [he]
  clear he
  obtain ⟨x, hxe⟩ : ∃ x, x = errAll xs := ⟨_, rfl⟩
  rw [← hxe] at hne ⊢
  have HE := Lib.hid hxe
  clear hxe
  obtain ⟨A, c, rfl, _, _⟩ := hx
  go_enter Tryd.func21, Tryd.ntmps21
  go_wp2_with fail
  refine (checkLists_any [(_, xs)] _ _ (w.heap.size + 1) _ (LiesLL.one HX.out hB _ _ rfl) (by simp) (by simp) (by rw [catL_one]; omega) (by simpa using h1)).mono ?_
  rw [catL_one, ← HE.out]
  rintro e w1 ⟨rfl, hb1⟩
  have hb1' : Below w.heap.size w w1 := ((Below.refl _ _).alloc (Nat.le_refl _) _).trans (hb1.mono (by simp))
  go_wp2_with fail
  go_ret2
  exact ⟨rfl, hb1'⟩
end Go.Proofs.YtbhkbhaepefdgaaDoor
