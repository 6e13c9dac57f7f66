/- Rows of intervals that a call owns; append of intervals; the library's Grow and Concat at intervals. -/
import Derived.Test.YtbhkbhaepefdgaaDoorSpD
import Derived.Test.YtbhkbhaepefdgaaDoorLay
import Derived.Laws.AppendOwnNone
namespace Go.Proofs.YtbhkbhaepefdgaaDoor
open Go.RowKit

theorem cellsIv_length (xs : List Iv) : (cellsIv xs).length = xs.length * 2 := by
  induction xs with
  | nil => rfl
  | cons x xs ih => simp only [cellsIv, List.flatMap_cons, List.length_append, List.length_cons] at ih ⊢; rw [ih]; simp [encIv]; omega
theorem cellsIv_append (xs ys : List Iv) : cellsIv (xs ++ ys) = cellsIv xs ++ cellsIv ys := by simp [cellsIv]
theorem cellsIv_cons (x : Iv) (xs : List Iv) : cellsIv (x :: xs) = .int .i64 x.1 :: .int .i64 x.2 :: cellsIv xs := rfl
theorem cellsIv_get : ∀ (xs : List Iv) (k : Nat), k < xs.length → (cellsIv xs)[k * 2]? = some (.int .i64 (xs.getD k (0, 0)).1) ∧ (cellsIv xs)[k * 2 + 1]? = some (.int .i64 (xs.getD k (0, 0)).2)
  | [], k, h => absurd h (Nat.not_lt_zero k)
  | x :: xs, 0, _ => ⟨rfl, rfl⟩
  | x :: xs, k + 1, h => by
    have := cellsIv_get xs k (by simpa using h)
    rw [cellsIv_cons, show (k + 1) * 2 = k * 2 + 1 + 1 by omega]
    simpa using this
theorem cellsIv_one (xs : List Iv) : ∀ u ∈ cellsIv xs, u.oneCell' = true := by
  intro u hu
  obtain ⟨x, _, h⟩ := List.mem_flatMap.1 hu
  simp [encIv] at h
  rcases h with rfl | rfl <;> rfl
theorem cellsIv_idx (xs : List Iv) (j : Nat) (u : Value) (h : (cellsIv xs)[j]? = some u) : ∃ k, k < xs.length ∧ ((j = k * 2 ∧ u = .int .i64 (xs.getD k (0, 0)).1) ∨ (j = k * 2 + 1 ∧ u = .int .i64 (xs.getD k (0, 0)).2)) := by
  have hj : j < xs.length * 2 := by rw [← cellsIv_length]; exact (List.getElem?_eq_some_iff.1 h).1
  obtain ⟨k, hk | hk⟩ : ∃ k, j = k * 2 ∨ j = k * 2 + 1 := ⟨j / 2, by omega⟩
  · subst hk
    have := (cellsIv_get xs k (by omega)).1
    rw [h] at this
    exact ⟨k, by omega, .inl ⟨rfl, Option.some.inj this⟩⟩
  · subst hk
    have := (cellsIv_get xs k (by omega)).2
    rw [h] at this
    exact ⟨k, by omega, .inr ⟨rfl, Option.some.inj this⟩⟩

/-- A slice value that reads as the intervals xs. -/
def SliceIv (w : World) (B : Nat) (v : Value) (xs : List Iv) : Prop := ∃ A c, v = .slice A xs.length c ∧ (A = none → c = 0) ∧ Lies w B A xs

/-- A row that the call owns, of the intervals xs. -/
abbrev OwnIv (w : World) (base : Nat) (v : Value) (xs : List Iv) : Prop := w.ownsRow base 23 2 v xs.length (cellsIv xs)

theorem OwnIv.slice {w : World} {base : Nat} {v : Value} {xs : List Iv} (h : OwnIv w base v xs) : SliceIv w w.heap.size v xs := by
  rcases h.2 with ⟨rfl, hn⟩ | ⟨g, cap, cur, rfl, _, hg, _, _, _, ht⟩
  · obtain rfl := List.eq_nil_of_length_eq_zero hn
    exact ⟨none, 0, rfl, fun _ => rfl, fun h => absurd h (Nat.not_lt_zero _)⟩
  · refine ⟨some ⟨g, 0, none⟩, cap, rfl, (fun h => by cases h), lies_row hg (Array.getElem?_eq_some_iff.1 hg).1 fun k hk => ?_⟩
    have hc := cellsIv_get xs k hk
    rw [← ht, List.getElem?_take, List.getElem?_take, if_pos (by omega), if_pos (by omega)] at hc
    simpa using hc

theorem Lies.cells {w : World} {B : Nat} {ad : Addr} {xs : List Iv} (h : Lies w B (some ad) xs) : ∀ j u, (cellsIv xs)[j]? = some u → w.cell? (ad.add j) = some u := by
  intro j u hu
  obtain ⟨k, hk, hj⟩ := cellsIv_idx xs j u hu
  obtain ⟨g, o, hA, _, hc⟩ := h (by omega)
  injection hA with hA
  subst hA
  rcases hj with ⟨rfl, rfl⟩ | ⟨rfl, rfl⟩
  · rw [Addr.add_lit]; exact (hc k hk).1
  · rw [Addr.add_lit, ← Nat.add_assoc]; exact (hc k hk).2

theorem info_iv : (Tryd.prog.info? 23).map (fun i => (i.zero, i.size, i.bytes)) = some (some (.agg #[.int .i64 0, .int .i64 0]), 2, 16) := by kernel_rfl

/-- append of intervals, wherever they lie, onto a row of the call's own. -/
theorem wpList_append_iv {w : World} {ops : Array Oper} {rest : List Oper} {o : Oper} {a : Act} {Q : Exit → Act → World → Prop} (hgd : o.guard = none) (s x : Operand)
    (ho : o.op = .call { callee := .builtin .append, args := #[s, x], argTypes := #[29, 29] })
    (base : Nat) (v : Value) (xs : List Iv) (hs : a.eval s = v) (hown : OwnIv w base v xs)
    (B : Nat) (u : Value) (ys : List Iv) (hx : a.eval x = u) (hu : SliceIv w B u ys) (hbig : xs.length + ys.length ≤ 1000000000000) (hbase : base ≤ w.heap.size)
    (h : ∀ v' w', OwnIv w' base v' (xs ++ ys) → w.grownBy w' v.ownBlock → wpList Tryd.prog ops Q rest (a.put o.dst v') w') : wpList Tryd.prog ops Q (o :: rest) a w := by
  obtain ⟨i0, hi0, hz0, hz1, hz2⟩ := info_parts info_iv
  obtain ⟨A, c, rfl, hc, hL⟩ := hu
  cases A with
  | none =>
    obtain rfl := hc rfl
    have hy : ys = [] := by
      cases ys with
      | nil => rfl
      | cons y ys =>
        obtain ⟨_, _, hA, _⟩ := hL (by simp)
        cases hA
    subst hy
    have hown' : OwnIv w base v (xs ++ []) := by rw [List.append_nil]; exact hown
    exact wpList_append_own_none hgd s x 29 ho base 23 i0 2 Tryd.underlying29 hi0 v xs.length (cellsIv xs) hs hown hx (h v w hown' (World.grownBy.refl w _))
  | some ad =>
    refine wpList_append_own w hgd s x 29 ho base 23 i0 _ 2 16 Tryd.underlying29 hi0 hz0 hz1 hz2 rfl (by decide) v xs.length (cellsIv xs) hs hown ad ys.length c (cellsIv ys) hx (cellsIv_length ys) hL.cells (cellsIv_one ys)
      (by unfold maxLen; omega) (by omega) hbase fun v' w' h2 h3 _ => h v' w' ?_ h3
    rw [← cellsIv_append] at h2
    unfold OwnIv
    rw [List.length_append]
    exact h2

theorem zeroCells_two (n : Nat) : (Builtin.zeroCells (Value.cells (.agg #[.int .i64 0, .int .i64 0])) n).size = n * 2 := by
  simp [Builtin.zeroCells, Value.cells]

theorem grow_nil (n : Nat) (w : World) (hn : n ≤ 1000000000000) :
    Calls Tryd.prog 107 #[.slice none 0 0, .int .i64 n] w fun e w' => ∃ v, e = .returned v ∧ OwnIv w' w.heap.size v [] ∧ Below w.heap.size w w' := by
  obtain ⟨i0, hi0, hz0, hz1, hz2⟩ := info_parts info_iv
  by_cases h0 : n = 0
  · subst h0
    have h := Any8.slices_Grow_room Tryd.growIv none 0 0 0 w (Nat.le_refl _) (by omega) (by omega) (by omega)
    change Calls Tryd.prog 107 _ _ _ at h
    refine h.mono ?_
    rintro e w' ⟨rfl, rfl⟩
    exact ⟨_, rfl, World.ownsRow_nil _ _ _ _, Below.refl _ _⟩
  · have h := Any8.slices_Grow_grow Tryd.growIv i0 _ hi0 hz0 (by omega) none 0 0 n [] w (Nat.le_refl _) (by omega) (by rw [hz2]; omega) (by omega) (by simp) (fun _ => rfl) (fun a ha => by cases ha)
    change Calls Tryd.prog 107 _ _ _ at h
    refine h.mono ?_
    rintro e w' ⟨rfl, rfl⟩
    refine ⟨_, rfl, ?_, (Below.refl _ _).drew.alloc (Nat.le_refl _) _⟩
    refine World.ownsRow_made w.drew _ _ (Nat.le_refl _) (grownCap_le_maxLen _ _ _ _ (by unfold maxLen; omega)) ?_
    have := grownCap_ge w (0 + n) 0 23
    simp only [Array.size_append, zeroCells_two]
    show 0 + (0 + n - 0) * 2 + (grownCap w (0 + n) 0 23 - (0 + n)) * 2 = grownCap w (0 + n) 0 23 * 2
    omega
end Go.Proofs.YtbhkbhaepefdgaaDoor
