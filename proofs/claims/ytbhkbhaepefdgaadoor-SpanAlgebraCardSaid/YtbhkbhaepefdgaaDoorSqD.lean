/- add of the reference: a number put into an increasing row. -/
import Derived.Test.YtbhkbhaepefdgaaDoorSpJ
import Derived.Test.YtbhkbhaepefdgaaDoorSpX
import Derived.Deep.RegionHeld3
import Derived.Maps.AppendAt
namespace Go.Proofs.YtbhkbhaepefdgaaDoor
open Go.RowKit

def LiesN (w : World) (B : Nat) (A : Option Addr) (zs : List Int) : Prop :=
  0 < zs.length → ∃ g o, A = some ⟨g, o, none⟩ ∧ g < B ∧ ∀ k, k < zs.length → w.cell? ⟨g, o + k, none⟩ = some (.int .i64 (zs.getD k 0))
theorem LiesN.below {w w' : World} {B B' : Nat} {A : Option Addr} {zs : List Int} (h : LiesN w B A zs) (hb : Below B' w w') (hB : B ≤ B') : LiesN w' B A zs := fun hn => by
  obtain ⟨g, o, hA, hg, hc⟩ := h hn
  exact ⟨g, o, hA, hg, fun k hk => (hb.cell (p := ⟨g, _, none⟩) (by show g < B'; omega)).trans (hc k hk)⟩
theorem LiesN.more {w : World} {B B' : Nat} {A : Option Addr} {zs : List Int} (h : LiesN w B A zs) (hB : B ≤ B') : LiesN w B' A zs := fun hn => by
  obtain ⟨g, o, hA, hg, hc⟩ := h hn
  exact ⟨g, o, hA, by omega, hc⟩
/-- A slice value that reads as the numbers zs. -/
def SliceN (w : World) (B : Nat) (v : Value) (zs : List Int) : Prop := ∃ A c, v = .slice A zs.length c ∧ zs.length ≤ c ∧ ((A = none ∧ c = 0) ∨ ∃ g o, A = some ⟨g, o, none⟩) ∧ LiesN w B A zs
theorem SliceN.below {w w' : World} {B B' : Nat} {v : Value} {zs : List Int} (h : SliceN w B v zs) (hb : Below B' w w') (hB : B ≤ B') : SliceN w' B v zs := by
  obtain ⟨A, c, hv, h1, h2, hL⟩ := h
  exact ⟨A, c, hv, h1, h2, hL.below hb hB⟩
theorem SliceN.more {w : World} {B B' : Nat} {v : Value} {zs : List Int} (h : SliceN w B v zs) (hB : B ≤ B') : SliceN w B' v zs := by
  obtain ⟨A, c, hv, h1, h2, hL⟩ := h
  exact ⟨A, c, hv, h1, h2, hL.more hB⟩
def cellsZ (zs : List Int) : List Value := zs.map fun z => .int .i64 z
abbrev OwnN (w : World) (base : Nat) (v : Value) (zs : List Int) : Prop := w.ownsRow base 3 1 v zs.length (cellsZ zs)
theorem cellsZ_length (zs : List Int) : (cellsZ zs).length = zs.length := by simp [cellsZ]
theorem cellsZ_append (xs ys : List Int) : cellsZ (xs ++ ys) = cellsZ xs ++ cellsZ ys := by simp [cellsZ]
theorem cellsZ_get (zs : List Int) (k : Nat) (h : k < zs.length) : (cellsZ zs)[k]? = some (.int .i64 (zs.getD k 0)) := by simp [cellsZ, List.getD, h]
theorem cellsZ_one (zs : List Int) : ∀ u ∈ cellsZ zs, u.oneCell' = true := by
  intro u hu
  simp [cellsZ] at hu
  obtain ⟨z, _, rfl⟩ := hu
  rfl
theorem OwnN.slice {w : World} {base : Nat} {v : Value} {zs : List Int} (h : OwnN w base v zs) : SliceN w w.heap.size v zs := by
  rcases h.2 with ⟨rfl, hn⟩ | ⟨g, cap, cur, rfl, _, hg, h1, h2, h3, ht⟩
  · obtain rfl := List.eq_nil_of_length_eq_zero hn
    exact ⟨none, 0, rfl, Nat.le_refl _, .inl ⟨rfl, rfl⟩, fun h => absurd h (Nat.not_lt_zero _)⟩
  · refine ⟨some ⟨g, 0, none⟩, cap, rfl, by omega, .inr ⟨g, 0, rfl⟩, fun hp => ⟨g, 0, rfl, (Array.getElem?_eq_some_iff.1 hg).1, fun k hk => ?_⟩⟩
    have hc := cellsZ_get zs k hk
    rw [← ht, List.getElem?_take, if_pos (by omega)] at hc
    rw [Nat.zero_add, cell_of_row w g _ cur _ _ hg]
    simpa using hc
theorem LiesN.cells {w : World} {B : Nat} {ad : Addr} {zs : List Int} (h : LiesN w B (some ad) zs) : ∀ j u, (cellsZ zs)[j]? = some u → w.cell? (ad.add j) = some u := by
  intro j u hu
  have hj : j < zs.length := by rw [← cellsZ_length]; exact (List.getElem?_eq_some_iff.1 hu).1
  rw [cellsZ_get zs j hj] at hu
  obtain ⟨g, o, hA, _, hc⟩ := h (by omega)
  injection hA with hA
  subst hA
  rw [Addr.add_lit, hc j hj, hu]
theorem info_n : (Tryd.prog.info? 3).map (fun i => (i.zero, i.size, i.bytes)) = some (some (.int .i64 0), 1, 8) := by kernel_rfl

/-- append of numbers, wherever they lie, onto a row of the call's own. -/
theorem wpList_append_n {w : World} {ops : Array Oper} {rest : List Oper} {o : Oper} {a : Act} {Q : Exit → Act → World → Prop} (hgd : o.guard = none) (s x : Operand)
    (ho : o.op = .call { callee := .builtin .append, args := #[s, x], argTypes := #[116, 116] })
    (base : Nat) (v : Value) (xs : List Int) (hs : a.eval s = v) (hown : OwnN w base v xs)
    (B : Nat) (u : Value) (ys : List Int) (hx : a.eval x = u) (hu : SliceN w B u ys) (hbig : xs.length + ys.length ≤ 1000000000000) (hbase : base ≤ w.heap.size)
    (h : ∀ v' w', OwnN w' base v' (xs ++ ys) → w.grownBy w' v.ownBlock → wpList Tryd.prog ops Q rest (a.put o.dst v') w') : wpList Tryd.prog ops Q (o :: rest) a w := by
  obtain ⟨i0, hi0, hz0, hz1, hz2⟩ := info_parts info_n
  obtain ⟨A, c, rfl, _, hc, hL⟩ := hu
  cases A with
  | none =>
    obtain rfl : c = 0 := by rcases hc with hh | ⟨_, _, hh⟩ <;> first | exact hh.2 | cases hh
    have hy : ys = [] := by
      cases ys with
      | nil => rfl
      | cons y ys =>
        obtain ⟨_, _, hA, _⟩ := hL (by simp)
        cases hA
    subst hy
    have hown' : OwnN w base v (xs ++ []) := by rw [List.append_nil]; exact hown
    exact wpList_append_own_none hgd s x 116 ho base 3 i0 1 Tryd.underlying116 hi0 v xs.length (cellsZ xs) hs hown hx (h v w hown' (World.grownBy.refl w _))
  | some ad =>
    refine wpList_append_own w hgd s x 116 ho base 3 i0 _ 1 8 Tryd.underlying116 hi0 hz0 hz1 hz2 rfl (by decide) v xs.length (cellsZ xs) hs hown ad ys.length c (cellsZ ys) hx (by rw [cellsZ_length, Nat.mul_one]) hL.cells (cellsZ_one ys)
      (by unfold maxLen; omega) (by omega) hbase fun v' w' h2 h3 _ => h v' w' ?_ h3
    rw [← cellsZ_append] at h2
    unfold OwnN
    rw [List.length_append]
    exact h2

theorem step_append_n {w : World} {ops : Array Oper} {o : Oper} {a : Act} {K : Act → World → Prop} {Q : Exit → Act → World → Prop} {E : Prop} (hgd : o.guard = none) (s x : Operand)
    (ho : o.op = .call { callee := .builtin .append, args := #[s, x], argTypes := #[116, 116] })
    (base : Nat) (v : Value) (xs : List Int) (hs : a.eval s = v) (hown : OwnN w base v xs)
    (B : Nat) (u : Value) (ys : List Int) (hx : a.eval x = u) (hu : SliceN w B u ys) (hbig : xs.length + ys.length ≤ 1000000000000) (hbase : base ≤ w.heap.size)
    (h : ∀ v' w', OwnN w' base v' (xs ++ ys) → w.grownBy w' v.ownBlock → K (a.put o.dst v') w') : if Region.wanted o (yielded ops a.tmps) = true then Oper.wp Tryd.prog o a w K Q else E := by
  have hw : Region.wanted o (yielded ops a.tmps) = true := by simp [Region.wanted, hgd]
  rw [if_pos hw]
  obtain ⟨i0, hi0, hz0, hz1, hz2⟩ := info_parts info_n
  obtain ⟨A, c, rfl, _, hc, hL⟩ := hu
  cases A with
  | none =>
    obtain rfl : c = 0 := by rcases hc with hh | ⟨_, _, hh⟩ <;> first | exact hh.2 | cases hh
    have hy : ys = [] := by
      cases ys with
      | nil => rfl
      | cons y ys =>
        obtain ⟨_, _, hA, _⟩ := hL (by simp)
        cases hA
    subst hy
    have hown' : OwnN w base v (xs ++ []) := by rw [List.append_nil]; exact hown
    have hrun := run_append_owned_none (P := Tryd.prog) (w := w) base 116 o.type 3 i0 1 Tryd.underlying116 hi0 v xs.length (cellsZ xs) hown
    unfold Oper.wp
    simp [execOp, ho, resolve, invoke, builtin, hs, hx, hrun, Result.andThen]
    exact h v w hown' (World.grownBy.refl w _)
  | some ad =>
    obtain ⟨v', w', hr, h2, h3, _, _⟩ := run_append_own_at (P := Tryd.prog) w base 116 o.type 3 i0 _ 1 8 Tryd.underlying116 hi0 hz0 hz1 hz2 rfl (by decide) v xs.length (cellsZ xs) hown ad ys.length c (cellsZ ys) (by rw [cellsZ_length, Nat.mul_one]) hL.cells (cellsZ_one ys)
      (by unfold maxLen; omega) (by omega) hbase
    unfold Oper.wp execOp
    simp only [ho, resolve, invoke, builtin, Sem.run_bind, Sem.run_pure, Result.andThen_ok, List.map_toArray, List.map_cons, List.map_nil, hs, hx, hr]
    refine h v' w' ?_ h3
    rw [← cellsZ_append] at h2
    unfold OwnN
    rw [List.length_append]
    exact h2

theorem take_getD (zs : List Int) (k j : Nat) (h : j < k) : (zs.take k).getD j 0 = zs.getD j 0 := by
  rw [List.getD_eq_getElem?_getD, List.getD_eq_getElem?_getD, List.getElem?_take, if_pos h]
theorem drop_getD (zs : List Int) (k j : Nat) : (zs.drop k).getD j 0 = zs.getD (k + j) 0 := by
  simp [List.getD, List.getElem?_drop]
theorem sliceN_to {w : World} {B g o c k : Nat} {zs : List Int} (h : SliceN w B (.slice (some ⟨g, o, none⟩) zs.length c) zs) (hk : k ≤ zs.length) : SliceN w B (.slice (some ⟨g, o, none⟩) k c) (zs.take k) := by
  obtain ⟨A, c', hv, h1, h2, hL⟩ := h
  simp only [Value.slice.injEq] at hv
  obtain ⟨rfl, _, rfl⟩ := hv
  have hl : (zs.take k).length = k := by rw [List.length_take]; omega
  refine ⟨_, _, by rw [hl], by omega, .inr ⟨_, _, rfl⟩, fun hn => ?_⟩
  obtain ⟨g', o', hA, hg, hc⟩ := hL (by omega)
  refine ⟨g', o', hA, hg, fun j hj => ?_⟩
  rw [take_getD _ _ _ (by omega)]
  exact hc j (by omega)
theorem sliceN_from {w : World} {B g o c k : Nat} {zs : List Int} (h : SliceN w B (.slice (some ⟨g, o, none⟩) zs.length c) zs) (hk : k ≤ zs.length) : SliceN w B (.slice (if c = k then some ⟨g, o, none⟩ else some ⟨g, o + k, none⟩) (zs.length - k) (c - k)) (zs.drop k) := by
  obtain ⟨A, c', hv, h1, h2, hL⟩ := h
  simp only [Value.slice.injEq] at hv
  obtain ⟨rfl, _, rfl⟩ := hv
  have hl : (zs.drop k).length = zs.length - k := by rw [List.length_drop]
  refine ⟨_, _, by rw [hl], by omega, ?_, fun hn => ?_⟩
  · split <;> exact .inr ⟨_, _, rfl⟩
  · rw [if_neg (by omega)]
    obtain ⟨g', o', hA, hg, hc⟩ := hL (by omega)
    simp only [Option.some.injEq, Addr.mk.injEq, and_true] at hA
    obtain ⟨rfl, rfl⟩ := hA
    refine ⟨g, o + k, rfl, hg, fun j hj => ?_⟩
    rw [drop_getD, Nat.add_assoc]
    exact hc (k + j) (by omega)
theorem own33C {w wr : World} (h : Below w.heap.size w wr) : OwnN (wr.alloc (.cells #[] 3)).drew w.heap.size (.slice (some ⟨wr.heap.size, 0, none⟩) 0 0) [] :=
  World.ownsRow_made wr #[] 0 h.size (by unfold maxLen; omega) rfl
theorem own33B {w wr : World} {o : Obj} (h : Below w.heap.size w wr) : OwnN ((wr.alloc (.cells #[] 3)).alloc o).drew w.heap.size (.slice (some ⟨wr.heap.size, 0, none⟩) 0 0) [] :=
  (World.ownsRow_made wr #[] 0 h.size (by unfold maxLen; omega) rfl : OwnN (wr.alloc (.cells #[] 3)) w.heap.size (.slice (some ⟨wr.heap.size, 0, none⟩) 0 0) []).alloc o
theorem own33A {w wr : World} {o : Obj} (h : Below w.heap.size w wr) : OwnN ((wr.alloc o).alloc (.cells #[] 3)).drew w.heap.size (.slice (some ⟨wr.heap.size + 1, 0, none⟩) 0 0) [] := by
  have hs : (wr.alloc o).heap.size = wr.heap.size + 1 := Array.size_push ..
  have := World.ownsRow_made (wr.alloc o) (e := 3) (base := w.heap.size) (size := 1) #[] 0 (by have := h.size; omega) (by unfold maxLen; omega) rfl
  rw [hs] at this
  exact this
theorem sliceN_none (w : World) {B : Nat} : SliceN w B (.slice none 0 0) [] := ⟨none, 0, rfl, Nat.le_refl _, .inl ⟨rfl, rfl⟩, fun h => absurd h (Nat.not_lt_zero _)⟩
theorem one39a (w : World) (n : Int) (t : TypeId) (g : Nat) (hg : w.heap.size = g) : SliceN (w.alloc (.cells #[.int .i64 n] t)) (g + 1) (.slice (some ⟨g, 0, none⟩) 1 1) [n] := by
  subst hg
  refine ⟨_, _, rfl, Nat.le_refl _, .inr ⟨_, _, rfl⟩, fun _ => ⟨_, 0, rfl, by omega, fun k hk => ?_⟩⟩
  obtain rfl : k = 0 := by simpa using hk
  rw [cell_of_row _ _ _ _ t (0, 0) (heap_alloc_new w _)]
  rfl

theorem kg33 {w W w1 : World} {p : Nat} (h : Below w.heap.size w W) (hg : W.grownBy w1 (Value.ownBlock (.slice (some ⟨p, 0, none⟩) 0 0))) (hp : w.heap.size ≤ p) : Below w.heap.size w w1 :=
  h.grown hg h.size (fun k hk => by simp [Value.ownBlock] at hk; omega)
theorem kb1 {w wr : World} {o : Obj} (h : Below w.heap.size w wr) : Below w.heap.size w (wr.alloc o).drew := (h.alloc h.size _).drew
theorem kb2 {w wr : World} {o o' : Obj} (h : Below w.heap.size w wr) : Below w.heap.size w ((wr.alloc o).alloc o').drew := ((h.alloc h.size o).alloc (h.alloc h.size o).size _).drew
theorem kg {w W w1 : World} {v : Value} {xs : List Int} (h : Below w.heap.size w W) (hg : W.grownBy w1 v.ownBlock) (ho : OwnN W w.heap.size v xs) : Below w.heap.size w w1 :=
  h.grown hg h.size (fun k hk => (World.ownsRow.lt ho k hk).1)
theorem one39k {W W1 : World} {g : Nat} {t : TypeId} {n : Int} {row : Option Nat} (h : W.heap[g]? = some (.cells #[.int .i64 n] t (0, 0))) (hg : W.grownBy W1 row) (hr : row ≠ some g) : SliceN W1 (g + 1) (.slice (some ⟨g, 0, none⟩) 1 1) [n] := by
  have h1 := (hg.block g (Array.getElem?_eq_some_iff.1 h).1 (fun e => hr e.symm)).trans h
  refine ⟨_, _, rfl, Nat.le_refl _, .inr ⟨_, _, rfl⟩, fun _ => ⟨_, 0, rfl, by omega, fun k hk => ?_⟩⟩
  obtain rfl : k = 0 := by simpa using hk
  rw [cell_of_row _ _ _ _ t (0, 0) h1]
  rfl
theorem one39b {W W1 : World} {t t' : TypeId} {n : Int} (hg : ((W.alloc (.cells #[.int .i64 n] t)).alloc (.cells #[] t')).drew.grownBy W1 (Value.ownBlock (.slice (some ⟨W.heap.size + 1, 0, none⟩) 0 0))) : SliceN W1 (W.heap.size + 1) (.slice (some ⟨W.heap.size, 0, none⟩) 1 1) [n] := by
  refine one39k (t := t) ?_ hg (by simp [Value.ownBlock])
  show ((W.alloc (.cells #[.int .i64 n] t)).alloc (.cells #[] t')).heap[W.heap.size]? = _
  rw [heap_alloc_old _ _ (Nat.lt_of_lt_of_eq (Nat.lt_succ_self _) (Array.size_push ..).symm)]
  exact heap_alloc_new W _
theorem one39c {W W1 : World} {t t' : TypeId} {n : Int} (hg : ((W.alloc (.cells #[] t')).alloc (.cells #[.int .i64 n] t)).drew.grownBy W1 (Value.ownBlock (.slice (some ⟨W.heap.size, 0, none⟩) 0 0))) : SliceN W1 (W.heap.size + 1 + 1) (.slice (some ⟨W.heap.size + 1, 0, none⟩) 1 1) [n] := by
  have hs : (W.alloc (.cells #[] t')).heap.size = W.heap.size + 1 := Array.size_push ..
  refine one39k (t := t) ?_ hg (by simp [Value.ownBlock])
  show ((W.alloc (.cells #[] t')).alloc (.cells #[.int .i64 n] t)).heap[W.heap.size + 1]? = _
  rw [← hs]
  exact heap_alloc_new _ _

set_option maxHeartbeats 2000000 in
theorem putN_any (zs : List Int) (n : Int) (v : Value) (B : Nat) (w : World) (hL : SliceN w B v zs) (hB : B ≤ w.heap.size) (hm : zs.length ≤ 1000000) :
    Calls Tryd.prog 110 #[v, .int .i64 n] w fun e w' => ∃ u, e = .returned u ∧ SliceN w' w'.heap.size u (insL zs n) ∧ Below w.heap.size w w' := by
  have HS := Lib.hid hL
  obtain ⟨A, c, rfl, hlc, hA, hL⟩ := hL
  have HL := Lib.hid hL
  clear hL
  rcases hA with ⟨rfl, rfl⟩ | ⟨g, o, rfl⟩
  · obtain rfl := List.eq_nil_of_length_eq_zero (Nat.le_zero.1 hlc)
    rw [List.length_nil]
    go_enter Tryd.func110, Tryd.ntmps110
    go_wp2_with fail
    go_loopw [5] (fun i wr => i = .int .i64 0 ∧ Below w.heap.size w wr) (fun i _ => 0)
    case atStart => exact ⟨rfl, Below.refl _ _⟩
    case round =>
      obtain ⟨rfl, hbw⟩ := hrel
      have HI : Hid (insL [] n = [] ++ [n] ++ []) := rfl
      go_wp2_with fail
      go_region_held3 (fun w' => Below w.heap.size w w') (first | exact hbw.drew | exact Below.alloc (by assumption) (Below.size (by assumption)) _ | exact kg33 (kb2 hbw) hg1 hbw.size | exact kg33 (kb2 hbw) hg1 (Nat.le_succ_of_le hbw.size) | exact kg33 (kb1 hbw) hg1 hbw.size | exact kg (by assumption) hg2 hown1 | exact kg (by assumption) hg2 (hown1.alloc _) | exact kg (by assumption) hg3 hown2) (first | (refine step_append_n (by rfl) (.tmp 33) (.tmp 36) (by rfl) w.heap.size _ [] (by rfl) (by first | exact own33A hbw | exact own33B hbw | exact own33C hbw) B _ [] (by rfl) (sliceN_none _) (by simp <;> omega) (Below.size (by assumption)) ?_; intro v1 w1 hown1 hg1) | (refine step_append_n (by rfl) (.tmp 37) (.tmp 39) (by rfl) w.heap.size _ [] (by rfl) (by first | exact hown1 | exact hown1.alloc _) _ _ [n] (by rfl) (by first | exact one39a _ _ _ _ rfl | exact one39b hg1 | exact one39c hg1) (by simp <;> omega) (Below.size (by assumption)) ?_; intro v2 w2 hown2 hg2) | (refine step_append_n (by rfl) (.tmp 40) (.tmp 43) (by rfl) w.heap.size _ ([] ++ [n]) (by rfl) hown2 B _ [] (by rfl) (sliceN_none _) (by simp <;> omega) (Below.size (by assumption)) ?_; intro v3 w3 hown3 hg3))
      all_goals rename_i hH
      all_goals have HO3 := Lib.hid hown3
      all_goals clear hown1 hown2 hown3 hg1 hg2 hg3
      all_goals go_wp2_with fail
      all_goals go_ret
      all_goals exact ⟨_, rfl, by rw [HI.out]; exact OwnN.slice HO3.out, hH⟩
  · go_enter Tryd.func110, Tryd.ntmps110
    go_wp2_with fail
    go_loopw [5] (fun i wr => ∃ k : Nat, k ≤ zs.length ∧ i = .int .i64 k ∧ Hid (∀ j, j < k → zs.getD j 0 < n) ∧ Below w.heap.size w wr) (fun i _ => zs.length - (intOf i).toNat)
    case atStart => exact ⟨0, Nat.zero_le _, rfl, fun j h => absurd h (Nat.not_lt_zero j), Below.refl _ _⟩
    case round =>
      obtain ⟨k, hk, rfl, Hno, hbw⟩ := hrel
      have HS36 := Lib.hid (sliceN_to HS.out hk)
      have HS43 := Lib.hid (sliceN_from HS.out hk)
      have i0 : (0 : Int) ≤ (k : Int) := by omega
      have i1 : (k : Int) ≤ (zs.length : Int) := by omega
      have i2 : (k : Int) ≤ (c : Int) := by omega
      by_cases hlt : k < zs.length
      · obtain ⟨g', o', hA', hg, hcell⟩ := (HL.out.below hbw hB) (by omega)
        simp only [Option.some.injEq, Addr.mk.injEq, and_true] at hA'
        obtain ⟨rfl, rfl⟩ := hA'
        have c1 := hcell k hlt
        clear hcell
        obtain ⟨a, ha⟩ : ∃ a, a = zs.getD k 0 := ⟨_, rfl⟩
        rw [← ha] at c1
        have HA := Lib.hid ha
        clear ha
        by_cases hz : a < n
        · have Hn : Hid (∀ j, j < k + 1 → zs.getD j 0 < n) := fun j hj => by
            rcases Nat.lt_or_ge j k with h | h
            · exact Hno.out j h
            · obtain rfl : j = k := by omega
              rw [← HA.out]; exact hz
          clear Hno HA
          go_wp2_with fail
          go_roundw
          case rel => exact ⟨k + 1, by omega, by go_num, Hn, hbw⟩
          case measure => simp [intOf]; omega
        · have hz' : decide (a < n) = false := by simpa using hz
          have HK : Hid (cutAt zs n = k) := cutAt_eq zs n k hk Hno.out (fun _ => by rw [← HA.out]; omega)
          by_cases hq : a = n
          · subst hq
            have HI : Hid (insL zs a = zs) := by unfold Hid insL; rw [HK.out, if_pos ⟨hlt, HA.out.symm⟩]
            go_wp2_with fail
            go_ret
            exact ⟨_, rfl, by rw [HI.out]; exact (HS.out.below hbw hB).more (by have := hbw.size; omega), hbw⟩
          · have hq' : (a == n) = false := by simpa using hq
            have HI : Hid (insL zs n = zs.take k ++ [n] ++ zs.drop k) := by unfold Hid insL; rw [HK.out, if_neg (by rw [← HA.out]; exact fun h => hq h.2)]
            go_wp2_with fail
            go_region_held3 (fun w' => Below w.heap.size w w') (first | exact hbw.drew | exact Below.alloc (by assumption) (Below.size (by assumption)) _ | exact kg33 (kb2 hbw) hg1 hbw.size | exact kg33 (kb2 hbw) hg1 (Nat.le_succ_of_le hbw.size) | exact kg33 (kb1 hbw) hg1 hbw.size | exact kg (by assumption) hg2 hown1 | exact kg (by assumption) hg2 (hown1.alloc _) | exact kg (by assumption) hg3 hown2) (first | (refine step_append_n (by rfl) (.tmp 33) (.tmp 36) (by rfl) w.heap.size _ [] (by rfl) (by first | exact own33A hbw | exact own33B hbw | exact own33C hbw) B _ (zs.take k) (by rfl) (HS36.out.below (by assumption) hB) (by simp <;> omega) (Below.size (by assumption)) ?_; intro v1 w1 hown1 hg1) | (refine step_append_n (by rfl) (.tmp 37) (.tmp 39) (by rfl) w.heap.size _ (zs.take k) (by rfl) (by first | exact hown1 | exact hown1.alloc _) _ _ [n] (by rfl) (by first | exact one39a _ _ _ _ rfl | exact one39b hg1 | exact one39c hg1) (by simp <;> omega) (Below.size (by assumption)) ?_; intro v2 w2 hown2 hg2) | (refine step_append_n (by rfl) (.tmp 40) (.tmp 43) (by rfl) w.heap.size _ ((zs.take k) ++ [n]) (by rfl) hown2 B _ (zs.drop k) (by rfl) (HS43.out.below (by assumption) hB) (by simp <;> omega) (Below.size (by assumption)) ?_; intro v3 w3 hown3 hg3))
            all_goals rename_i hH
            all_goals have HO3 := Lib.hid hown3
            all_goals clear hown1 hown2 hown3 hg1 hg2 hg3
            all_goals go_wp2_with fail
            all_goals go_ret
            all_goals exact ⟨_, rfl, by rw [HI.out]; exact OwnN.slice HO3.out, hH⟩
      · have HK : Hid (cutAt zs n = k) := cutAt_eq zs n k hk Hno.out (fun h => absurd h hlt)
        have HI : Hid (insL zs n = zs.take k ++ [n] ++ zs.drop k) := by unfold Hid insL; rw [HK.out, if_neg (fun h => hlt h.1)]
        have hx1 : decide ((k : Int) < (zs.length : Int)) = false := by simp; omega
        have hx2 : decide (k < zs.length) = false := by simp; omega
        go_wp2_with fail
        go_region_held3 (fun w' => Below w.heap.size w w') (first | exact hbw.drew | exact Below.alloc (by assumption) (Below.size (by assumption)) _ | exact kg33 (kb2 hbw) hg1 hbw.size | exact kg33 (kb2 hbw) hg1 (Nat.le_succ_of_le hbw.size) | exact kg33 (kb1 hbw) hg1 hbw.size | exact kg (by assumption) hg2 hown1 | exact kg (by assumption) hg2 (hown1.alloc _) | exact kg (by assumption) hg3 hown2) (first | (refine step_append_n (by rfl) (.tmp 33) (.tmp 36) (by rfl) w.heap.size _ [] (by rfl) (by first | exact own33A hbw | exact own33B hbw | exact own33C hbw) B _ (zs.take k) (by rfl) (HS36.out.below (by assumption) hB) (by simp <;> omega) (Below.size (by assumption)) ?_; intro v1 w1 hown1 hg1) | (refine step_append_n (by rfl) (.tmp 37) (.tmp 39) (by rfl) w.heap.size _ (zs.take k) (by rfl) (by first | exact hown1 | exact hown1.alloc _) _ _ [n] (by rfl) (by first | exact one39a _ _ _ _ rfl | exact one39b hg1 | exact one39c hg1) (by simp <;> omega) (Below.size (by assumption)) ?_; intro v2 w2 hown2 hg2) | (refine step_append_n (by rfl) (.tmp 40) (.tmp 43) (by rfl) w.heap.size _ ((zs.take k) ++ [n]) (by rfl) hown2 B _ (zs.drop k) (by rfl) (HS43.out.below (by assumption) hB) (by simp <;> omega) (Below.size (by assumption)) ?_; intro v3 w3 hown3 hg3))
        all_goals rename_i hH
        all_goals have HO3 := Lib.hid hown3
        all_goals clear hown1 hown2 hown3 hg1 hg2 hg3
        all_goals go_wp2_with fail
        all_goals go_ret
        all_goals exact ⟨_, rfl, by rw [HI.out]; exact OwnN.slice HO3.out, hH⟩
end Go.Proofs.YtbhkbhaepefdgaaDoor
