/- Layer 4 (fraction): Power of both. -/
import Derived.Test.YtdjnnbjpaohaiaaDoorFrO
namespace Go.Proofs.YtdjnnbjpaohaiaaDoor
open Go.RowKit Go.Ev
set_option maxRecDepth 100000

def powX (an ad : Int) : Nat → Int × Int × Int
  | 0 => (1, 1, 0)
  | k + 1 => cond (decide ((powX an ad k).2.2 = 0)) (mulX (powX an ad k).1 (powX an ad k).2.1 an ad) (powX an ad k)
theorem mulX_ok {an ad bn bd : Int} (h : (mulX an ad bn bd).2.2 = 0) : validF (mulX an ad bn bd).1 (mulX an ad bn bd).2.1 = true := by
  unfold mulX at h ⊢
  cases h1 : validF an ad with
  | false => rw [h1] at h; cases h
  | true =>
    cases h2 : validF bn bd with
    | false => rw [h1, h2] at h; cases h
    | true =>
      rw [h1, h2] at h
      obtain ⟨a1, _⟩ := validF_t h1
      obtain ⟨b1, _⟩ := validF_t h2
      exact redX_ok (Nat.mul_pos (by omega) (by omega)) h
theorem mulX_err {an ad bn bd : Int} (h : (mulX an ad bn bd).2.2 ≠ 0) : mulX an ad bn bd = (0, 0, (mulX an ad bn bd).2.2) := by
  unfold mulX at h ⊢
  cases hb : validF an ad && validF bn bd with
  | false => rfl
  | true => rw [hb] at h; exact redX_err h
theorem pow_ok {an ad : Int} : ∀ k, (powX an ad k).2.2 = 0 → validF (powX an ad k).1 (powX an ad k).2.1 = true
  | 0, _ => show validF 1 1 = true by decide
  | k + 1, h => by
    unfold powX at h ⊢
    by_cases hk : (powX an ad k).2.2 = 0
    · rw [decide_eq_true hk] at h ⊢; exact mulX_ok h
    · rw [decide_eq_false hk] at h; exact absurd h hk
theorem pow_err {an ad : Int} : ∀ k, (powX an ad k).2.2 ≠ 0 → powX an ad k = (0, 0, (powX an ad k).2.2)
  | 0, h => absurd rfl h
  | k + 1, h => by
    unfold powX at h ⊢
    by_cases hk : (powX an ad k).2.2 = 0
    · rw [decide_eq_true hk] at h ⊢; exact mulX_err h
    · rw [decide_eq_false hk] at h ⊢; exact pow_err k h
theorem pow_stick {an ad : Int} {k : Nat} (h : (powX an ad k).2.2 ≠ 0) : ∀ j, powX an ad (k + j) = powX an ad k
  | 0 => rfl
  | j + 1 => by
    have := pow_stick h j
    show cond (decide ((powX an ad (k + j)).2.2 = 0)) (mulX (powX an ad (k + j)).1 (powX an ad (k + j)).2.1 an ad) (powX an ad (k + j)) = _
    rw [this, decide_eq_false h]; rfl
theorem pow_next {an ad x y : Int} {k : Nat} (h : powX an ad k = (x, y, 0)) : powX an ad (k + 1) = mulX x y an ad := by
  show cond (decide ((powX an ad k).2.2 = 0)) (mulX (powX an ad k).1 (powX an ad k).2.1 an ad) (powX an ad k) = _
  rw [h]; rfl

abbrev pwSym (an ad x y x' y' e' n i : Int) : Tm → Sym
  | .v 0 => intSym .i64 an
  | .v 1 => intSym .i64 ad
  | .v 2 => intSym .i64 x
  | .v 3 => intSym .i64 y
  | .v 4 => intSym .i64 x'
  | .v 5 => intSym .i64 y'
  | .v 6 => intSym .i64 e'
  | .v 7 => intSym .i64 n
  | .v 8 => intSym .i64 i
  | .v 9 => intSym .i64 (i + 1)
  | _ => intSym .i64 0
abbrev blkF (a b : CV) : Blk := ⟨[a, b], 23, none⟩
abbrev cellF (B : Nat) (x y : Int) : Nat × TypeId × List Value := (B, 23, [iv x, iv y])
abbrev valF (x y : Int) : TypeId × List Value := (23, [iv x, iv y])
abbrev pwB (x y : CV) : List Blk := [blkF (.sy 0) (.sy 1), blkF (.clo (iv 0)) (.clo (iv 0)), blkF x y]
abbrev pwLess (b : Bool) : KOp := (.bin .lss 3, [.sy 8, .sy 7], .clo (.bool b))
abbrev pwStep (b : Bool) : List KOp := [pwLess true, (.bin .neq 24, [.sy 6, .clo (iv 0)], .clo (.bool b)), (.bin .add 3, [.sy 8, .clo (iv 1)], .sy 9)]
abbrev pwMul (f : FuncId) : List KCall := [(f, [.agg [.sy 2, .sy 3], .agg [.sy 0, .sy 1]], .tup [.agg [.sy 4, .sy 5], .sy 6])]
theorem pw_ops {an ad x y x' y' e' n i : Int} {b : Bool} (hb : decide (e' ≠ 0) = b) (hi : i < n) (hn : n ≤ 64) (i0 : 0 ≤ i) : ∀ z ∈ pwStep b, OpIs Tryd.prog (pwSym an ad x y x' y' e' n i) z := by
  intro z hz
  simp only [pwStep, List.mem_cons, List.not_mem_nil, or_false] at hz
  rcases hz with rfl | rfl | rfl
  · exact ⟨[iv i, iv n], .bool true, rfl, rfl, tells_lss (decide_eq_true hi)⟩
  · exact ⟨[iv e', iv 0], .bool b, rfl, rfl, tells_neq hb⟩
  · exact ⟨[iv i, iv 1], iv (i + 1), rfl, rfl, tells_add (by rw [IntKind.wrap_i64]; omega)⟩

abbrev pwT (lim ix : Nat) (i : CV) : List (Nat × CV) := [(2, .ptr 0 0), (4, .ptr 1 0), (6, .ptr 2 0), (lim, .sy 7), (ix, i)]
abbrev PwSt (nt lim ix B C : Nat) (an ad x y n i : Int) : Act → World → Prop :=
  Fs nt [(2, ptrV B), (4, ptrV (B + 1)), (6, ptrV C), (lim, iv n), (ix, iv i)] [cellF B an ad, cellF (B + 1) 0 0, cellF C x y]
abbrev PwK1 (c : Code) (nt lim ix : Nat) : Prop := ∀ (an ad x y i : Int) (u : Nat → Value), @checkC (toldV (pwSym an ad x y 0 0 0 i i) [] [] [pwLess false]) Tryd.prog 300 c nt (pwT lim ix (.sy 8)) u (pwB (.sy 2) (.sy 3)) (.exit 0) (pwT lim ix (.sy 8)) (memOf 0 (pwB (.sy 2) (.sy 3))) = true
abbrev PwK2 (c : Code) (nt lim ix : Nat) (f : FuncId) : Prop := ∀ (an ad x y x' y' n i : Int) (u : Nat → Value), @checkC (toldV (pwSym an ad x y x' y' 0 n i) (pwMul f) [] (pwStep false)) Tryd.prog 300 c nt (pwT lim ix (.sy 8)) u (pwB (.sy 2) (.sy 3)) .normal (pwT lim ix (.sy 9)) (memOf 0 (pwB (.sy 4) (.sy 5))) = true
abbrev PwK3 (c : Code) (nt lim ix : Nat) (f : FuncId) : Prop := ∀ (an ad x y x' y' e' n i : Int) (u : Nat → Value), @checkC (toldV (pwSym an ad x y x' y' e' n i) (pwMul f) [] (pwStep true)) Tryd.prog 300 c nt (pwT lim ix (.sy 8)) u (pwB (.sy 2) (.sy 3)) .ret [(4, .ptr 1 0), (5, .sy 6)] [(1, blkF (.clo (iv 0)) (.clo (iv 0)))] = true
theorem pw_loop {c : Code} {nt lim ix : Nat} {f : FuncId} (k1 : PwK1 c nt lim ix) (k2 : PwK2 c nt lim ix f) (k3 : PwK3 c nt lim ix f) {an ad : Int} (hm : ∀ x y, validF x y = true → ∀ w, Calls Tryd.prog f #[frV x y, frV an ad] w fun e w' => e = .returned (tripV (mulX x y an ad)) ∧ Below w.heap.size w w')
    {w0 : World} {C N : Nat} (hC : w0.heap.size + 2 ≤ C) (hN : N ≤ 64) {Q : Exit → Act → World → Prop} {a0 : Act} {w1 : World} (hs0 : PwSt nt lim ix w0.heap.size C an ad 1 1 N 0 a0 w1) (hb0 : Below w0.heap.size w0 w1)
    (hret : ∀ a w e, powX an ad N = (0, 0, e) → Fs nt [(4, ptrV (w0.heap.size + 1)), (5, iv e)] [cellF (w0.heap.size + 1) 0 0] a w → Below w0.heap.size w0 w → Q .ret a w)
    (hend : ∀ a w x y, powX an ad N = (x, y, 0) → PwSt nt lim ix w0.heap.size C an ad x y N N a w → Below w0.heap.size w0 w → Q (.exit 0) a w) :
    (Code.loop c).wp Tryd.prog Q a0 w1 := by
  generalize hB : w0.heap.size = B at *
  refine wp_loop (fun a w' => ∃ (k : Nat) (x y : Int), k ≤ N ∧ powX an ad k = (x, y, 0) ∧ PwSt nt lim ix B C an ad x y N k a w' ∧ Below B w0 w') (fun a _ => ((N : Int) - intOf (a.tmps.getD ix undef)).toNat) ⟨0, 1, 1, Nat.zero_le _, rfl, hs0, hb0⟩ ?_
  rintro a w' ⟨k, x, y, hk, hX, hs, hb⟩
  have hnd : [B, B + 1, C].Nodup := by simp; omega
  have hge : ∀ b ∈ [B, B + 1, C], w0.heap.size ≤ b := by
    intro b hb; simp only [List.mem_cons, List.not_mem_nil, or_false] at hb; omega
  rw [← hB] at hb
  by_cases hkn : k = N
  · subst hkn
    refine code_fs (by kernel_rfl) (pwSym an ad x y 0 0 0 k k) [] [pwLess false] (fun _ h => by cases h) ?_ 300 (pwT lim ix (.sy 8)) (pwB (.sy 2) (.sy 3)) (.exit 0) (pwT lim ix (.sy 8)) (memOf 0 (pwB (.sy 2) (.sy 3))) [B, B + 1, C] (k1 an ad x y k) (by simp) hnd rfl rfl rfl rfl rfl hs ?_
    · intro z hz
      simp only [List.mem_cons, List.not_mem_nil, or_false] at hz
      subst hz
      exact ⟨[iv k, iv k], .bool false, rfl, rfl, tells_lss (by simp)⟩
    · intro a' w2 hs2 hn2
      exact hend a' w2 x y hX hs2 (hB ▸ hn2.below hb hge)
  · have hmv : validF x y = true := by have := pow_ok (an := an) (ad := ad) k; rw [hX] at this; exact this rfl
    have hnx := pow_next hX
    have hmul := hm x y hmv
    generalize mulX x y an ad = X at *
    obtain ⟨x', y', e'⟩ := X
    by_cases he : e' = 0
    · subst he
      refine code_fs (by kernel_rfl) (pwSym an ad x y x' y' 0 N k) (pwMul f) (pwStep false) ?_ (pw_ops (by decide) (by omega) (by omega) (by omega)) 300 (pwT lim ix (.sy 8)) (pwB (.sy 2) (.sy 3)) .normal (pwT lim ix (.sy 9)) (memOf 0 (pwB (.sy 4) (.sy 5))) [B, B + 1, C] (k2 an ad x y x' y' N k) (by simp) hnd rfl rfl rfl rfl rfl hs ?_
      · intro z hz
        simp only [pwMul, List.mem_cons, List.not_mem_nil, or_false] at hz
        subst hz
        exact ⟨[frV x y, frV an ad], .tuple #[frV x' y', iv 0], rfl, rfl, hmul⟩
      · intro a' w2 hs2 hn2
        refine ⟨⟨k + 1, x', y', by omega, hnx, hs2, hB ▸ hn2.below hb hge⟩, ?_⟩
        have h8 : a'.tmps.getD ix undef = iv ((k : Int) + 1) := hs2.tmps (ix, iv ((k : Int) + 1)) (List.mem_of_getElem? (i := 4) rfl)
        have h8' : a.tmps.getD ix undef = iv (k : Int) := hs.tmps (ix, iv (k : Int)) (List.mem_of_getElem? (i := 4) rfl)
        rw [h8, h8']
        simp only [intOf]; omega
    · refine code_fs (by kernel_rfl) (pwSym an ad x y x' y' e' N k) (pwMul f) (pwStep true) ?_ (pw_ops (decide_eq_true he) (by omega) (by omega) (by omega)) 300 (pwT lim ix (.sy 8)) (pwB (.sy 2) (.sy 3)) .ret [(4, .ptr 1 0), (5, .sy 6)] [(1, blkF (.clo (iv 0)) (.clo (iv 0)))] [B, B + 1, C] (k3 an ad x y x' y' e' N k) (by simp) hnd rfl rfl rfl rfl rfl hs ?_
      · intro z hz
        simp only [pwMul, List.mem_cons, List.not_mem_nil, or_false] at hz
        subst hz
        exact ⟨[frV x y, frV an ad], .tuple #[frV x' y', iv e'], rfl, rfl, hmul⟩
      · intro a' w2 hs2 hn2
        refine hret a' w2 e' ?_ hs2 (hB ▸ hn2.below hb hge)
        have hne : (powX an ad (k + 1)).2.2 ≠ 0 := by rw [hnx]; exact he
        have := pow_stick hne (N - (k + 1))
        rw [show k + 1 + (N - (k + 1)) = N by omega] at this
        rw [this, pow_err _ hne, hnx]

theorem rPow_done {w0 : World} {nt : Nat} {a : Act} {w : World} {x y e : Int} (hs : Fs nt [(4, ptrV (w0.heap.size + 1)), (5, iv e)] [cellF (w0.heap.size + 1) x y] a w) (hb : Below w0.heap.size w0 w) {u : Int × Int × Int} (hu : u = (x, y, e)) :
    bodyPost Tryd.prog Tryd.f26 (fun e w' => e = .returned (tripV u) ∧ Below w0.heap.size w0 w') Exit.ret a w := by
  subst hu
  have h4 : a.tmps.getD 4 undef = ptrV (w0.heap.size + 1) := hs.tmps (4, ptrV (w0.heap.size + 1)) List.mem_cons_self
  have h5 : a.tmps.getD 5 undef = iv e := hs.tmps (5, iv e) (List.mem_cons_of_mem _ List.mem_cons_self)
  have h6 : w.heap[w0.heap.size + 1]? = some (.cells #[iv x, iv y] 23 (0, 0)) := hs.blks (cellF (w0.heap.size + 1) x y) List.mem_cons_self
  have h8 := hs.defers
  clear hs
  rw [Array.getD_eq_getD_getElem?] at h4 h5
  have c1 := cell_at (i := 0) h6 rfl
  have c2 := cell_at (i := 1) h6 rfl
  simp [bodyPost, results, Tryd.results26, go_sem, h4, h5, c1, c2, h8, tripV]
  exact hb

abbrev pw0 (an ad : Int) : List (TypeId × List Value) := [valF an ad, valF 0 0, valF 1 1]
set_option maxHeartbeats 1000000 in
theorem rPower_any (an ad : Int) (N : Nat) (hN : N ≤ 64) (hv : validF an ad = true) (w : World) :
    Calls Tryd.prog 26 #[frV an ad, iv N] w fun e w' => e = .returned (tripV (powX an ad N)) ∧ Below w.heap.size w w' := by
  go_enter Tryd.func26, Tryd.ntmps26
  go_wp2_with fail
  rename_i Q' K hK
  refine pw_loop (nt := 28) (lim := 1) (ix := 7) (f := 23) (fun _ _ _ _ _ _ => by kernel_rfl) (fun _ _ _ _ _ _ _ _ _ => by kernel_rfl) (fun _ _ _ _ _ _ _ _ _ _ => by kernel_rfl) (fun x y hxy w => rMul_any x y an ad hxy hv w) (w0 := w) (C := w.heap.size + 2) (Nat.le_refl _) hN ⟨by simp, rfl, ?_, blks_allocs (pw0 an ad) w⟩ (below_allocs (pw0 an ad) (Below.refl _ w)) ?_ ?_
  · repeat' (first | exact List.forall_mem_nil _ | refine List.forall_mem_cons.2 ⟨rfl, ?_⟩)
  · intro a w2 e hX hs hb
    exact rPow_done hs hb hX
  · intro a w2 x y hX hs hb
    show K a w2
    refine hK a w2 ?_
    refine code_fs (by kernel_rfl) (pwSym an ad x y 0 0 0 N N) [] [] (fun _ h => by cases h) (fun _ h => by cases h) 300 (pwT 1 7 (.sy 8)) (pwB (.sy 2) (.sy 3)) .ret [(4, .ptr 1 0), (5, .clo (iv 0))] [(1, blkF (.sy 2) (.sy 3))] [w.heap.size, w.heap.size + 1, w.heap.size + 2] (fun z => by kernel_rfl) (by simp) (by simp) rfl rfl rfl rfl rfl hs ?_
    intro a3 w3 hs3 hn3
    exact rPow_done hs3 (hn3.below hb (by intro b hb; simp only [List.mem_cons, List.not_mem_nil, or_false] at hb; omega)) hX

theorem pPow_done {w0 : World} {nt : Nat} {a : Act} {w : World} {x y e : Int} (hs : Fs nt [(4, ptrV (w0.heap.size + 1)), (5, iv e)] [cellF (w0.heap.size + 1) x y] a w) (hb : Below w0.heap.size w0 w) {u : Int × Int × Int} (hu : u = (x, y, e)) :
    bodyPost Tryd.prog Tryd.f25 (fun e w' => e = .returned (tripV u) ∧ Below w0.heap.size w0 w') Exit.ret a w := by
  subst hu
  have h4 : a.tmps.getD 4 undef = ptrV (w0.heap.size + 1) := hs.tmps (4, ptrV (w0.heap.size + 1)) List.mem_cons_self
  have h5 : a.tmps.getD 5 undef = iv e := hs.tmps (5, iv e) (List.mem_cons_of_mem _ List.mem_cons_self)
  have h6 : w.heap[w0.heap.size + 1]? = some (.cells #[iv x, iv y] 23 (0, 0)) := hs.blks (cellF (w0.heap.size + 1) x y) List.mem_cons_self
  have h8 := hs.defers
  clear hs
  rw [Array.getD_eq_getD_getElem?] at h4 h5
  have c1 := cell_at (i := 0) h6 rfl
  have c2 := cell_at (i := 1) h6 rfl
  simp [bodyPost, results, Tryd.results25, go_sem, h4, h5, c1, c2, h8, tripV]
  exact hb

set_option maxHeartbeats 1000000 in
theorem pPower_go (an ad : Int) (N : Nat) (hN : N ≤ 64) (hv : validF an ad = true) (w : World) :
    Calls Tryd.prog 25 #[frV an ad, iv N] w fun e w' => e = .returned (tripV (powX an ad N)) ∧ Below w.heap.size w w' := by
  obtain ⟨i1, i2⟩ := in64_valid hv
  have hV := fun w => valid_any an ad i1.1 i1.2 i2.1 i2.2 w
  rw [hv] at hV
  have HV := Lib.hid hV
  have hn : ((N : Int) < 0) = False := by simp
  have hn1 : ((64 : Int) < N) = False := by simp; omega
  clear hV
  go_enter Tryd.func25, Tryd.ntmps25
  go_wp2_with fail
  refine (HV.out _).mono ?_
  rintro e w1 ⟨rfl, hb1⟩
  go_wp2_with fail
  rename_i Q' K hK
  have hw : Below w.heap.size w w1 := (below_allocs [valF an ad, valF 0 0] (Below.refl _ w)).trans (hb1.mono (by simp; omega))
  have hC : w.heap.size + 2 ≤ w1.heap.size := by have := hb1.size; simp at this; omega
  refine pw_loop (nt := 36) (lim := 21) (ix := 22) (f := 18) (fun _ _ _ _ _ _ => by kernel_rfl) (fun _ _ _ _ _ _ _ _ _ => by kernel_rfl) (fun _ _ _ _ _ _ _ _ _ _ => by kernel_rfl) (fun x y hxy w => pMul_any x y an ad (in64_valid hxy).1 (in64_valid hxy).2 i1 i2 w) (w0 := w) (C := w1.heap.size) hC hN ⟨by simp, rfl, ?_, ?_⟩ (hw.alloc (by omega) _) ?_ ?_
  · repeat' (first | exact List.forall_mem_nil _ | refine List.forall_mem_cons.2 ⟨rfl, ?_⟩)
  · have h0 := blks_allocs [valF an ad, valF 0 0] w
    refine List.forall_mem_cons.2 ⟨?_, List.forall_mem_cons.2 ⟨?_, List.forall_mem_cons.2 ⟨heap_alloc_new _ _, List.forall_mem_nil _⟩⟩⟩
    · exact (Below.heap_alloc _ _ _ (show w.heap.size < w1.heap.size by omega)).trans ((hb1.block _ (by simp; omega)).trans (h0 _ List.mem_cons_self))
    · exact (Below.heap_alloc _ _ _ (show w.heap.size + 1 < w1.heap.size by omega)).trans ((hb1.block _ (by simp)).trans (h0 _ (List.mem_cons_of_mem _ List.mem_cons_self)))
  · intro a w2 e hX hs hb
    exact pPow_done hs hb hX
  · intro a w2 x y hX hs hb
    show K a w2
    refine hK a w2 ?_
    refine code_fs (by kernel_rfl) (pwSym an ad x y 0 0 0 N N) [] [] (fun _ h => by cases h) (fun _ h => by cases h) 300 (pwT 21 22 (.sy 8)) (pwB (.sy 2) (.sy 3)) .ret [(4, .ptr 1 0), (5, .clo (iv 0))] [(1, blkF (.sy 2) (.sy 3))] [w.heap.size, w.heap.size + 1, w1.heap.size] (fun z => by kernel_rfl) (by simp) (by simp; omega) rfl rfl rfl rfl rfl hs ?_
    intro a3 w3 hs3 hn3
    exact pPow_done hs3 (hn3.below hb (by intro b hb; simp only [List.mem_cons, List.not_mem_nil, or_false] at hb; omega)) hX
end Go.Proofs.YtdjnnbjpaohaiaaDoor
