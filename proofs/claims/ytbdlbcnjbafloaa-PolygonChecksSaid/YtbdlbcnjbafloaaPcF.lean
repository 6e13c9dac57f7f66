/- Layer 5 (polygon): which side has equal ends. -/
import Derived.Test.YtbdlbcnjbafloaaPcE
namespace Go.Proofs.Ytbdlbcnjbafloaa
open Go.RowKit Go.Ev
set_option maxRecDepth 100000
abbrev sdV (p q : Pt) : Value := .agg #[iv p.1, iv p.2, iv q.1, iv q.2]
abbrev fEq : Value := .func (.func 45) #[] #[]
abbrev ixSym (p : Nat × Nat) (n k : Nat) (r : Int) (x y : Pt) : Tm → Sym
  | .v 0 => slSym (some ⟨p.1, 0, none⟩) n p.2
  | .v 1 => intSym .i64 k
  | .v 2 => intSym .i64 (k + 1 : Nat)
  | .v 3 => intSym .i64 n
  | .v 4 => ptSym ((⟨p.1, 0, none⟩ : Addr).add (k * 4))
  | .v 5 => intSym .i64 x.1
  | .v 6 => intSym .i64 x.2
  | .v 9 => intSym .i64 y.1
  | .v 10 => intSym .i64 y.2
  | .v 11 => intSym .i64 r
  | _ => intSym .i64 0
theorem clos_any (x y : Pt) (w : World) : Calls Try.prog 45 #[sdV x y] w fun e w' => e = .returned (.bool (decide (x = y))) ∧ Below w.heap.size w w' := by
  have hev : ∀ b : Bool, resC (evalFn0 Try.prog (@evalC (toldK 0 (ixSym (0, 0) 0 0 0 x y) [] [(31, .agg [.sy 5, .sy 6], .agg [.sy 9, .sy 10], b)] [] (fun _ => True) 0 (fun _ _ _ _ => trivial)) Try.prog 300 true) 0 45 [.agg [.sy 5, .sy 6, .sy 9, .sy 10]] ⟨0, []⟩) = some (.clo (.bool b)) := by
    intro b; cases b <;> kernel_rfl
  refine calls_toldR hmix (ixSym (0, 0) 0 0 0 x y) [] [(31, .agg [.sy 5, .sy 6], .agg [.sy 9, .sy 10], decide (x = y))] [] (fun _ => True) 0 (fun _ _ _ _ => trivial) (fun _ h => by cases h) (fun z hz => ?_) (fun _ h => by cases h) (args := [.agg [.sy 5, .sy 6, .sy 9, .sy 10]]) (xs := [sdV x y]) rfl _ (hev _) rfl w trivial (Nat.zero_le _)
  simp only [List.mem_cons, List.not_mem_nil, or_false] at hz
  subst hz
  exact pt_eqIs (p := x) (q := y) rfl rfl rfl
/-- Whether the side that begins at a corner ends there, too. -/
def dupAt (L : List Pt) (k : Nat) : Bool := decide (nth L k = nth L ((k + 1) % L.length))
/-- The first such side, or -1. -/
def dupIx (L : List Pt) : Int := if (List.range L.length).findIdx (dupAt L) < L.length then ((List.range L.length).findIdx (dupAt L) : Nat) else -1
theorem dupIx_some {L : List Pt} {k : Nat} (hk : k < L.length) (h : dupAt L k = true) (hl : ∀ i, i < k → dupAt L i = false) : dupIx L = (k : Int) := by
  have : (List.range L.length).findIdx (dupAt L) = k := by
    rw [List.findIdx_eq (by simpa using hk)]
    exact ⟨by simpa using h, fun j hj => by simpa using hl j hj⟩
  unfold dupIx
  rw [this, if_pos hk]
theorem dupIx_none {L : List Pt} (hl : ∀ i, i < L.length → dupAt L i = false) : dupIx L = -1 := by
  have : (List.range L.length).findIdx (dupAt L) = (List.range L.length).length := by
    rw [List.findIdx_eq_length]
    intro x hx
    exact hl x (by simpa using hx)
  unfold dupIx
  rw [this, List.length_range, if_neg (by omega)]
/-- The worlds in which the sides lie. -/
structure SdK (B : Nat) (L : List Pt) (p : Nat × Nat) (w : World) : Prop where
  row : RowIs (sdC L) tSide 4 p w
  lt : p.1 < B
theorem SdK.below {B : Nat} {L : List Pt} {p : Nat × Nat} {w w' : World} (h : SdK B L p w) (hb : Below B w w') : SdK B L p w' := by
  obtain ⟨⟨c, h1, h2⟩, h3⟩ := h
  exact ⟨⟨c, (hb.block _ h3).trans h1, h2⟩, h3⟩
theorem sdK_kst {B : Nat} {L : List Pt} {p : Nat × Nat} : ∀ w w', SdK B L p w → Below B w w' → SdK B L p w' := fun _ _ h hb => h.below hb
theorem SdK.cells {B : Nat} {L : List Pt} {p : Nat × Nat} {w : World} (h : SdK B L p w) {k : Nat} (hk : k < L.length) : ∀ (j : Nat) (x : Value), (sdc L k)[j]? = some x → w.cell? (((⟨p.1, 0, none⟩ : Addr).add (k * 4)).add j) = some x := by
  intro j x hx
  obtain ⟨⟨c, h1, h2, _⟩, _⟩ := h
  have hj : j < 4 := (List.getElem?_eq_some_iff.1 hx).1
  have hg := rowOf_get (f := sdc L) (z := 4) (sdc_len L) hk
  rw [add_add]
  have h3 : (sdC L)[k * 4 + j]? = some x := by
    rw [← hg, List.getElem?_take, if_pos hj, List.getElem?_drop] at hx
    exact hx
  have h4 : c.toList[k * 4 + j]? = some x := by
    rw [← h2, List.getElem?_take] at h3
    split at h3
    · exact h3
    · cases h3
  have h5 : c[k * 4 + j]? = some x := by simpa using h4
  rw [Addr.add_mid]
  simp [World.cell?, h1, h5]
abbrev ixAt : List KOp := [(.ixa 52, [.sy 0, .sy 1], .sy 4), (.ld tSide, [.sy 4], .agg [.sy 5, .sy 6, .sy 9, .sy 10]), (.bin .add 3, [.sy 1, .clo (iv 1)], .sy 2)]
abbrev ixLen : List KOp := [(.ln 52, [.sy 0], .sy 3)]
theorem ix_len {p : Nat × Nat} {n k : Nat} {r : Int} {x y : Pt} {K : World → Prop} : ∀ z ∈ ixLen, OpAt Try.prog (ixSym p n k r x y) K z := by
  intro z hz
  simp only [ixLen, List.mem_cons, List.not_mem_nil, or_false] at hz
  subst hz
  exact OpIs.at ⟨[.slice (some ⟨p.1, 0, none⟩) n p.2], iv n, rfl, rfl, tells_ln (e := tSide) (by kernel_rfl)⟩ _
theorem ix_at {B : Nat} {L : List Pt} {p : Nat × Nat} {k : Nat} {r : Int} (hk : k < L.length) (hn : L.length ≤ 1000000) : ∀ z ∈ ixAt, OpAt Try.prog (ixSym p L.length k r (nth L k) (nth L ((k + 1) % L.length))) (SdK B L p) z := by
  intro z hz
  simp only [ixAt, List.mem_cons, List.not_mem_nil, or_false] at hz
  rcases hz with rfl | rfl | rfl
  · exact OpIs.at ⟨[.slice (some ⟨p.1, 0, none⟩) L.length p.2, iv k], .pointer (some ((⟨p.1, 0, none⟩ : Addr).add (k * 4))), rfl, rfl, tells_ixa (e := tSide) (by kernel_rfl) (by kernel_rfl) hk⟩ _
  · exact ⟨[.pointer (some ((⟨p.1, 0, none⟩ : Addr).add (k * 4)))], sdV (nth L k) (nth L ((k + 1) % L.length)), rfl, rfl, tells_ld (cs := sdc L k) (by kernel_rfl) (by kernel_rfl) fun w hw => hw.cells hk⟩
  · exact OpIs.at ⟨[iv k, iv 1], iv (k + 1 : Nat), rfl, rfl, tells_add (by rw [IntKind.wrap_i64]; omega)⟩ _
theorem ix_lss {p : Nat × Nat} {n k : Nat} {r : Int} {x y : Pt} {K : World → Prop} : ∀ z ∈ awOps (decide (k < n)), OpAt Try.prog (ixSym p n k r x y) K z := by
  intro z hz
  simp only [awOps, List.mem_cons, List.not_mem_nil, or_false] at hz
  subst hz
  exact OpIs.at ⟨[iv k, iv n], _, rfl, rfl, tells_lss (by rw [decide_eq_decide]; omega)⟩ _
abbrev ixC (B : Nat) (L : List Pt) (p : Nat × Nat) (n k : Nat) (r : Int) (x y : Pt) (lc : List KCall) (lv : List KOp) : Ctxt := toldK 0 (ixSym p n k r x y) lc [] lv (SdK B L p) B sdK_kst
theorem index_any (B : Nat) (L : List Pt) (p : Nat × Nat) (hn0 : L.length ≤ 1000000) (w : World) (hP : SdK B L p w) (hB : B ≤ w.heap.size) :
    Calls Try.prog 57 #[.slice (some ⟨p.1, 0, none⟩) L.length p.2, fEq] w fun e w' => e = .returned (iv (dupIx L)) ∧ Below w.heap.size w w' := by
  obtain ⟨n, hn⟩ : ∃ n, n = L.length := ⟨_, rfl⟩
  rw [← hn]
  have hk0 : @KnownOK (ixC B L p n 0 0 (0, 0) (0, 0) [] ixLen) Try.prog := known_toldK 0 _ _ _ _ _ _ _ (fun _ h => by cases h) (fun _ h => by cases h) ix_len
  go_enter Try.func57, Try.ntmps57
  refine @code_TL (ixC B L p n 0 0 (0, 0) (0, 0) [] ixLen) Try.prog hmix hk0 rfl 300 [_] _ 19 [(0, .sy 0), (1, .clo fEq)] [(0, .sy 0), (1, .clo fEq)] [(0, .slice (some ⟨p.1, 0, none⟩) n p.2), (1, fEq)] [(0, .slice (some ⟨p.1, 0, none⟩) n p.2), (1, fEq)] _ w (fun u => by kernel_rfl) rfl rfl ⟨rfl, rfl, fun x hx => by simp at hx; rcases hx with rfl | rfl <;> rfl⟩ hP hB _ ?_
  intro a1 w1 hs1 hb1
  have hP1 := hP.below (hb1.mono hB)
  have hB1 := Nat.le_trans hB hb1.size
  refine wp_seq ?_
  refine @code_TL (ixC B L p n 0 0 (0, 0) (0, 0) [] ixLen) Try.prog hmix hk0 rfl 300 [_] _ 19 [(0, .sy 0), (1, .clo fEq)] [(0, .sy 0), (1, .clo fEq), (7, .sy 3), (8, .clo (iv 0))] [(0, .slice (some ⟨p.1, 0, none⟩) n p.2), (1, fEq)] [(0, .slice (some ⟨p.1, 0, none⟩) n p.2), (1, fEq), (7, iv n), (8, iv 0)] _ w1 (fun u => by kernel_rfl) rfl rfl hs1 hP1 hB1 _ ?_
  intro a2 w2 hs2 hb2
  have hb2' := hb1.trans (hb2.mono hb1.size)
  clear hb2 hs1 hP1 hB1
  refine wp_block ?_
  refine wp_loop (fun x w' => ∃ k : Nat, k ≤ n ∧ Tmps 19 [(0, .slice (some ⟨p.1, 0, none⟩) n p.2), (1, fEq), (7, iv n), (8, iv k)] x ∧ Below w.heap.size w w' ∧ ∀ i, i < k → dupAt L i = false) (fun x _ => n - (intOf (x.tmps.getD 8 undef)).toNat) ⟨0, Nat.zero_le _, hs2, hb2', fun i hi => by omega⟩ ?_
  rintro a3 w3 ⟨k, hk, hs3, hb3, hal⟩
  have hP3 := hP.below (hb3.mono hB)
  have hB3 := Nat.le_trans hB hb3.size
  by_cases hkn : k < n
  · obtain ⟨x, hx⟩ : ∃ x, x = nth L k := ⟨_, rfl⟩
    obtain ⟨y, hy⟩ : ∃ y, y = nth L ((k + 1) % L.length) := ⟨_, rfl⟩
    have hk1 : @KnownOK (ixC B L p n k 0 x y [(45, [.agg [.sy 5, .sy 6, .sy 9, .sy 10]], .clo (.bool (dupAt L k)))] (awOps true ++ ixAt)) Try.prog := known_toldK 0 _ _ _ _ _ _ _ (fun z hz => by
        simp only [List.mem_cons, List.not_mem_nil, or_false] at hz
        subst hz
        refine ⟨[sdV x y], _, rfl, rfl, fun w _ => ?_⟩
        have := clos_any x y w
        unfold dupAt
        rw [← hx, ← hy]
        exact this) (fun _ h => by cases h) (fun z hz => (List.mem_append.1 hz).elim (fun h => by
          have := @ix_lss p n k 0 x y (SdK B L p) z
          rw [decide_eq_true hkn] at this
          exact this h) (fun h => by
          have := @ix_at B L p k 0 (by omega) hn0 z h
          rw [← hn] at this
          rw [hx, hy, ← hn]
          exact this))
    have h3 : a3.tmps.getD 8 undef = iv k := hs3.tmps (8, iv k) (by simp)
    cases hA : dupAt L k
    · rw [hA] at hk1
      refine @code_T (ixC B L p n k 0 x y [(45, [.agg [.sy 5, .sy 6, .sy 9, .sy 10]], .clo (.bool false))] (awOps true ++ ixAt)) Try.prog hmix hk1 rfl 300 _ 19 [(0, .sy 0), (1, .clo fEq), (7, .sy 3), (8, .sy 1)] .normal [(0, .sy 0), (1, .clo fEq), (7, .sy 3), (8, .sy 2)] [(0, .slice (some ⟨p.1, 0, none⟩) n p.2), (1, fEq), (7, iv n), (8, iv k)] [(0, .slice (some ⟨p.1, 0, none⟩) n p.2), (1, fEq), (7, iv n), (8, iv (k + 1 : Nat))] _ w3 (fun u => by kernel_rfl) rfl rfl hs3 hP3 hB3 _ ?_
      intro a4 w4 hs4 hb4
      refine ⟨⟨k + 1, by omega, hs4, hb3.trans (hb4.mono hb3.size), fun i hi => ?_⟩, ?_⟩
      · by_cases hik : i = k
        · subst hik; exact hA
        · exact hal i (by omega)
      · have h4 : a4.tmps.getD 8 undef = iv (k + 1 : Nat) := hs4.tmps (8, iv (k + 1 : Nat)) (by simp)
        rw [h3, h4]
        simp only [intOf]; omega
    · rw [hA] at hk1
      refine @code_T (ixC B L p n k 0 x y [(45, [.agg [.sy 5, .sy 6, .sy 9, .sy 10]], .clo (.bool true))] (awOps true ++ ixAt)) Try.prog hmix hk1 rfl 300 _ 19 [(0, .sy 0), (1, .clo fEq), (7, .sy 3), (8, .sy 1)] .ret [(4, .sy 1)] [(0, .slice (some ⟨p.1, 0, none⟩) n p.2), (1, fEq), (7, iv n), (8, iv k)] [(4, iv k)] _ w3 (fun u => by kernel_rfl) rfl rfl hs3 hP3 hB3 _ ?_
      intro a4 w4 hs4 hb4
      have h4 : a4.tmps.getD 4 undef = iv k := hs4.tmps (4, iv k) (by simp)
      have hr : dupIx L = (k : Int) := dupIx_some (by omega) hA hal
      rw [Array.getD_eq_getD_getElem?] at h4
      simp only [Ex.to, Exit.then, Exit.inBlock]
      simp [bodyPost, results, Try.results57, go_sem, h4, hr]
      exact ⟨hs4.defers, hb3.trans (hb4.mono hb3.size)⟩
  · have hk1 : @KnownOK (ixC B L p n k 0 (0, 0) (0, 0) [] (awOps false)) Try.prog := known_toldK 0 _ _ _ _ _ _ _ (fun _ h => by cases h) (fun _ h => by cases h) (fun z hz => by
          have := @ix_lss p n k 0 (0, 0) (0, 0) (SdK B L p) z
          rw [decide_eq_false hkn] at this
          exact this hz)
    refine @code_T (ixC B L p n k 0 (0, 0) (0, 0) [] (awOps false)) Try.prog hmix hk1 rfl 300 _ 19 [(0, .sy 0), (1, .clo fEq), (7, .sy 3), (8, .sy 1)] (.exit 0) [(0, .sy 0)] [(0, .slice (some ⟨p.1, 0, none⟩) n p.2), (1, fEq), (7, iv n), (8, iv k)] [(0, .slice (some ⟨p.1, 0, none⟩) n p.2)] _ w3 (fun u => by kernel_rfl) rfl rfl hs3 hP3 hB3 _ ?_
    intro a4 w4 hs4 hb4
    have hb4' := hb3.trans (hb4.mono hb3.size)
    have hP4 := hP.below (hb4'.mono hB)
    have hB4 := Nat.le_trans hB hb4'.size
    simp only [Ex.to, Exit.then, Exit.inBlock, if_true]
    refine @code_T (ixC B L p n k 0 (0, 0) (0, 0) [] (awOps false)) Try.prog hmix hk1 rfl 300 _ 19 [(0, .sy 0)] .ret [(4, .clo (iv (-1)))] [(0, .slice (some ⟨p.1, 0, none⟩) n p.2)] [(4, iv (-1))] _ w4 (fun u => by kernel_rfl) rfl rfl hs4 hP4 hB4 _ ?_
    intro a5 w5 hs5 hb5
    have h4 : a5.tmps.getD 4 undef = iv (-1) := hs5.tmps (4, iv (-1)) (by simp)
    have hr : dupIx L = -1 := dupIx_none fun i hi => hal i (by omega)
    rw [Array.getD_eq_getD_getElem?] at h4
    simp only [Ex.to]
    simp [bodyPost, results, Try.results57, go_sem, h4, hr]
    exact ⟨hs5.defers, hb4'.trans (hb5.mono hb4'.size)⟩
end Go.Proofs.Ytbdlbcnjbafloaa
