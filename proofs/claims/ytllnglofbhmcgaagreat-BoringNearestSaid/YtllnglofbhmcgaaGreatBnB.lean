/- Layer 14 (boring): the nearest boring. -/
import Derived.Test.YtllnglofbhmcgaaGreatBnA
import Derived.Test.YtllnglofbhmcgaaGreatTkM
namespace Go.Proofs.YtllnglofbhmcgaaGreat
open Go.RowKit Go.Ev
set_option maxRecDepth 100000
/-- A boring: its name and its logs are values of one cell. -/
structure Bo where
  (nm lg : Sym)
  (x y : Int)
abbrev iv (z : Int) : Value := .int .i64 z
abbrev intSym (k : IntKind) (n : Int) : Sym := ⟨.int k n, rfl, fun _ h => by cases h⟩
abbrev slSym (a : Option Addr) (n c : Nat) : Sym := ⟨.slice a n c, rfl, fun _ h => by cases h⟩
abbrev ptSym (a : Addr) : Sym := ⟨.pointer (some a), rfl, fun _ h => by cases h⟩
abbrev encO (b : Bo) : List Value := [b.nm.v, iv b.x, iv b.y, b.lg.v]
abbrev boV (b : Bo) : Value := .agg #[b.nm.v, iv b.x, iv b.y, b.lg.v]
theorem encO_len (b : Bo) : (encO b).length = 4 := rfl
abbrev tBo : TypeId := 33
abbrev tPo : TypeId := 30
abbrev tBs : TypeId := 22
def mxZ (a b : Int) : Int := if b > a then b else a
def mnZ (a b : Int) : Int := if b < a then b else a
def alwP (x y : Int) : Bool := decide (mxZ x y ≤ 1000000) && decide (-1000000 ≤ mnZ x y)
theorem alwP_iff {x y : Int} : alwP x y = true ↔ (-1000000 ≤ x ∧ x ≤ 1000000) ∧ (-1000000 ≤ y ∧ y ≤ 1000000) := by
  unfold alwP mxZ mnZ
  simp only [Bool.and_eq_true, decide_eq_true_eq]
  split <;> split <;> omega
abbrev pcs : List CV := [.sy 0, .sy 1]
abbrev boC : CV := .agg [.sy 2, .sy 0, .sy 1, .sy 3]
abbrev bnSym (b e : Bo) (px py : Int) (a : Option Addr) (a' : Addr) (n c k j : Nat) : Tm → Sym
  | .v 0 => intSym .i64 b.x
  | .v 1 => intSym .i64 b.y
  | .v 2 => b.nm
  | .v 3 => b.lg
  | .v 5 => intSym .i64 e.x
  | .v 6 => intSym .i64 e.y
  | .v 10 => intSym .i64 px
  | .v 11 => intSym .i64 py
  | .v 12 => intSym .i64 (mxZ b.x b.y)
  | .v 13 => intSym .i64 (mnZ b.x b.y)
  | .v 20 => slSym a n c
  | .v 21 => intSym .i64 n
  | .v 22 => intSym .i64 k
  | .v 23 => intSym .i64 (k + 1 : Nat)
  | .v 24 => ptSym (a'.add (k * 4))
  | .v 27 => ptSym ((a'.add (k * 4)).add 1)
  | .v 30 => ptSym ((a'.add (k * 4)).add 2)
  | .v 25 => intSym .i64 j
  | .v 26 => ptSym (a'.add (j * 4))
  | .v 28 => ptSym ((a'.add (j * 4)).add 1)
  | .v 31 => ptSym ((a'.add (j * 4)).add 2)
  | .v 40 => intSym .i64 (b.x - px)
  | .v 41 => intSym .i64 (b.y - py)
  | .v 42 => intSym .i64 ((b.x - px) * (b.x - px))
  | .v 43 => intSym .i64 ((b.y - py) * (b.y - py))
  | .v 44 => intSym .i64 ((b.x - px) * (b.x - px) + (b.y - py) * (b.y - py))
  | .v 50 => intSym .i64 (e.x - px)
  | .v 51 => intSym .i64 (e.y - py)
  | .v 52 => intSym .i64 ((e.x - px) * (e.x - px))
  | .v 53 => intSym .i64 ((e.y - py) * (e.y - py))
  | .v 54 => intSym .i64 ((e.x - px) * (e.x - px) + (e.y - py) * (e.y - py))
  | _ => intSym .i64 0
abbrev boK (B : Nat) (L : List Bo) (a : Option Addr) (w : World) : Prop := ElAt encO B L a w
/-! ### Points that are allowed -/
abbrev alO (m q : Bool) : List KOp := [(.mx, [.sy 0, .sy 1], .sy 12), (.bin .leq 3, [.sy 12, .clo (iv 1000000)], .clo (.bool m)), (.mn, [.sy 0, .sy 1], .sy 13), (.bin .geq 3, [.sy 13, .clo (iv (-1000000))], .clo (.bool q))]
abbrev b0 : Bo := ⟨intSym .i64 0, intSym .i64 0, 0, 0⟩
theorem isAllowed_any (b : Bo) (w : World) : Calls Tryz.prog 41 #[.agg #[iv b.x, iv b.y]] w fun e w' => e = .returned (.bool (alwP b.x b.y)) ∧ Below w.heap.size w w' := by
  have hev : ∀ m q : Bool, resC (evalFn0 Tryz.prog (@evalC (toldK 0 (bnSym b b0 0 0 none ⟨0, 0, none⟩ 0 0 0 0) [] [] (alO m q) (fun _ => True) 0 (fun _ _ _ _ => trivial)) Tryz.prog 300 true) 0 41 [.agg pcs] ⟨0, []⟩) = some (.clo (.bool (m && q))) := by
    intro m q; cases m <;> cases q <;> kernel_rfl
  exact calls_toldR hmix (bnSym b b0 0 0 none ⟨0, 0, none⟩ 0 0 0 0) [] [] (alO (decide (mxZ b.x b.y ≤ 1000000)) (decide (-1000000 ≤ mnZ b.x b.y))) (fun _ => True) 0 (fun _ _ _ _ => trivial) aN aN
    (aC ⟨[iv b.x, iv b.y], iv (mxZ b.x b.y), rfl, rfl, tells_mx rfl⟩ (aC ⟨[iv (mxZ b.x b.y), iv 1000000], _, rfl, rfl, tells_leq rfl⟩ (aC ⟨[iv b.x, iv b.y], iv (mnZ b.x b.y), rfl, rfl, tells_mn rfl⟩ (aC ⟨[iv (mnZ b.x b.y), iv (-1000000)], _, rfl, rfl, tells_geq rfl⟩ aN)))) (n := 300) (args := [.agg pcs]) (xs := [.agg #[iv b.x, iv b.y]]) rfl _ (hev _ _) rfl w trivial (Nat.zero_le _)
abbrev iaCall (m : Bool) : KCall := (41, [.agg pcs], .clo (.bool m))
theorem bad_any (b : Bo) (w : World) : Calls Tryz.prog 43 #[boV b] w fun e w' => e = .returned (.bool (!alwP b.x b.y)) ∧ Below w.heap.size w w' := by
  have hev : ∀ m : Bool, resC (evalFn0 Tryz.prog (@evalC (toldK 0 (bnSym b b0 0 0 none ⟨0, 0, none⟩ 0 0 0 0) [iaCall m] [] [] (fun _ => True) 0 (fun _ _ _ _ => trivial)) Tryz.prog 300 true) 0 43 [boC] ⟨0, []⟩) = some (.clo (.bool (!m))) := by
    intro m; cases m <;> kernel_rfl
  exact calls_toldM hmix (bnSym b b0 0 0 none ⟨0, 0, none⟩ 0 0 0 0) [iaCall (alwP b.x b.y)] [] [] (fun _ => True) 0 (fun _ _ _ _ => trivial) (aC ⟨[.agg #[iv b.x, iv b.y]], _, rfl, rfl, fun w _ => isAllowed_any b w⟩ aN) aN aN (n := 300) (args := [boC]) (xs := [boV b]) rfl _ (hev _) rfl w trivial (Nat.zero_le _)
/-! ### The first one whose point is not allowed -/
section
variable {B : Nat} {L : List Bo} {b e : Bo} {px py : Int} {a : Option Addr} {a' : Addr} {n c k j : Nat} {K : World → Prop}
abbrev lnB : KOp := (.ln tBs, [.sy 20], .sy 21)
abbrev lssB (m : Bool) : KOp := (.bin .lss 3, [.sy 22, .sy 21], .clo (.bool m))
abbrev incB : KOp := (.bin .add 3, [.sy 22, .clo (iv 1)], .sy 23)
abbrev ixB : KOp := (.ixa tBs, [.sy 20, .sy 22], .sy 24)
abbrev ldB : KOp := (.ld tBo, [.sy 24], boC)
theorem ln_b : OpAt Tryz.prog (bnSym b e px py a a' n c k j) K lnB := OpIs.at ⟨[.slice a n c], iv n, rfl, rfl, tells_ln (e := tBo) (by kernel_rfl)⟩ K
theorem lss_b {m : Bool} (h : decide (k < n) = m) : OpAt Tryz.prog (bnSym b e px py a a' n c k j) K (lssB m) := OpIs.at ⟨[iv k, iv n], _, rfl, rfl, tells_lss (by rw [← h, decide_eq_decide]; omega)⟩ K
theorem inc_b (hk : k < 1000000) : OpAt Tryz.prog (bnSym b e px py a a' n c k j) K incB := OpIs.at ⟨[iv k, iv 1], iv (k + 1 : Nat), rfl, rfl, tells_add (by rw [IntKind.wrap_i64]; omega)⟩ K
theorem ix_b (hk : k < n) : OpAt Tryz.prog (bnSym b e px py (some a') a' n c k j) K ixB := OpIs.at ⟨[.slice (some a') n c, iv k], .pointer (some (a'.add (k * 4))), rfl, rfl, tells_ixaE (e := tBo) (by kernel_rfl) (by kernel_rfl) hk⟩ K
theorem ld_b (hK : ∀ w, K w → boK B L (some a') w) (hp : L[k]? = some b) : OpAt Tryz.prog (bnSym b e px py (some a') a' n c k j) K ldB := ⟨[.pointer (some (a'.add (k * 4)))], boV b, rfl, rfl, ElAt.ld (enc := encO) encO_len (by kernel_rfl) (by kernel_rfl) hK hp⟩
end
abbrev fBad : Value := .func (.func 43) #[] #[]
def badAt (b : Bo) : Bool := !alwP b.x b.y
/-- The first such one, or -1. -/
def badIx (L : List Bo) : Int := if L.findIdx badAt < L.length then (L.findIdx badAt : Nat) else -1
theorem badIx_some {L : List Bo} {k : Nat} {b : Bo} (hp : L[k]? = some b) (h : badAt b = true) (hl : ∀ q ∈ L.take k, badAt q = false) : badIx L = (k : Int) := by
  have hk := (List.getElem?_eq_some_iff.1 hp).1
  have : L.findIdx badAt = k := by
    rw [List.findIdx_eq hk]
    refine ⟨by rw [(List.getElem?_eq_some_iff.1 hp).2]; exact h, fun j hj => hl _ ?_⟩
    rw [List.mem_take_iff_getElem]
    exact ⟨j, by omega, rfl⟩
  unfold badIx
  rw [this, if_pos hk]
theorem badIx_none {L : List Bo} (hl : ∀ q ∈ L, badAt q = false) : badIx L = -1 := by
  have : L.findIdx badAt = L.length := by
    rw [List.findIdx_eq_length]
    exact hl
  unfold badIx
  rw [this, if_neg (by omega)]
theorem badIx_ge {L : List Bo} : 0 ≤ badIx L ↔ ¬ ∀ q ∈ L, badAt q = false := by
  constructor
  · intro h hl
    rw [badIx_none hl] at h
    omega
  · intro h
    unfold badIx
    split
    · omega
    · rename_i hn
      refine absurd (fun q hq => ?_) h
      cases hb : badAt q with
      | false => rfl
      | true => exact absurd (List.findIdx_lt_length_of_exists ⟨q, hq, hb⟩) hn
theorem take_bad {L : List Bo} {k : Nat} {p : Bo} (hp : L[k]? = some p) (hal : ∀ q ∈ L.take k, badAt q = false) (h : badAt p = false) : ∀ q ∈ L.take (k + 1), badAt q = false := by
  intro q hq
  rw [List.take_add_one, hp] at hq
  rcases List.mem_append.1 hq with hq | hq
  · exact hal q hq
  · simp at hq; subst hq; exact h
abbrev bnC (B : Nat) (L : List Bo) (b e : Bo) (px py : Int) (a : Option Addr) (a' : Addr) (n c k j : Nat) (lc : List KCall) (lv : List KOp) : Ctxt := toldK 0 (bnSym b e px py a a' n c k j) lc [] lv (boK B L a) B ElAt.kst
abbrev badCall (m : Bool) : KCall := (43, [boC], .clo (.bool m))
theorem index_any (B : Nat) (L : List Bo) (a : Option Addr) (c : Nat) (hn0 : L.length ≤ 100000) (w : World) (hP : boK B L a w) (hB : B ≤ w.heap.size) :
    Calls Tryz.prog 74 #[.slice a L.length c, fBad] w fun e w' => e = .returned (iv (badIx L)) ∧ Below w.heap.size w w' := by
  obtain ⟨n, hn⟩ : ∃ n, n = L.length := ⟨_, rfl⟩
  rw [← hn]
  have hk0 : @KnownOK (bnC B L b0 b0 0 0 a ⟨0, 0, none⟩ n c 0 0 [] [lnB]) Tryz.prog := known_toldK 0 _ _ _ _ _ _ _ aN aN (aC ln_b aN)
  go_enter Tryz.func74, Tryz.ntmps74
  refine @code_TL (bnC B L b0 b0 0 0 a ⟨0, 0, none⟩ n c 0 0 [] [lnB]) Tryz.prog hmix hk0 rfl 300 [_] _ 19 [(0, .sy 20), (1, .clo fBad)] [(0, .sy 20), (1, .clo fBad)] [(0, .slice a n c), (1, fBad)] [(0, .slice a n c), (1, fBad)] _ w (fun u => by kernel_rfl) rfl rfl ⟨rfl, rfl, fun x hx => by simp at hx; rcases hx with rfl | rfl <;> rfl⟩ hP hB _ ?_
  intro a1 w1 hs1 hb1
  have hP1 := hP.below hb1 hB
  have hB1 := Nat.le_trans hB hb1.size
  refine wp_seq ?_
  refine @code_TL (bnC B L b0 b0 0 0 a ⟨0, 0, none⟩ n c 0 0 [] [lnB]) Tryz.prog hmix hk0 rfl 300 [_] _ 19 [(0, .sy 20), (1, .clo fBad)] [(0, .sy 20), (1, .clo fBad), (7, .sy 21), (8, .clo (iv 0))] [(0, .slice a n c), (1, fBad)] [(0, .slice a n c), (1, fBad), (7, iv n), (8, iv 0)] _ w1 (fun u => by kernel_rfl) rfl rfl hs1 hP1 hB1 _ ?_
  intro a2 w2 hs2 hb2
  have hb2' := hb1.trans (hb2.mono hb1.size)
  clear hb2 hs1 hP1 hB1
  refine wp_block ?_
  refine wp_upto 19 n 8 (fun k => [(0, .slice a n c), (1, fBad), (7, iv n), (8, iv k)]) (fun k w' => Below w.heap.size w w' ∧ ∀ q ∈ L.take k, badAt q = false) (fun k => by simp) hs2 ⟨hb2', fun q hq => by simp at hq⟩ ?_
  rintro k a3 w3 hk hs3 ⟨hb3, hal⟩
  have hP3 := hP.below hb3 hB
  have hB3 := Nat.le_trans hB hb3.size
  by_cases hkn : k < n
  · obtain ⟨b, hp⟩ : ∃ p, L[k]? = some p := ⟨L[k]'(by omega), by simp [show k < L.length by omega]⟩
    obtain ⟨a', rfl⟩ := hP.ex (by omega)
    have hk1 : ∀ m, badAt b = m → @KnownOK (bnC B L b b0 0 0 (some a') a' n c k 0 [badCall m] [lssB true, incB, ixB, ldB]) Tryz.prog := fun m hm => known_toldK 0 _ _ _ _ _ _ _ (aC ⟨[boV b], _, rfl, rfl, fun w _ => by have := bad_any b w; rw [← hm]; exact this⟩ aN) aN (aC (lss_b (decide_eq_true hkn)) (aC (inc_b (by omega)) (aC (ix_b hkn) (aC (ld_b (fun w hw => hw) hp) aN))))
    cases hA : badAt b
    · refine @code_T (bnC B L b b0 0 0 (some a') a' n c k 0 [badCall false] [lssB true, incB, ixB, ldB]) Tryz.prog hmix (hk1 false hA) rfl 300 _ 19 [(0, .sy 20), (1, .clo fBad), (7, .sy 21), (8, .sy 22)] .normal [(0, .sy 20), (1, .clo fBad), (7, .sy 21), (8, .sy 23)] [(0, .slice (some a') n c), (1, fBad), (7, iv n), (8, iv k)] [(0, .slice (some a') n c), (1, fBad), (7, iv n), (8, iv (k + 1 : Nat))] _ w3 (fun u => by kernel_rfl) rfl rfl hs3 hP3 hB3 _ ?_
      intro a4 w4 hs4 hb4
      exact ⟨hkn, hs4, hb3.trans (hb4.mono hb3.size), take_bad hp hal hA⟩
    · refine @code_T (bnC B L b b0 0 0 (some a') a' n c k 0 [badCall true] [lssB true, incB, ixB, ldB]) Tryz.prog hmix (hk1 true hA) rfl 300 _ 19 [(0, .sy 20), (1, .clo fBad), (7, .sy 21), (8, .sy 22)] .ret [(4, .sy 22)] [(0, .slice (some a') n c), (1, fBad), (7, iv n), (8, iv k)] [(4, iv k)] _ w3 (fun u => by kernel_rfl) rfl rfl hs3 hP3 hB3 _ ?_
      intro a4 w4 hs4 hb4
      have h4 : a4.tmps.getD 4 undef = iv k := hs4.tmps (4, iv k) (by simp)
      rw [Array.getD_eq_getD_getElem?] at h4
      simp only [Ex.to, Exit.then, Exit.inBlock]
      simp [bodyPost, results, Tryz.results74, go_sem, h4, badIx_some hp hA hal]
      exact ⟨hs4.defers, hb3.trans (hb4.mono hb3.size)⟩
  · have hk1 : @KnownOK (bnC B L b0 b0 0 0 a ⟨0, 0, none⟩ n c k 0 [] [lssB false]) Tryz.prog := known_toldK 0 _ _ _ _ _ _ _ aN aN (aC (lss_b (decide_eq_false hkn)) aN)
    refine @code_T (bnC B L b0 b0 0 0 a ⟨0, 0, none⟩ n c k 0 [] [lssB false]) Tryz.prog hmix hk1 rfl 300 _ 19 [(0, .sy 20), (1, .clo fBad), (7, .sy 21), (8, .sy 22)] (.exit 0) [(0, .sy 20)] [(0, .slice a n c), (1, fBad), (7, iv n), (8, iv k)] [(0, .slice a n c)] _ w3 (fun u => by kernel_rfl) rfl rfl hs3 hP3 hB3 _ ?_
    intro a4 w4 hs4 hb4
    simp only [Ex.to, Exit.then, Exit.inBlock, if_true]
    have hb4' := hb3.trans (hb4.mono hb3.size)
    refine @code_T (bnC B L b0 b0 0 0 a ⟨0, 0, none⟩ n c k 0 [] [lssB false]) Tryz.prog hmix hk1 rfl 300 _ 19 [(0, .sy 20)] .ret [(4, .clo (iv (-1)))] [(0, .slice a n c)] [(4, iv (-1))] _ w4 (fun u => by kernel_rfl) rfl rfl hs4 (hP.below hb4' hB) (Nat.le_trans hB hb4'.size) _ ?_
    intro a5 w5 hs5 hb5
    have h4 : a5.tmps.getD 4 undef = iv (-1) := hs5.tmps (4, iv (-1)) (by simp)
    rw [Array.getD_eq_getD_getElem?] at h4
    simp only [Ex.to]
    simp [bodyPost, results, Tryz.results74, go_sem, h4, badIx_none fun q hq => hal q (by rw [List.take_of_length_le (by omega)]; exact hq)]
    exact ⟨hs5.defers, hb4'.trans (hb5.mono hb4'.size)⟩
end Go.Proofs.YtllnglofbhmcgaaGreat
