/- Layer 9 (lexer): functions of the library as the lexer calls them. -/
import Derived.Test.YtcbphahdodjbiaaDoorLyA
import Derived.Test.YtcbphahdodjbiaaDoorTlS
import Derived.Lib.AppendIntMem
import Derived.Lib.AtoiErrMem
import Derived.LoopN
namespace Go.Proofs.YtcbphahdodjbiaaDoor
open Go.RowKit Go.Ev
set_option maxRecDepth 100000

def pow10 : List Int := [1, 10, 100, 1000, 10000, 100000, 1000000, 10000000, 100000000, 1000000000, 10000000000, 100000000000, 1000000000000, 10000000000000, 100000000000000, 1000000000000000, 10000000000000000, 100000000000000000, 1000000000000000000, 10000000000000000000]
def powV : List Value := pow10.map fun z => .int .u64 z
abbrev gTab : Nat := 0
abbrev gLen : Nat := 1
abbrev gSyn : Nat := 2
abbrev gRng : Nat := 3
abbrev gTop : Nat := max gTab (max gLen (max gSyn gRng)) + 1
/-- What the lexer wants of the world: the table of the powers of ten, a length, two errors. -/
def LxW (w : World) : Prop :=
  gTop ≤ w.heap.size ∧ (∃ ty, w.heap[gTab]? = some (.cells powV.toArray ty (0, 0))) ∧ (∃ m, w.cell? ⟨gLen, 0, none⟩ = some (.int .i64 m)) ∧
  (∃ ev, w.cell? ⟨gSyn, 0, none⟩ = some ev ∧ (ev = .nilIface ∨ ∃ te pe, ev = .iface te pe)) ∧
  (∃ ev, w.cell? ⟨gRng, 0, none⟩ = some ev ∧ (ev = .nilIface ∨ ∃ te pe, ev = .iface te pe))
theorem LxW.below {w w' : World} {B : Nat} (h : LxW w) (hb : Below B w w') (hB : gTop ≤ B) : LxW w' := by
  obtain ⟨h0, ⟨ty, h1⟩, ⟨m, h2⟩, ⟨e1, h3, h4⟩, ⟨e2, h5, h6⟩⟩ := h
  exact ⟨Nat.le_trans h0 hb.size, ⟨ty, (hb.block _ (by show gTab < B; unfold gTop at hB; omega)).trans h1⟩, ⟨m, (hb.cell (p := ⟨gLen, 0, none⟩) (by show gLen < B; unfold gTop at hB; omega)).trans h2⟩,
    ⟨e1, (hb.cell (p := ⟨gSyn, 0, none⟩) (by show gSyn < B; unfold gTop at hB; omega)).trans h3, h4⟩,
    ⟨e2, (hb.cell (p := ⟨gRng, 0, none⟩) (by show gRng < B; unfold gTop at hB; omega)).trans h5, h6⟩⟩
theorem LxW.tab {w : World} (h : LxW w) : Lib.TabIs Tryd.prog w "internal/strconv.uint64pow10" .u64 Lib.pow10Tab := by
  obtain ⟨_, ⟨ty, h⟩, _⟩ := h
  have hgn : Tryd.prog.globalNamed "internal/strconv.uint64pow10" = some gTab := by kernel_rfl
  unfold Lib.TabIs World.var?
  rw [hgn]
  simp only [Option.bind_some, h]
  have : powV.toArray = (Lib.pow10Tab.map fun z => Value.int .u64 z).toArray := by kernel_rfl
  rw [this]
  try rfl

abbrev iv (z : Int) : Value := .int .i64 z
abbrev strV (l : List UInt8) : Value := .string ⟨l.toArray⟩
theorem str_size (a : List UInt8) : (⟨a.toArray⟩ : ByteArray).size = a.length := by simp [ByteArray.size]
theorem str_list (a : List UInt8) : (⟨a.toArray⟩ : ByteArray).data.toList = a := by simp
theorem below_drL {Z : Nat} {w w' : World} (h : Below Z w w') (n : Nat) : Below Z w (w'.drewN n) := ⟨h.os, h.tape, h.output, h.size, h.block⟩
theorem fmt_any (n : Int) (h : In64 n) (w : World) (hw : LxW w) : Calls Tryd.prog 19 #[iv n, iv 10] w fun e w' => e = .returned (strV (Lib.itoa n)) ∧ Below w.heap.size w w' := by
  refine (Any.strconv_FormatInt_10 Tryd.laysFormat n h.1 h.2 w hw.tab).mono fun e w' ⟨he, k, os, hs⟩ => ⟨he, ?_⟩
  subst hs
  exact Lib.below_grow _ w (Nat.le_refl _) k os
/-- What ParseInt's error is. -/
def errIs (b : Bool) (E : Value) : Prop := cond b (∃ t a, E = .iface t (.pointer (some a))) (E = .nilIface)
theorem pint_any (s : List UInt8) (hs : s.length ≤ 1000) (w : World) (hw : LxW w) : Calls Tryd.prog 30 #[strV s, iv 10, iv 64] w fun e w' => (∃ E, errIs (pE s) E ∧ e = .returned (.tuple #[iv (pI s), E])) ∧ Below w.heap.size w w' := by
  obtain ⟨_, _, _, ⟨e1, h3, h4⟩, ⟨e2, h5, h6⟩⟩ := hw
  have hz := str_size s
  have hd := str_list s
  unfold pI pE
  rcases hp : Lib.parseIntB 64 s with v | _ | _
  · refine (Any.strconv_ParseInt_10_at64_ok Tryd.laysParse ⟨s.toArray⟩ (by rw [hz]; omega) v (by rw [hd]; exact hp) w).mono fun e w' ⟨he, hs⟩ => ⟨⟨_, rfl, he⟩, ?_⟩
    rcases hs with rfl | ⟨t, rfl⟩
    · exact Below.refl _ _
    · exact Lib.bytesWorld_below _ _ _
  · refine (Any.strconv_ParseInt_10_at64_syntax Tryd.laysParse ⟨s.toArray⟩ (by rw [hz]; omega) (by rw [hd]; exact hp) e1 w h3 h4).mono fun e w' ⟨N, he, _, _, hb⟩ => ⟨⟨_, ⟨_, _, rfl⟩, he⟩, hb⟩
  · refine (Any.strconv_ParseInt_10_at64_range Tryd.laysParse ⟨s.toArray⟩ (by rw [hz]; omega) (by rw [hd]; exact hp) e2 w h5 h6).mono fun e w' ⟨N, he, _, _, hb⟩ => ⟨⟨_, ⟨_, _, rfl⟩, he⟩, hb⟩
theorem cut_any (q : UInt8) (s : List UInt8) (hs : s.length ≤ 1000) (w : World) (hw : LxW w) : Calls Tryd.prog 40 #[strV s, strV [q]] w fun e w' =>
    e = .returned (.tuple #[strV (s.take (sp q s)), strV (if sp q s < s.length then s.drop (sp q s + 1) else []), .bool (decide (sp q s < s.length))]) ∧ Below w.heap.size w w' := by
  obtain ⟨_, _, ⟨m, h2⟩, _⟩ := hw
  have hz := str_size s
  refine (Any.strings_Cut { Tryd.laysCut with } ⟨s.toArray⟩ ⟨#[q]⟩ m w (by rw [hz]; omega) h2).mono fun e w' ⟨he, k, hk⟩ => ?_
  subst hk
  refine ⟨?_, below_drL (Below.refl _ w) k⟩
  rw [he, str_list, show (⟨#[q]⟩ : ByteArray).data.toList = [q] from rfl, cut_sl]
  by_cases h : sp q s < s.length
  · simp [h]
  · have := sp_le q s
    simp [show sp q s = s.length by omega]
theorem trim_any (s : List UInt8) (w : World) : Calls Tryd.prog 38 #[strV s, strV [45]] w fun e w' => e = .returned (strV (s.drop (sg s))) ∧ w' = w := by
  refine (Any.strings_TrimPrefix Tryd.laysTrim ⟨s.toArray⟩ ⟨#[45]⟩ w).mono fun e w' ⟨he, hw⟩ => ⟨?_, hw⟩
  rw [he, str_list, show (⟨#[45]⟩ : ByteArray).data.toList = [45] from rfl]
  have : Lib.trimPrefix s [45] = s.drop (sg s) := by
    unfold Lib.trimPrefix sg
    cases s with
    | nil => simp
    | cons c r =>
      by_cases hc : c = 45
      · subst hc; simp [Lib.hasPrefix]
      · simp [Lib.hasPrefix, hc, List.isPrefixOf, show ¬ (45 : UInt8) = c from fun h => hc h.symm]
  rw [this]
theorem clone_any (s : List UInt8) (hs : s.length ≤ 1000) (w : World) : Calls Tryd.prog 10 #[strV s] w fun e w' => e = .returned (strV s) ∧ Below w.heap.size w w' := by
  have HC := Lib.hid (Any.stringslite_Clone Tryd.laysClone ⟨s.toArray⟩ w (by rw [str_size]; omega))
  go_enter Tryd.func10, Tryd.ntmps10
  go_wp2_with fail
  refine (HC.out).mono ?_
  rintro e w' ⟨rfl, hb⟩
  go_wp2_with fail
  go_ret
  exact ⟨rfl, hb⟩
end Go.Proofs.YtcbphahdodjbiaaDoor
