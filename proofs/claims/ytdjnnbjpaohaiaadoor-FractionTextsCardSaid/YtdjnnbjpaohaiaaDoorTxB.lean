/- Layer 4 (fraction): FormatInt, ParseInt and strings.Cut as the program calls them. -/
import Derived.Test.YtdjnnbjpaohaiaaDoorTxA
import Derived.Test.YtdjnnbjpaohaiaaDoorTxS
import Derived.Lib.AppendIntMem
import Derived.Lib.AtoiErrMem
namespace Go.Proofs.YtdjnnbjpaohaiaaDoor
open Go.RowKit Go.Ev
set_option maxRecDepth 100000

/-- What the texts want of the world: the table of the powers of ten, a length, two errors. -/
def TxW (w : World) : Prop :=
  HasPow w ∧ (∃ m, w.cell? ⟨2, 0, none⟩ = some (.int .i64 m)) ∧
  (∃ ev, w.cell? ⟨3, 0, none⟩ = some ev ∧ (ev = .nilIface ∨ ∃ te pe, ev = .iface te pe)) ∧
  (∃ ev, w.cell? ⟨4, 0, none⟩ = some ev ∧ (ev = .nilIface ∨ ∃ te pe, ev = .iface te pe))
theorem TxW.below {w w' : World} {B : Nat} (h : TxW w) (hb : Below B w w') (hB : 5 < B) : TxW w' := by
  obtain ⟨h1, ⟨m, h2⟩, ⟨e1, h3, h4⟩, ⟨e2, h5, h6⟩⟩ := h
  exact ⟨h1.below hb hB, ⟨m, (hb.cell (p := ⟨2, 0, none⟩) (by show 2 < B; omega)).trans h2⟩,
    ⟨e1, (hb.cell (p := ⟨3, 0, none⟩) (by show 3 < B; omega)).trans h3, h4⟩,
    ⟨e2, (hb.cell (p := ⟨4, 0, none⟩) (by show 4 < B; omega)).trans h5, h6⟩⟩
theorem HasPow.size {w : World} (h : HasPow w) : 5 < w.heap.size := by
  obtain ⟨ty, h⟩ := h
  rcases Nat.lt_or_ge 5 w.heap.size with h' | h'
  · exact h'
  · rw [Array.getElem?_eq_none h'] at h; cases h
theorem HasPow.tab {w : World} (h : HasPow w) : Lib.TabIs Tryd.prog w "internal/strconv.uint64pow10" .u64 Lib.pow10Tab := by
  obtain ⟨ty, h⟩ := h
  have hgn : Tryd.prog.globalNamed "internal/strconv.uint64pow10" = some 5 := by kernel_rfl
  unfold Lib.TabIs World.var?
  rw [hgn]
  simp only [Option.bind_some, h]
  have : powV.toArray = (Lib.pow10Tab.map fun z => Value.int .u64 z).toArray := by kernel_rfl
  rw [this]
  try rfl

theorem below_dr {Z : Nat} {w w' : World} (h : Below Z w w') (n : Nat) : Below Z w (w'.drewN n) := ⟨h.os, h.tape, h.output, h.size, h.block⟩
abbrev strV (l : List UInt8) : Value := .string ⟨l.toArray⟩
theorem fmt_any (n : Int) (h : In64 n) (w : World) (hw : TxW w) : Calls Tryd.prog 63 #[iv n, iv 10] w fun e w' => e = .returned (strV (Lib.itoa n)) ∧ Below w.heap.size w w' := by
  refine (Any.strconv_FormatInt_10 Tryd.laysFormat n h.1 h.2 w hw.1.tab).mono fun e w' ⟨he, k, os, hs⟩ => ⟨he, ?_⟩
  subst hs
  exact Lib.below_grow _ w (Nat.le_refl _) k os
theorem pint_any (s : List UInt8) (hs : s.length ≤ 1000) (w : World) (hw : TxW w) : Calls Tryd.prog 62 #[strV s, iv 10, iv 64] w fun e w' => (∃ E, e = .returned (.tuple #[iv (pI s), E])) ∧ Below w.heap.size w w' := by
  obtain ⟨_, _, ⟨e1, h3, h4⟩, ⟨e2, h5, h6⟩⟩ := hw
  have hz : (⟨s.toArray⟩ : ByteArray).size = s.length := by simp [ByteArray.size]
  have hd : (⟨s.toArray⟩ : ByteArray).data.toList = s := by simp
  unfold pI
  rcases hp : Lib.parseIntB 64 s with v | _ | _
  · refine (Any.strconv_ParseInt_10_at64_ok Tryd.laysParse ⟨s.toArray⟩ (by rw [hz]; omega) v (by rw [hd]; exact hp) w).mono fun e w' ⟨he, hs⟩ => ⟨⟨_, he⟩, ?_⟩
    rcases hs with rfl | ⟨t, rfl⟩
    · exact Below.refl _ _
    · exact Lib.bytesWorld_below _ _ _
  · refine (Any.strconv_ParseInt_10_at64_syntax Tryd.laysParse ⟨s.toArray⟩ (by rw [hz]; omega) (by rw [hd]; exact hp) e1 w h3 h4).mono fun e w' ⟨N, he, _, _, hb⟩ => ⟨⟨_, he⟩, hb⟩
  · refine (Any.strconv_ParseInt_10_at64_range Tryd.laysParse ⟨s.toArray⟩ (by rw [hz]; omega) (by rw [hd]; exact hp) e2 w h5 h6).mono fun e w' ⟨N, he, _, _, hb⟩ => ⟨⟨_, he⟩, hb⟩
theorem cut_any (s : List UInt8) (hs : s.length ≤ 1000) (w : World) (hw : TxW w) : Calls Tryd.prog 61 #[strV s, strV [47]] w fun e w' =>
    e = .returned (.tuple #[strV (s.take (sp s)), strV (if sp s < s.length then s.drop (sp s + 1) else []), .bool (decide (sp s < s.length))]) ∧ Below w.heap.size w w' := by
  obtain ⟨_, ⟨m, h2⟩, _⟩ := hw
  have hz : (⟨s.toArray⟩ : ByteArray).size = s.length := by simp [ByteArray.size]
  refine (Any.strings_Cut { Tryd.laysCut with } ⟨s.toArray⟩ ⟨#[47]⟩ m w (by rw [hz]; omega) h2).mono fun e w' ⟨he, k, hk⟩ => ?_
  subst hk
  refine ⟨?_, below_dr (Below.refl _ w) k⟩
  rw [he, show (⟨s.toArray⟩ : ByteArray).data.toList = s by simp, show (⟨#[47]⟩ : ByteArray).data.toList = [47] from rfl, cut_sl]
  by_cases h : sp s < s.length
  · simp [h]
  · have := sp_le s
    simp [show sp s = s.length by omega]
end Go.Proofs.YtdjnnbjpaohaiaaDoor
