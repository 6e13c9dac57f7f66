/- Layer 2 (codec): the law of changed bytes. -/
import Derived.Test.YtihcakicdelmoaaDoorCoC
import Derived.Test.YtihcakicdelmoaaDoorCoG
import Derived.Test.YtihcakicdelmoaaDoorCoK
import Derived.Test.YtihcakicdelmoaaDoorTsA
namespace Go.Proofs.YtihcakicdelmoaaDoor
open Go.RowKit Go.Ev

abbrev strSym (s : ByteArray) : Sym := ⟨.string s, rfl, fun _ h => by cases h⟩
abbrev intSym (k : IntKind) (n : Int) : Sym := ⟨.int k n, rfl, fun _ h => by cases h⟩

/-- One byte of a string put in. -/
def putIn (s : ByteArray) (k : Nat) (u : UInt8) : ByteArray := s.extract 0 k ++ ⟨#[u]⟩ ++ s.extract (k + 1) s.size

theorem putIn_size {s : ByteArray} {k : Nat} {u : UInt8} (hk : k < s.size) : (putIn s k u).size = s.size := by
  have h1 : (⟨#[u]⟩ : ByteArray).size = 1 := rfl
  simp only [putIn, ByteArray.size_append, ByteArray.size_extract, h1]
  omega
theorem putIn_list {s : ByteArray} {k : Nat} {u : UInt8} (hk : k < s.size) : (putIn s k u).data.toList = s.data.toList.take k ++ u :: s.data.toList.drop (k + 1) := by
  have hs : s.data.toList.length = s.size := by rw [Array.length_toList]; rfl
  simp only [putIn, ByteArray.data_append, ByteArray.data_extract, Array.toList_append, Array.toList_extract, List.extract, List.drop_zero, Nat.sub_zero]
  rw [List.take_of_length_le (l := List.drop (k + 1) s.data.toList) (by simp only [List.length_drop]; omega)]
  simp
theorem putIn_data {s : ByteArray} {k : Nat} {u : UInt8} (hk : k < s.size) (i : Nat) (_ : i < s.size) : (putIn s k u).data[i]? = if i = k then some u else s.data[i]? := by
  have hs : s.data.toList.length = s.size := by rw [Array.length_toList]; rfl
  rw [← Array.getElem?_toList, putIn_list hk, ← Array.getElem?_toList]
  generalize s.data.toList = l at hs ⊢
  have ht : (l.take k).length = k := by rw [List.length_take]; omega
  rcases Nat.lt_trichotomy i k with h | h | h
  · rw [if_neg (by omega), List.getElem?_append_left (by omega), List.getElem?_take, if_pos h]
  · subst h
    rw [if_pos rfl, List.getElem?_append_right (by omega), ht, Nat.sub_self]; rfl
  · rw [if_neg (by omega), List.getElem?_append_right (by omega), ht]
    obtain ⟨d, rfl⟩ : ∃ d, i = k + 1 + d := ⟨i - (k + 1), by omega⟩
    rw [show k + 1 + d - k = d + 1 by omega, List.getElem?_cons_succ, List.getElem?_drop]

abbrev chSym (s : ByteArray) (k : Nat) (u b : UInt8) : Tm → Sym
  | .v 0 => strSym s
  | .v 1 => intSym .i64 k
  | .v 2 => intSym .u8 u.toNat
  | .v 3 => intSym .i64 s.size
  | .v 4 => intSym .u8 b.toNat
  | .v 5 => strSym (strOf (hexN 16 (hashD s).toNat))
  | .v 6 => strSym (s.extract 0 k)
  | .v 7 => strSym ⟨#[u]⟩
  | .v 8 => strSym (s.extract 0 k ++ ⟨#[u]⟩)
  | .v 9 => strSym (s.extract (k + 1) s.size)
  | .v 10 => strSym (putIn s k u)
  | .v 11 => strSym (strOf (hexN 16 (hashD (putIn s k u)).toNat))
  | .v 12 => intSym .i64 (k + 1 : Nat)
  | _ => intSym .i64 0

abbrev gTab : Nat := 3
theorem tabs_kst (w w' : World) (h : HasTabs w) (hb : Below (gTab + 1) w w') : HasTabs w' := h.below hb (by show gTab < gTab + 1; omega)

set_option maxRecDepth 100000
theorem changes_main (s : ByteArray) (k : Nat) (u b : UInt8) (hk : k < s.size) (hb : s[k]? = some b) (hne : b ≠ u) (hs : s.size ≤ 1000) (w : World) (hT : HasTabs w) :
    Calls Tryd.prog 10 #[.string s, .int .i64 k, .int .u8 u.toNat] w fun e w' => e = .returned (.bool true) ∧ Below w.heap.size w w' := by
  have hz := putIn_size (u := u) hk
  have hd : strOf (hexN 16 (hashD (putIn s k u)).toNat) ≠ strOf (hexN 16 (hashD s).toNat) := by
    have g : ∀ i (h : i < s.size), (putIn s k u)[i]'(by omega) = if i = k then u else s[i]'h := fun i h => by
      have := putIn_data (u := u) hk i h
      have e1 : (putIn s k u).data[i]? = some ((putIn s k u)[i]'(by omega)) := by rw [Array.getElem?_eq_getElem]; rfl
      have e2 : s.data[i]? = some (s[i]'h) := by rw [Array.getElem?_eq_getElem]; rfl
      rw [e1, e2] at this
      split at this <;> simp_all
    have hbk : s[k]'hk = b := by
      have : s[k]? = some (s[k]'hk) := by simp [hk]
      rw [this] at hb; simpa using hb
    refine digest_ne hz k hk ?_ (fun i h hi => by rw [g i h, if_neg hi])
    rw [g k hk, if_pos rfl, hbk]
    exact fun h => hne h.symm
  refine calls_toldK (by kernel_rfl) 0 (chSym s k u b)
    [(11, [], .clo (.bool true)), (26, [.sy 0], .sy 5), (26, [.sy 10], .sy 11)]
    [(9, .sy 5, .sy 11, false)]
    [(.ln 9, [.sy 0], .sy 3), (.bin .gtr 3, [.sy 3, .clo (.int .i64 1000)], .clo (.bool false)), (.bin .lss 3, [.sy 1, .clo (.int .i64 0)], .clo (.bool false)),
     (.bin .geq 3, [.sy 1, .sy 3], .clo (.bool false)), (.idx 9, [.sy 0, .sy 1], .sy 4), (.bin .eql 5, [.sy 4, .sy 2], .clo (.bool false)),
     (.slc 9 false true, [.sy 0, .sy 1], .sy 6), (.byt, [.sy 2], .sy 7), (.bin .add 9, [.sy 6, .sy 7], .sy 8), (.bin .add 3, [.sy 1, .clo (.int .i64 1)], .sy 12),
     (.slc 9 true false, [.sy 0, .sy 12], .sy 9), (.bin .add 9, [.sy 8, .sy 9], .sy 10)]
    HasTabs (gTab + 1) tabs_kst ?_ ?_ ?_ (args := [.sy 0, .sy 1, .sy 2]) (xs := [.string s, .int .i64 k, .int .u8 u.toNat]) rfl [] (by kernel_rfl) w hT hT.lt (fun i b h => by simp [look_nil] at h) (n := 300)
  · intro r hr
    simp only [List.mem_cons, List.not_mem_nil, or_false] at hr
    rcases hr with rfl | rfl | rfl
    · exact ⟨[], .bool true, rfl, rfl, fun w hw => awake_any w hw⟩
    · exact ⟨[.string s], _, rfl, rfl, fun w hw => dig_any s (by omega) w hw.cell⟩
    · exact ⟨[.string (putIn s k u)], _, rfl, rfl, fun w hw => dig_any (putIn s k u) (by omega) w hw.cell⟩
  · intro r hr
    simp only [List.mem_cons, List.not_mem_nil, or_false] at hr
    subst hr
    have hd' : ¬ (strOf (hexN 16 (hashD s).toNat)).toList = (strOf (hexN 16 (hashD (putIn s k u)).toNat)).toList := fun h => hd (by
      rw [ByteArray.toList_eq, ByteArray.toList_eq] at h
      exact ByteArray.ext (Array.ext' h.symm))
    refine ⟨.string (strOf (hexN 16 (hashD s).toNat)), .string (strOf (hexN 16 (hashD (putIn s k u)).toNat)), rfl, rfl, fun w xo yo => ⟨by simp [eqGuard], by simp [eqGuard]⟩, fun w => ⟨?_, ?_⟩⟩
    · simp [binOp, Op.stringOp]; exact hd'
    · simp [binOp, Op.stringOp]; exact hd'
  · intro r hr
    simp only [List.mem_cons, List.not_mem_nil, or_false] at hr
    have u1 : (⟨#[u]⟩ : ByteArray).size = 1 := rfl
    have z1 : (s.extract 0 k).size ≤ s.size := by simp [ByteArray.size_extract]; omega
    rcases hr with rfl | rfl | rfl | rfl | rfl | rfl | rfl | rfl | rfl | rfl | rfl | rfl
    · exact ⟨[.string s], _, rfl, rfl, tells_lnS (by kernel_rfl)⟩
    · exact ⟨[.int .i64 s.size, .int .i64 1000], .bool false, rfl, rfl, tells_gtr (by rw [decide_eq_false_iff_not]; omega)⟩
    · exact ⟨[.int .i64 k, .int .i64 0], .bool false, rfl, rfl, tells_lss (by rw [decide_eq_false_iff_not]; omega)⟩
    · exact ⟨[.int .i64 k, .int .i64 s.size], .bool false, rfl, rfl, tells_geq (by rw [decide_eq_false_iff_not]; omega)⟩
    · exact ⟨[.string s, .int .i64 k], _, rfl, rfl, tells_idxS (by kernel_rfl) hb⟩
    · exact ⟨[.int .u8 b.toNat, .int .u8 u.toNat], .bool false, rfl, rfl, tells_eql (by
        rw [decide_eq_false_iff_not]
        intro h
        exact hne (UInt8.toNat_inj.1 (by omega)))⟩
    · exact ⟨[.string s, .int .i64 k], _, rfl, rfl, tells_slcHi (by kernel_rfl) (by omega)⟩
    · exact ⟨[.int .u8 u.toNat], _, rfl, rfl, tells_byt1⟩
    · exact ⟨[.string (s.extract 0 k), .string ⟨#[u]⟩], _, rfl, rfl, tells_addS (by omega)⟩
    · exact ⟨[.int .i64 k, .int .i64 1], .int .i64 (k + 1 : Nat), rfl, rfl, tells_add (by rw [IntKind.wrap_i64]; omega)⟩
    · exact ⟨[.string s, .int .i64 (k + 1 : Nat)], _, rfl, rfl, tells_slcLo (by kernel_rfl) (by omega)⟩
    · exact ⟨[.string (s.extract 0 k ++ ⟨#[u]⟩), .string (s.extract (k + 1) s.size)], .string (putIn s k u), rfl, rfl, tells_addS (by simp only [ByteArray.size_append, ByteArray.size_extract, u1]; omega)⟩

abbrev chSym0 (s : ByteArray) (at' : Int) (u b : UInt8) : Tm → Sym
  | .v 0 => strSym s
  | .v 1 => intSym .i64 at'
  | .v 2 => intSym .u8 u.toNat
  | .v 3 => intSym .i64 s.size
  | .v 4 => intSym .u8 b.toNat
  | _ => intSym .i64 0
theorem changes_long (s : ByteArray) (at' : Int) (u b : UInt8) (h : 1000 < s.size) (w : World) (hT : HasTabs w) :
    Calls Tryd.prog 10 #[.string s, .int .i64 at', .int .u8 u.toNat] w fun e w' => e = .returned (.bool true) ∧ Below w.heap.size w w' := by
  refine calls_toldK (by kernel_rfl) 0 (chSym0 s at' u b) [(11, [], .clo (.bool true))] []
    [(.ln 9, [.sy 0], .sy 3), (.bin .gtr 3, [.sy 3, .clo (.int .i64 1000)], .clo (.bool true))]
    HasTabs (gTab + 1) tabs_kst ?_ (fun r hr => by cases hr) ?_ (args := [.sy 0, .sy 1, .sy 2]) (xs := [.string s, .int .i64 at', .int .u8 u.toNat]) rfl [] (by kernel_rfl) w hT hT.lt (fun i b h => by simp [look_nil] at h) (n := 300)
  · intro r hr
    simp only [List.mem_cons, List.not_mem_nil, or_false] at hr
    subst hr
    exact ⟨[], .bool true, rfl, rfl, fun w hw => awake_any w hw⟩
  · intro r hr
    simp only [List.mem_cons, List.not_mem_nil, or_false] at hr
    rcases hr with rfl | rfl
    · exact ⟨[.string s], _, rfl, rfl, tells_lnS (by kernel_rfl)⟩
    · exact ⟨[.int .i64 s.size, .int .i64 1000], .bool true, rfl, rfl, tells_gtr (by rw [decide_eq_true_iff]; omega)⟩
theorem changes_neg (s : ByteArray) (at' : Int) (u b : UInt8) (h : s.size ≤ 1000) (h1 : at' < 0) (w : World) (hT : HasTabs w) :
    Calls Tryd.prog 10 #[.string s, .int .i64 at', .int .u8 u.toNat] w fun e w' => e = .returned (.bool true) ∧ Below w.heap.size w w' := by
  refine calls_toldK (by kernel_rfl) 0 (chSym0 s at' u b) [(11, [], .clo (.bool true))] []
    [(.ln 9, [.sy 0], .sy 3), (.bin .gtr 3, [.sy 3, .clo (.int .i64 1000)], .clo (.bool false)), (.bin .lss 3, [.sy 1, .clo (.int .i64 0)], .clo (.bool true))]
    HasTabs (gTab + 1) tabs_kst ?_ (fun r hr => by cases hr) ?_ (args := [.sy 0, .sy 1, .sy 2]) (xs := [.string s, .int .i64 at', .int .u8 u.toNat]) rfl [] (by kernel_rfl) w hT hT.lt (fun i b h => by simp [look_nil] at h) (n := 300)
  · intro r hr
    simp only [List.mem_cons, List.not_mem_nil, or_false] at hr
    subst hr
    exact ⟨[], .bool true, rfl, rfl, fun w hw => awake_any w hw⟩
  · intro r hr
    simp only [List.mem_cons, List.not_mem_nil, or_false] at hr
    rcases hr with rfl | rfl | rfl
    · exact ⟨[.string s], _, rfl, rfl, tells_lnS (by kernel_rfl)⟩
    · exact ⟨[.int .i64 s.size, .int .i64 1000], .bool false, rfl, rfl, tells_gtr (by rw [decide_eq_false_iff_not]; omega)⟩
    · exact ⟨[.int .i64 at', .int .i64 0], .bool true, rfl, rfl, tells_lss (by rw [decide_eq_true_iff]; omega)⟩
theorem changes_far (s : ByteArray) (at' : Int) (u b : UInt8) (h : s.size ≤ 1000) (h1 : 0 ≤ at') (h2 : (s.size : Int) ≤ at') (w : World) (hT : HasTabs w) :
    Calls Tryd.prog 10 #[.string s, .int .i64 at', .int .u8 u.toNat] w fun e w' => e = .returned (.bool true) ∧ Below w.heap.size w w' := by
  refine calls_toldK (by kernel_rfl) 0 (chSym0 s at' u b) [(11, [], .clo (.bool true))] []
    [(.ln 9, [.sy 0], .sy 3), (.bin .gtr 3, [.sy 3, .clo (.int .i64 1000)], .clo (.bool false)), (.bin .lss 3, [.sy 1, .clo (.int .i64 0)], .clo (.bool false)), (.bin .geq 3, [.sy 1, .sy 3], .clo (.bool true))]
    HasTabs (gTab + 1) tabs_kst ?_ (fun r hr => by cases hr) ?_ (args := [.sy 0, .sy 1, .sy 2]) (xs := [.string s, .int .i64 at', .int .u8 u.toNat]) rfl [] (by kernel_rfl) w hT hT.lt (fun i b h => by simp [look_nil] at h) (n := 300)
  · intro r hr
    simp only [List.mem_cons, List.not_mem_nil, or_false] at hr
    subst hr
    exact ⟨[], .bool true, rfl, rfl, fun w hw => awake_any w hw⟩
  · intro r hr
    simp only [List.mem_cons, List.not_mem_nil, or_false] at hr
    rcases hr with rfl | rfl | rfl | rfl
    · exact ⟨[.string s], _, rfl, rfl, tells_lnS (by kernel_rfl)⟩
    · exact ⟨[.int .i64 s.size, .int .i64 1000], .bool false, rfl, rfl, tells_gtr (by rw [decide_eq_false_iff_not]; omega)⟩
    · exact ⟨[.int .i64 at', .int .i64 0], .bool false, rfl, rfl, tells_lss (by rw [decide_eq_false_iff_not]; omega)⟩
    · exact ⟨[.int .i64 at', .int .i64 s.size], .bool true, rfl, rfl, tells_geq (by rw [decide_eq_true_iff]; omega)⟩
theorem changes_same (s : ByteArray) (at' : Int) (u b : UInt8) (h : s.size ≤ 1000) (k : Nat) (hk' : at' = k) (hk : k < s.size) (hb : s[k]? = some b) (he : b = u) (w : World) (hT : HasTabs w) :
    Calls Tryd.prog 10 #[.string s, .int .i64 at', .int .u8 u.toNat] w fun e w' => e = .returned (.bool true) ∧ Below w.heap.size w w' := by
  refine calls_toldK (by kernel_rfl) 0 (chSym0 s at' u b) [(11, [], .clo (.bool true))] []
    [(.ln 9, [.sy 0], .sy 3), (.bin .gtr 3, [.sy 3, .clo (.int .i64 1000)], .clo (.bool false)), (.bin .lss 3, [.sy 1, .clo (.int .i64 0)], .clo (.bool false)), (.bin .geq 3, [.sy 1, .sy 3], .clo (.bool false)), (.idx 9, [.sy 0, .sy 1], .sy 4), (.bin .eql 5, [.sy 4, .sy 2], .clo (.bool true))]
    HasTabs (gTab + 1) tabs_kst ?_ (fun r hr => by cases hr) ?_ (args := [.sy 0, .sy 1, .sy 2]) (xs := [.string s, .int .i64 at', .int .u8 u.toNat]) rfl [] (by kernel_rfl) w hT hT.lt (fun i b h => by simp [look_nil] at h) (n := 300)
  · intro r hr
    simp only [List.mem_cons, List.not_mem_nil, or_false] at hr
    subst hr
    exact ⟨[], .bool true, rfl, rfl, fun w hw => awake_any w hw⟩
  · intro r hr
    simp only [List.mem_cons, List.not_mem_nil, or_false] at hr
    rcases hr with rfl | rfl | rfl | rfl | rfl | rfl
    · exact ⟨[.string s], _, rfl, rfl, tells_lnS (by kernel_rfl)⟩
    · exact ⟨[.int .i64 s.size, .int .i64 1000], .bool false, rfl, rfl, tells_gtr (by rw [decide_eq_false_iff_not]; omega)⟩
    · exact ⟨[.int .i64 at', .int .i64 0], .bool false, rfl, rfl, tells_lss (by rw [decide_eq_false_iff_not]; omega)⟩
    · exact ⟨[.int .i64 at', .int .i64 s.size], .bool false, rfl, rfl, tells_geq (by rw [decide_eq_false_iff_not]; omega)⟩
    · exact ⟨[.string s, .int .i64 at'], _, rfl, rfl, by subst hk'; exact tells_idxS (by kernel_rfl) hb⟩
    · exact ⟨[.int .u8 b.toNat, .int .u8 u.toNat], .bool true, rfl, rfl, tells_eql (by rw [decide_eq_true_iff, he])⟩

theorem codecChanges_any (s : ByteArray) (at' b : Int) (wb : (Lit.int .u8 b).wf = true) (w : World) (hT : HasTabs w) : Calls Tryd.prog 10 #[.string s, .int .i64 at', .int .u8 b] w fun e w' => e = .returned (.bool true) ∧ Below w.heap.size w w' := by
  obtain ⟨u, rfl⟩ : ∃ u : UInt8, b = (u.toNat : Int) := by
    have h1 : 0 ≤ b ∧ b ≤ 255 := by
      simp [Lit.wf] at wb
      have e1 : IntKind.u8.min = 0 := rfl
      have e2 : IntKind.u8.max = 255 := rfl
      omega
    exact ⟨UInt8.ofNat b.toNat, by simp; omega⟩
  rcases Nat.lt_or_ge 1000 s.size with h | h
  · exact changes_long s at' u 0 h w hT
  · rcases Int.lt_or_le at' 0 with h1 | h1
    · exact changes_neg s at' u 0 h h1 w hT
    · rcases Int.lt_or_le at' s.size with h2 | h2
      · obtain ⟨k, rfl⟩ : ∃ k : Nat, at' = (k : Int) := ⟨at'.toNat, by omega⟩
        have hk : k < s.size := by omega
        have hb : s[k]? = some s[k] := by simp [hk]
        by_cases he : s[k] = u
        · exact changes_same s k u s[k] h k rfl hk hb he w hT
        · exact changes_main s k u s[k] hk hb he h w hT
      · exact changes_far s at' u 0 h h1 h2 w hT
end Go.Proofs.YtihcakicdelmoaaDoor
