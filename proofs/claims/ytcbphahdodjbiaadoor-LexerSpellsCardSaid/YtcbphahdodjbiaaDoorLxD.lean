/- Layer 9 (lexer): names and labels of the program; the law. -/
import Derived.Test.YtcbphahdodjbiaaDoorLxC
import Derived.Test.YtcbphahdodjbiaaDoorTsA
namespace Go.Proofs.YtcbphahdodjbiaaDoor
open Go.RowKit
theorem tl_iff (s : ByteArray) : s.toList = [] ↔ s.size = 0 := by
  rw [ByteArray.toList_eq]
  constructor
  · intro h
    have := congrArg List.length h
    rw [Array.length_toList] at this
    exact this
  · intro h
    apply List.eq_nil_of_length_eq_zero
    rw [Array.length_toList]; exact h
set_option maxRecDepth 20000 in
set_option maxHeartbeats 4000000 in
theorem label_any (s : ByteArray) (hs : s.size ≤ 1000000000) (w : World) : Calls Tryd.prog 41 #[.string s] w fun e w' => e = .returned (.bool (labelS s)) ∧ Below w.heap.size w w' := by
  have HR := Lib.hid (fun W => runLb_any s hs W)
  have HZ := Lib.hid (tl_iff s)
  by_cases hz : s.toList = []
  · have hr : labelS s = false := labelS_f (fun h => by have := HZ.out.1 hz; have := h.1; omega)
    go_enter Tryd.func41, Tryd.ntmps41
    go_wp2_with fail
    go_ret
    exact ⟨by first | (rw [hr]; rfl) | rfl, Below.refl _ _⟩
  have hz' : 0 < s.size := by
    rcases Nat.eq_zero_or_pos s.size with h | h
    · exact absurd (HZ.out.2 h) hz
    · exact h
  by_cases h24 : (s.size : Int) ≤ 40
  case neg =>
    have hr : labelS s = false := labelS_f (fun h => by have := h.2.1; omega)
    go_enter Tryd.func41, Tryd.ntmps41
    go_wp2_with fail
    go_ret
    exact ⟨by first | (rw [hr]; rfl) | rfl, Below.refl _ _⟩
  have z0 : s[0]? = some (s[0]'hz') := getElem?_pos s 0 hz'
  have z1 : s[s.size - 1]? = some (s[s.size - 1]'(by omega)) := getElem?_pos s (s.size - 1) (by omega)
  have i3 : IntKind.i64.wrap ((s.size : Int) - 1) = ((s.size - 1 : Nat) : Int) := by rw [IntKind.wrap_i64]; omega
  have i4 : ((s.size - 1 : Nat) : Int) < (s.size : Int) := by omega
  have i5 : (0 : Int) ≤ ((s.size - 1 : Nat) : Int) := by omega
  go_enter Tryd.func41, Tryd.ntmps41
  go_wp2_with fail
  refine (HR.out _).mono ?_
  rintro e w2 ⟨⟨k, hk, hp, hn, rfl⟩, hb2⟩
  by_cases hks : k = s.size
  case neg =>
    have hr : labelS s = false := labelS_f (fun h => by
      have hlt : k < s.size := by omega
      have h1 := hn _ (getElem?_pos s k hlt)
      have h2 := h.2.2.1 k _ (getElem?_pos s k hlt)
      rw [h1] at h2; cases h2)
    have k1 : ¬ ((k : Int) = (s.size : Int)) := by omega
    clear hp hn
    go_wp2_with fail
    go_ret
    exact ⟨by first | (rw [hr]; rfl) | rfl, hb2⟩
  subst hks
  have HR2 : Hid (labelS s = ((((s[0]'hz').toNat : Int) != 32) && (((s[s.size - 1]'(by omega)).toNat : Int) != 32))) := by
    unfold Hid
    by_cases e1 : ((s[0]'hz').toNat : Int) = 32
    · rw [labelS_f (fun h => by have := h.2.2.2.1 _ z0; omega), e1]; rfl
    · by_cases e2 : ((s[s.size - 1]'(by omega)).toNat : Int) = 32
      · rw [labelS_f (fun h => by have := h.2.2.2.2 _ z1; omega), e2]
        simp
      · have : labelS s = true := labelS_t ⟨by omega, by omega, fun i b hb => hp i b (get_lt hb) hb, fun b hb => by rw [z0] at hb; cases hb; omega, fun b hb => by rw [z1] at hb; cases hb; omega⟩
        rw [this]
        simp only [bne_iff_ne, ne_eq, Bool.true_eq, Bool.and_eq_true]
        exact ⟨e1, e2⟩
  clear hp hn
  go_wp2_with fail
  · rename_i e1
    go_ret
    refine ⟨?_, hb2⟩
    rw [HR2.out]
    simp [e1]
  · rename_i e1
    go_ret
    refine ⟨?_, hb2⟩
    have hem : s.toList.isEmpty = false := by simpa using hz
    rw [HR2.out, hem]
    rfl

open Go.Ev in
abbrev nmSym (s : ByteArray) : Tm → Sym
  | .v 0 => ⟨.string s, rfl, fun _ h => by cases h⟩
  | .v 1 => ⟨.int .i64 s.size, rfl, fun _ h => by cases h⟩
  | _ => ⟨.int .i64 0, rfl, fun _ h => by cases h⟩
set_option maxRecDepth 100000
end Go.Proofs.YtcbphahdodjbiaaDoor
