/- Layer 9 (lexer): runs of bytes. -/
import Derived.Test.YtcbphahdodjbiaaDoorLxA
import Derived.WalkKit
import Derived.WalkSpells
import Derived.WalkLawsBesides
import Derived.BigQuiet
import Derived.Lib.Hide
import Derived.Deep.QuietTactic
import Derived.Deep.RegionHeld3
import Derived.Laws.IdiomStrings
namespace Go.Proofs.YtcbphahdodjbiaaDoor
open Go.RowKit

/-- All of the first k bytes are of a class. -/
def preOK (p : Nat → Bool) (s : ByteArray) (k : Nat) : Prop := ∀ j b, j < k → s[j]? = some b → p b.toNat = true
theorem preOK.next {p : Nat → Bool} {s : ByteArray} {k : Nat} (h : preOK p s k) {b : UInt8} (hb : s[k]? = some b) (hp : p b.toNat = true) : preOK p s (k + 1) := by
  intro j c hj hc
  rcases Nat.lt_or_ge j k with h1 | h1
  · exact h j c h1 hc
  · have : j = k := by omega
    subst this
    rw [hb] at hc; cases hc; exact hp

set_option maxRecDepth 20000 in
set_option maxHeartbeats 2000000 in
theorem runLb_any (s : ByteArray) (hs : s.size ≤ 1000000000) (w : World) : Calls Tryd.prog 36 #[.string s, .func (.func 51) #[] #[]] w fun e w' => (∃ k : Nat, k ≤ s.size ∧ preOK pLb s k ∧ (∀ b, s[k]? = some b → pLb b.toNat = false) ∧ e = .returned (.int .i64 k)) ∧ Below w.heap.size w w' := by
  have HF := Lib.hid (fun c w => byte_calls mixed tLb c w)
  go_enter Tryd.func36, Tryd.ntmps36
  go_wp2_with fail
  go_loopw [5] (fun n wr => ∃ k : Nat, k ≤ s.size ∧ n = .int .i64 k ∧ Hid (preOK pLb s k) ∧ Below w.heap.size w wr) (fun n _ => s.size - (intOf n).toNat)
  case atStart => exact ⟨0, Nat.zero_le _, rfl, Lib.hid (fun j b h => by omega), Below.refl _ _⟩
  case round =>
    obtain ⟨k, hk, rfl, HP, hbw⟩ := hrel
    by_cases hlt : k < s.size
    · have i0 : (0 : Int) ≤ (k : Int) := by omega
      have i1 : (k : Int) < (s.size : Int) := by omega
      have hidx : s[k]? = some (s[k]'hlt) := by simp [hlt]
      have i2 : IntKind.i64.wrap ((k : Int) + 1) = (k : Int) + 1 := by rw [IntKind.wrap_i64]; omega
      go_wp2_with fail
      refine (HF.out _ _).mono ?_
      rintro e w' ⟨rfl, hb⟩
      have hb' := hbw.trans (hb.mono hbw.size)
      cases hq : pLb (s[k]'hlt).toNat with
      | true =>
        have HQ := Lib.hid hq
        clear hq
        go_wp2_with fail
        refine ⟨⟨k + 1, by omega, by simp, Lib.hid (HP.out.next hidx HQ.out), hb'⟩, ?_⟩
        simp [intOf]
        omega
      | false =>
        have HQ := Lib.hid hq
        clear hq
        go_wp2_with fail
        go_ret
        exact ⟨⟨k, by omega, HP.out, fun b hb => by rw [hidx] at hb; cases hb; exact HQ.out, rfl⟩, hb'⟩
    · have hkn : k = s.size := by omega
      subst hkn
      go_wp2_with fail
      go_ret
      exact ⟨⟨s.size, by omega, HP.out, fun b hb => by simp at hb, rfl⟩, hbw⟩
end Go.Proofs.YtcbphahdodjbiaaDoor
