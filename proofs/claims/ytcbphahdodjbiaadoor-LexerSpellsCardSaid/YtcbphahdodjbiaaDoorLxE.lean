/- Layer 9 (lexer): words and digits: functions of a byte, runs of them. -/
import Derived.Test.YtcbphahdodjbiaaDoorLxB
namespace Go.Proofs.YtcbphahdodjbiaaDoor
open Go.RowKit Go.Ev
set_option maxRecDepth 100000
def pWd (n : Nat) : Bool := pDg n || pLt n || Nat.beq n 95
theorem tLtP : byteTab Tryd.prog 20 pLt = true := by kernel_rfl
theorem tDgP : byteTab Tryd.prog 22 pDg = true := by kernel_rfl
theorem tWdP : byteTab Tryd.prog 37 pWd = true := by kernel_rfl

set_option maxRecDepth 20000 in
set_option maxHeartbeats 2000000 in
theorem runWd_any (s : ByteArray) (hs : s.size ≤ 1000000000) (w : World) : Calls Tryd.prog 36 #[.string s, .func (.func 37) #[] #[]] w fun e w' => (∃ k : Nat, k ≤ s.size ∧ preOK pWd s k ∧ (∀ b, s[k]? = some b → pWd b.toNat = false) ∧ e = .returned (.int .i64 k)) ∧ Below w.heap.size w w' := by
  have HF := Lib.hid (fun c w => byte_calls mixed tWdP c w)
  go_enter Tryd.func36, Tryd.ntmps36
  go_wp2_with fail
  go_loopw [5] (fun n wr => ∃ k : Nat, k ≤ s.size ∧ n = .int .i64 k ∧ Hid (preOK pWd s k) ∧ Below w.heap.size w wr) (fun n _ => s.size - (intOf n).toNat)
  case atStart => exact ⟨0, Nat.zero_le _, rfl, Lib.hid (fun j b h => by omega), Below.refl _ _⟩
  case round =>
    obtain ⟨k, hk, rfl, HP, hbw⟩ := hrel
    by_cases hlt : k < s.size
    · have i0 : (0 : Int) ≤ (k : Int) := by omega
      have i1 : (k : Int) < (s.size : Int) := by omega
      have hidx : s[k]? = some (s[k]'hlt) := by simp [hlt]
      have i2 : IntKind.i64.wrap ((k : Int) + 1) = (k : Int) + 1 := by rw [IntKind.wrap_i64]; omega
      go_wp2_with fail
      refine (HF.out _ _).mono ?_
      rintro e w' ⟨rfl, hb⟩
      have hb' := hbw.trans (hb.mono hbw.size)
      cases hq : pWd (s[k]'hlt).toNat with
      | true =>
        have HQ := Lib.hid hq
        clear hq
        go_wp2_with fail
        refine ⟨⟨k + 1, by omega, by simp, Lib.hid (HP.out.next hidx HQ.out), hb'⟩, ?_⟩
        simp [intOf]
        omega
      | false =>
        have HQ := Lib.hid hq
        clear hq
        go_wp2_with fail
        go_ret
        exact ⟨⟨k, by omega, HP.out, fun b hb => by rw [hidx] at hb; cases hb; exact HQ.out, rfl⟩, hb'⟩
    · have hkn : k = s.size := by omega
      subst hkn
      go_wp2_with fail
      go_ret
      exact ⟨⟨s.size, by omega, HP.out, fun b hb => by simp at hb, rfl⟩, hbw⟩

set_option maxRecDepth 20000 in
set_option maxHeartbeats 2000000 in
theorem runDg_any (s : ByteArray) (hs : s.size ≤ 1000000000) (w : World) : Calls Tryd.prog 36 #[.string s, .func (.func 22) #[] #[]] w fun e w' => (∃ k : Nat, k ≤ s.size ∧ preOK pDg s k ∧ (∀ b, s[k]? = some b → pDg b.toNat = false) ∧ e = .returned (.int .i64 k)) ∧ Below w.heap.size w w' := by
  have HF := Lib.hid (fun c w => byte_calls mixed tDgP c w)
  go_enter Tryd.func36, Tryd.ntmps36
  go_wp2_with fail
  go_loopw [5] (fun n wr => ∃ k : Nat, k ≤ s.size ∧ n = .int .i64 k ∧ Hid (preOK pDg s k) ∧ Below w.heap.size w wr) (fun n _ => s.size - (intOf n).toNat)
  case atStart => exact ⟨0, Nat.zero_le _, rfl, Lib.hid (fun j b h => by omega), Below.refl _ _⟩
  case round =>
    obtain ⟨k, hk, rfl, HP, hbw⟩ := hrel
    by_cases hlt : k < s.size
    · have i0 : (0 : Int) ≤ (k : Int) := by omega
      have i1 : (k : Int) < (s.size : Int) := by omega
      have hidx : s[k]? = some (s[k]'hlt) := by simp [hlt]
      have i2 : IntKind.i64.wrap ((k : Int) + 1) = (k : Int) + 1 := by rw [IntKind.wrap_i64]; omega
      go_wp2_with fail
      refine (HF.out _ _).mono ?_
      rintro e w' ⟨rfl, hb⟩
      have hb' := hbw.trans (hb.mono hbw.size)
      cases hq : pDg (s[k]'hlt).toNat with
      | true =>
        have HQ := Lib.hid hq
        clear hq
        go_wp2_with fail
        refine ⟨⟨k + 1, by omega, by simp, Lib.hid (HP.out.next hidx HQ.out), hb'⟩, ?_⟩
        simp [intOf]
        omega
      | false =>
        have HQ := Lib.hid hq
        clear hq
        go_wp2_with fail
        go_ret
        exact ⟨⟨k, by omega, HP.out, fun b hb => by rw [hidx] at hb; cases hb; exact HQ.out, rfl⟩, hb'⟩
    · have hkn : k = s.size := by omega
      subst hkn
      go_wp2_with fail
      go_ret
      exact ⟨⟨s.size, by omega, HP.out, fun b hb => by simp at hb, rfl⟩, hbw⟩

end Go.Proofs.YtcbphahdodjbiaaDoor
