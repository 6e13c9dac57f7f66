/- Layer 7 (plane): the greatest common divisors, as contracts. -/
import Derived.Test.YtopjcpdhfohccaaPlH
import Derived.WalkKit
import Derived.WalkSpells
import Derived.WalkLawsBesides
import Derived.Deep.QuietTactic
import Derived.BigQuiet
import Derived.LoopN
import Derived.Lib.Hide
namespace Go.Proofs.Ytopjcpdhfohccaa
open Go.RowKit Go.Ev

theorem gcd_step (a b : Int) : Nat.gcd b.natAbs (a.tmod b).natAbs = Nat.gcd a.natAbs b.natAbs := by
  rw [Int.natAbs_tmod, Nat.gcd_comm b.natAbs, ← Nat.gcd_rec, Nat.gcd_comm]
theorem wrap_in {x : Int} (h1 : -9223372036854775808 ≤ x) (h2 : x ≤ 9223372036854775807) : IntKind.i64.wrap x = x := IntWalk.i64_in _ ⟨h1, h2⟩
def intOf : Value → Int
  | .int _ n => n
  | _ => 0
theorem tmod_lt {p q : Int} (h : q ≠ 0) : (p.tmod q).natAbs < q.natAbs := by rw [Int.natAbs_tmod]; exact Nat.mod_lt _ (by omega)
set_option maxHeartbeats 1000000 in
theorem divisor_any (a b : Int) (ha : a.natAbs ≤ 1000000) (hb : b.natAbs ≤ 1000000) (w : World) : Calls Try.prog 59 #[.int .i64 a, .int .i64 b] w fun e w' => e = .returned (.int .i64 (Nat.gcd a.natAbs b.natAbs)) ∧ Below w.heap.size w w' := by
  go_enter Try.func59, Try.ntmps59
  go_wp2_with fail
  go_loopw [0, 1] (fun s t wr => ∃ p q : Int, s = .int .i64 p ∧ t = .int .i64 q ∧ p.natAbs ≤ 1000000 ∧ q.natAbs ≤ 1000000 ∧ Below w.heap.size w wr ∧ Hid (Nat.gcd p.natAbs q.natAbs = Nat.gcd a.natAbs b.natAbs)) (fun _ t _ => (intOf t).natAbs)
  case atStart => exact ⟨a, b, rfl, rfl, ha, hb, Below.refl _ _, rfl⟩
  case round =>
    obtain ⟨p, q, rfl, rfl, hp, hq, hbw, HG⟩ := hrel
    clear ha hb
    by_cases h0 : q = 0
    · subst h0
      have hz : HG.out = HG.out := rfl
      clear hz
      have hg := HG.out
      have hpp : ((Nat.gcd a.natAbs b.natAbs : Nat) : Int) = if p < 0 then -p else p := by rw [← hg]; simp only [Int.natAbs_zero, Nat.gcd_zero_right]; split <;> omega
      have HP := Lib.hid hpp
      clear hpp hg HG
      by_cases hn : p < 0
      · go_wp2_with fail
        go_ret
        rw [HP.out, if_pos hn]
        exact ⟨rfl, hbw⟩
      · go_wp2_with fail
        go_ret
        rw [HP.out, if_neg (by omega)]
        exact ⟨rfl, hbw⟩
    · have hq0 : (q != 0) = true := by simp [h0]
      have hr := @tmod_lt p q h0
      have e1 : IntKind.i64.wrap (p.tmod q) = p.tmod q := wrap_in (by omega) (by omega)
      have Hn := Lib.hid ((gcd_step p q).trans HG.out)
      go_wp2_with fail
      go_region
      go_wp2_with fail
      go_roundw
      case rel => exact ⟨q, p.tmod q, rfl, rfl, hq, by omega, hbw.drew, Hn⟩
      case measure => simp only [intOf]; exact hr

set_option maxHeartbeats 1000000 in
theorem rDiv (a b : Nat) (ha : a ≤ 1000000) (hb : b ≤ 1000000) (w : World) : Calls Try.prog 46 #[.int .i64 (a : Int), .int .i64 (b : Int)] w fun e w' => e = .returned (.int .i64 (Nat.gcd a b : Int)) ∧ Below w.heap.size w w' := by
  go_enter Try.func46, Try.ntmps46
  go_wp2_with fail
  go_loopw [0, 1] (fun s t wr => ∃ p q : Nat, s = .int .i64 (p : Int) ∧ t = .int .i64 (q : Int) ∧ p ≤ 1000000 ∧ q ≤ 1000000 ∧ Below w.heap.size w wr ∧ Hid (Nat.gcd p q = Nat.gcd a b)) (fun _ t _ => (intOf t).natAbs)
  case atStart => exact ⟨a, b, rfl, rfl, ha, hb, Below.refl _ _, rfl⟩
  case round =>
    obtain ⟨p, q, rfl, rfl, hp, hq, hbw, HG⟩ := hrel
    clear ha hb
    by_cases h0 : q = 0
    · subst h0
      have hpp : ((Nat.gcd a b : Nat) : Int) = p := by rw [← HG.out, Nat.gcd_zero_right]
      have HP := Lib.hid hpp
      clear hpp HG
      go_wp2_with fail
      go_ret
      rw [HP.out]
      exact ⟨rfl, hbw⟩
    · have hq0 : (0 : Int) < (q : Int) := by omega
      have hne : ¬ (q : Int) = 0 := by omega
      have hr : p % q < q := Nat.mod_lt _ (by omega)
      have e1 : IntKind.i64.wrap ((p : Int).tmod (q : Int)) = ((p % q : Nat) : Int) := by
        rw [show (p : Int).tmod (q : Int) = ((p % q : Nat) : Int) from (Int.ofNat_tmod p q)]
        exact wrap_in (by omega) (by omega)
      have Hn : Hid (Nat.gcd q (p % q) = Nat.gcd a b) := by unfold Hid; rw [← HG.out, Nat.gcd_comm q, ← Nat.gcd_rec, Nat.gcd_comm]
      have HR := Lib.hid hr
      clear hr
      go_wp2_with fail
      go_region
      go_wp2_with fail
      go_roundw
      case rel => exact ⟨q, p % q, rfl, rfl, hq, by have := HR.out; omega, hbw.drew, Hn⟩
      case measure => simp only [intOf]; have := HR.out; omega


/-- The greatest common divisor: the function 8. -/
def divisorC : Con := ⟨59, [.i .i64, .i .i64], [.i 8], [.bd 0 .i64 (-1000000) 1000000, .bd 1 .i64 (-1000000) 1000000]⟩
def rDivisorC : Con := ⟨46, [.i .i64, .i .i64], [.i 8], [.bd 0 .i64 0 1000000, .bd 1 .i64 0 1000000]⟩
theorem gcd_bd {a b : Int} (ha : -1000000 ≤ a ∧ a ≤ 1000000) (hb : -1000000 ≤ b ∧ b ≤ 1000000) : ((Nat.gcd a.natAbs b.natAbs : Nat) : Int) ≤ 1000000 := by
  by_cases h : a = 0
  · subst h
    simp only [Int.natAbs_zero, Nat.gcd_zero_left]
    omega
  · have := Nat.gcd_le_left b.natAbs (show 0 < a.natAbs by omega)
    omega
theorem divisorC_ok {S : Val K64} (hf : S.fv = plF.fv) : ConOK Try.prog S anyW divisorC := by
  intro zs hz hpre w _
  obtain ⟨a, b, rfl⟩ := len2 (InRng_length hz)
  have ha : -1000000 ≤ a ∧ a ≤ 1000000 := hpre (.bd 0 .i64 (-1000000) 1000000) (by simp [divisorC])
  have hb : -1000000 ≤ b ∧ b ≤ 1000000 := hpre (.bd 1 .i64 (-1000000) 1000000) (by simp [divisorC])
  refine (divisor_any a b (by omega) (by omega) w).mono fun q w' ⟨h1, h2⟩ => ⟨?_, h2⟩
  rw [h1]
  show Ending.returned (Value.int IntKind.i64 _) = Ending.returned (Value.int IntKind.i64 (S.fv 8 [a, b]))
  rw [hf]
  show _ = Ending.returned (Value.int IntKind.i64 (W (Nat.gcd a.natAbs b.natAbs : Nat)))
  unfold W
  rw [wrap64 _ (by have := gcd_bd ha hb; omega)]
theorem rDivisorC_ok {S : Val K64} (hf : S.fv = plF.fv) : ConOK Try.prog S anyW rDivisorC := by
  intro zs hz hpre w _
  obtain ⟨a, b, rfl⟩ := len2 (InRng_length hz)
  have ha : 0 ≤ a ∧ a ≤ 1000000 := hpre (.bd 0 .i64 0 1000000) (by simp [rDivisorC])
  have hb : 0 ≤ b ∧ b ≤ 1000000 := hpre (.bd 1 .i64 0 1000000) (by simp [rDivisorC])
  obtain ⟨m, rfl⟩ := Int.eq_ofNat_of_zero_le ha.1
  obtain ⟨n, rfl⟩ := Int.eq_ofNat_of_zero_le hb.1
  refine (rDiv m n (by omega) (by omega) w).mono fun q w' ⟨h1, h2⟩ => ⟨?_, h2⟩
  rw [h1]
  show Ending.returned (Value.int IntKind.i64 _) = Ending.returned (Value.int IntKind.i64 (S.fv 8 [(m : Int), (n : Int)]))
  rw [hf]
  show _ = Ending.returned (Value.int IntKind.i64 (W (Nat.gcd (m : Int).natAbs (n : Int).natAbs : Nat)))
  unfold W
  rw [wrap64 _ (by have := gcd_bd (a := m) (b := n) (by omega) (by omega); omega)]
  rfl
def gcdCons : List Con := [divisorC, rDivisorC]
theorem gcdCons_ok (S : Val K64) (hf : S.fv = plF.fv) (_ : S.pv = plF.pv) : ∀ c ∈ gcdCons, ConOK Try.prog S anyW c := by
  intro c hc
  simp only [gcdCons, List.mem_cons, List.not_mem_nil, or_false] at hc
  rcases hc with rfl | rfl
  · exact divisorC_ok hf
  · exact rDivisorC_ok hf
end Go.Proofs.Ytopjcpdhfohccaa
