/- Layer 4 (fraction): greatest common divisors; valid fractions. -/
import Derived.Test.YtdjnnbjpaohaiaaDoorFrC
import Derived.WalkKit
import Derived.WalkSpells
import Derived.WalkLawsBesides
import Derived.Deep.QuietTactic
import Derived.BigQuiet
import Derived.LoopN
import Derived.Lib.Hide
namespace Go.Proofs.YtdjnnbjpaohaiaaDoor
open Go.RowKit Go.Ev
set_option maxRecDepth 100000
def intOf : Value → Int
  | .int _ n => n
  | _ => 0

set_option maxHeartbeats 1000000 in
theorem divisor_any (a b : Nat) (ha : a < 18446744073709551616) (hb : b < 18446744073709551616) (w : World) : Calls Tryd.prog 39 #[.int .u64 (a : Int), .int .u64 (b : Int)] w fun e w' => e = .returned (.int .u64 (Nat.gcd a b : Int)) ∧ Below w.heap.size w w' := by
  go_enter Tryd.func39, Tryd.ntmps39
  go_wp2_with fail
  go_loopw [0, 1] (fun s t wr => ∃ p q : Nat, s = .int .u64 (p : Int) ∧ t = .int .u64 (q : Int) ∧ p < 18446744073709551616 ∧ q < 18446744073709551616 ∧ Below w.heap.size w wr ∧ Hid (Nat.gcd p q = Nat.gcd a b)) (fun _ t _ => (intOf t).natAbs)
  case atStart => exact ⟨a, b, rfl, rfl, ha, hb, Below.refl _ _, rfl⟩
  case round =>
    obtain ⟨p, q, rfl, rfl, hp, hq, hbw, HG⟩ := hrel
    clear ha hb
    by_cases h0 : q = 0
    · subst h0
      have hpp : ((Nat.gcd a b : Nat) : Int) = p := by rw [← HG.out, Nat.gcd_zero_right]
      have HP := Lib.hid hpp
      clear hpp HG
      go_wp2_with fail
      go_ret
      rw [HP.out]
      exact ⟨rfl, hbw⟩
    · have hq0 : (0 : Int) < (q : Int) := by omega
      have hne : ¬ (q : Int) = 0 := by omega
      have hr : p % q < q := Nat.mod_lt _ (by omega)
      have e1 : IntKind.u64.wrap ((p : Int).tmod (q : Int)) = ((p % q : Nat) : Int) := by
        rw [show (p : Int).tmod (q : Int) = ((p % q : Nat) : Int) from (Int.ofNat_tmod p q), IntKind.wrap_u64]
        omega
      have Hn : Hid (Nat.gcd q (p % q) = Nat.gcd a b) := by unfold Hid; rw [← HG.out, Nat.gcd_comm q, ← Nat.gcd_rec, Nat.gcd_comm]
      have HR := Lib.hid hr
      clear hr
      go_wp2_with fail
      go_region
      go_wp2_with fail
      go_roundw
      case rel => exact ⟨q, p % q, rfl, rfl, hq, by have := HR.out; omega, hbw.drew, Hn⟩
      case measure => simp only [intOf]; have := HR.out; omega
set_option maxHeartbeats 1000000 in
theorem rGcd_any (a b : Nat) (ha : a < 18446744073709551616) (hb : b < 18446744073709551616) (w : World) : Calls Tryd.prog 45 #[.int .u64 (a : Int), .int .u64 (b : Int)] w fun e w' => e = .returned (.int .u64 (Nat.gcd a b : Int)) ∧ Below w.heap.size w w' := by
  go_enter Tryd.func45, Tryd.ntmps45
  go_wp2_with fail
  go_loopw [0, 1] (fun s t wr => ∃ p q : Nat, s = .int .u64 (p : Int) ∧ t = .int .u64 (q : Int) ∧ p < 18446744073709551616 ∧ q < 18446744073709551616 ∧ Below w.heap.size w wr ∧ Hid (Nat.gcd p q = Nat.gcd a b)) (fun _ t _ => (intOf t).natAbs)
  case atStart => exact ⟨a, b, rfl, rfl, ha, hb, Below.refl _ _, rfl⟩
  case round =>
    obtain ⟨p, q, rfl, rfl, hp, hq, hbw, HG⟩ := hrel
    clear ha hb
    by_cases h0 : q = 0
    · subst h0
      have hpp : ((Nat.gcd a b : Nat) : Int) = p := by rw [← HG.out, Nat.gcd_zero_right]
      have HP := Lib.hid hpp
      clear hpp HG
      go_wp2_with fail
      go_ret
      rw [HP.out]
      exact ⟨rfl, hbw⟩
    · have hq0 : (0 : Int) < (q : Int) := by omega
      have hne : ¬ (q : Int) = 0 := by omega
      have hr : p % q < q := Nat.mod_lt _ (by omega)
      have e1 : IntKind.u64.wrap ((p : Int).tmod (q : Int)) = ((p % q : Nat) : Int) := by
        rw [show (p : Int).tmod (q : Int) = ((p % q : Nat) : Int) from (Int.ofNat_tmod p q), IntKind.wrap_u64]
        omega
      have Hn : Hid (Nat.gcd q (p % q) = Nat.gcd a b) := by unfold Hid; rw [← HG.out, Nat.gcd_comm q, ← Nat.gcd_rec, Nat.gcd_comm]
      have HR := Lib.hid hr
      clear hr
      go_wp2_with fail
      go_region
      go_wp2_with fail
      go_roundw
      case rel => exact ⟨q, p % q, rfl, rfl, hq, by have := HR.out; omega, hbw.drew, Hn⟩
      case measure => simp only [intOf]; have := HR.out; omega
set_option maxHeartbeats 1000000 in
theorem rSize_any (n : Int) (h0 : -9223372036854775808 ≤ n) (h1 : n ≤ 9223372036854775807) (w : World) : Calls Tryd.prog 46 #[.int .i64 n] w fun e w' => e = .returned (.int .u64 (n.natAbs : Int)) ∧ w' = w := by
  by_cases hn : n < 0
  · have i1 : IntKind.u64.wrap (-(IntKind.u64.wrap n)) = (n.natAbs : Int) := by simp only [IntKind.wrap_u64]; omega
    go_enter Tryd.func46, Tryd.ntmps46
    go_wp2_with fail
    go_ret
    exact ⟨by simp, rfl⟩
  · have i1 : IntKind.u64.wrap n = (n.natAbs : Int) := by simp only [IntKind.wrap_u64]; omega
    go_enter Tryd.func46, Tryd.ntmps46
    go_wp2_with fail
    go_ret
    exact ⟨by simp, rfl⟩


def validF (n d : Int) : Bool := decide (1 ≤ d ∧ d < 1000000000000000000 ∧ n.natAbs < 1000000000000000000 ∧ Nat.gcd n.natAbs d.natAbs = 1)
theorem validF_f {n d : Int} (h : ¬ (1 ≤ d ∧ d < 1000000000000000000 ∧ n.natAbs < 1000000000000000000 ∧ Nat.gcd n.natAbs d.natAbs = 1)) : validF n d = false := decide_eq_false h
abbrev vaSym (n d s e g : Int) : Tm → Sym
  | .v 0 => intSym .i64 n
  | .v 1 => intSym .i64 d
  | .v 2 => intSym .u64 s
  | .v 3 => intSym .u64 e
  | .v 4 => intSym .u64 g
  | _ => intSym .i64 0
abbrev vaCalls (fs fg : Nat) : List KCall := [(fs, [.sy 0], .sy 2), (fg, [.sy 2, .sy 3], .sy 4)]
abbrev vaOps (p q r t : Bool) : List KOp :=
  [(.bin .leq 2, [.clo (.int .i64 1), .sy 1], .clo (.bool p)), (.bin .lss 2, [.sy 1, .clo (.int .i64 1000000000000000000)], .clo (.bool q)),
   (.bin .lss 45, [.sy 2, .clo (.int .u64 1000000000000000000)], .clo (.bool r)), (.conv 2 45, [.sy 1], .sy 3), (.bin .eql 45, [.sy 4, .clo (.int .u64 1)], .clo (.bool t))]
theorem evVa (n d s e g : Int) (p q r t : Bool) : @evalBeside (toldP 0 (vaSym n d s e g) (vaCalls 40 39) [] (vaOps p q r t)) Tryd.prog 300 14 [.agg [.sy 0, .sy 1]] [] = some (.bool (p && q && r && t)) := by
  cases p <;> cases q <;> cases r <;> cases t <;> kernel_rfl
abbrev vbOps (p q r u t : Bool) : List KOp :=
  [(.bin .geq 2, [.sy 1, .clo (.int .i64 1)], .clo (.bool p)), (.bin .lss 2, [.sy 1, .clo (.int .i64 1000000000000000000)], .clo (.bool q)),
   (.bin .gtr 2, [.sy 0, .clo (.int .i64 (-1000000000000000000))], .clo (.bool r)), (.bin .lss 2, [.sy 0, .clo (.int .i64 1000000000000000000)], .clo (.bool u)),
   (.conv 2 45, [.sy 1], .sy 3), (.bin .eql 45, [.sy 4, .clo (.int .u64 1)], .clo (.bool t))]
theorem evVb (n d s e g : Int) (p q r u t : Bool) : @evalBeside (toldP 0 (vaSym n d s e g) (vaCalls 46 45) [] (vbOps p q r u t)) Tryd.prog 300 15 [.agg [.sy 0, .sy 1]] [] = some (.bool (p && q && r && u && t)) := by
  cases p <;> cases q <;> cases r <;> cases u <;> cases t <;> kernel_rfl

theorem wrap_u64_nat (d : Int) (_ : -9223372036854775808 ≤ d) (_ : d ≤ 9223372036854775807) : 0 ≤ IntKind.u64.wrap d ∧ IntKind.u64.wrap d < 18446744073709551616 := by rw [IntKind.wrap_u64]; omega
theorem valid_any (n d : Int) (n0 : -9223372036854775808 ≤ n) (n1 : n ≤ 9223372036854775807) (d0 : -9223372036854775808 ≤ d) (d1 : d ≤ 9223372036854775807) (w : World) :
    Calls Tryd.prog 14 #[.agg #[.int .i64 n, .int .i64 d]] w fun e w' => e = .returned (.bool (validF n d)) ∧ Below w.heap.size w w' := by
  obtain ⟨w0, w1⟩ := wrap_u64_nat d d0 d1
  have he : ((IntKind.u64.wrap d).natAbs : Int) = IntKind.u64.wrap d := Int.natAbs_of_nonneg w0
  have hr : validF n d = (decide (1 ≤ d) && decide (d < 1000000000000000000) && decide ((n.natAbs : Int) < 1000000000000000000) && decide ((Nat.gcd n.natAbs (IntKind.u64.wrap d).natAbs : Int) = 1)) := by
    rw [validF, Bool.eq_iff_iff]
    simp only [Bool.and_eq_true, decide_eq_true_eq]
    have hg : 1 ≤ d → (IntKind.u64.wrap d).natAbs = d.natAbs := fun h => by rw [IntKind.wrap_u64]; omega
    constructor
    · rintro ⟨h1, h2, h3, h4⟩; rw [hg h1]; exact ⟨⟨⟨h1, h2⟩, by omega⟩, by omega⟩
    · rintro ⟨⟨⟨h1, h2⟩, h3⟩, h4⟩; rw [hg h1] at h4; exact ⟨h1, h2, by omega, by omega⟩
  rw [hr]
  refine calls_toldV (by kernel_rfl) (vaSym n d (n.natAbs : Int) (IntKind.u64.wrap d) (Nat.gcd n.natAbs (IntKind.u64.wrap d).natAbs : Int)) (vaCalls 40 39) [] (vaOps (decide (1 ≤ d)) (decide (d < 1000000000000000000)) (decide ((n.natAbs : Int) < 1000000000000000000)) (decide ((Nat.gcd n.natAbs (IntKind.u64.wrap d).natAbs : Int) = 1)))
    ?_ (fun _ h => by cases h) ?_ (args := [.agg [.sy 0, .sy 1]]) (xs := [.agg #[.int .i64 n, .int .i64 d]]) rfl (evVa _ _ _ _ _ _ _ _ _) w
  · intro x hx
    simp only [vaCalls, List.mem_cons, List.not_mem_nil, or_false] at hx
    rcases hx with rfl | rfl
    · exact ⟨[.int .i64 n], _, rfl, rfl, fun w => (size_any n n0 n1 w).mono fun _ _ ⟨h1, h2⟩ => ⟨h1, by rw [h2]; exact Below.refl _ _⟩⟩
    · exact ⟨[.int .u64 (n.natAbs : Int), .int .u64 (IntKind.u64.wrap d)], _, rfl, rfl, fun w => by
        have := divisor_any n.natAbs (IntKind.u64.wrap d).natAbs (by omega) (by omega) w
        rw [he] at this
        exact this⟩
  · intro x hx
    simp only [vaOps, List.mem_cons, List.not_mem_nil, or_false] at hx
    rcases hx with rfl | rfl | rfl | rfl | rfl
    · exact ⟨[.int .i64 1, .int .i64 d], .bool (decide (1 ≤ d)), rfl, rfl, tells_leq rfl⟩
    · exact ⟨[.int .i64 d, .int .i64 1000000000000000000], .bool (decide (d < 1000000000000000000)), rfl, rfl, tells_lss rfl⟩
    · exact ⟨[.int .u64 (n.natAbs : Int), .int .u64 1000000000000000000], .bool (decide ((n.natAbs : Int) < 1000000000000000000)), rfl, rfl, tells_lss rfl⟩
    · exact ⟨[.int .i64 d], .int .u64 (IntKind.u64.wrap d), rfl, rfl, tells_int (u := .int .i64) (by kernel_rfl) (by kernel_rfl) rfl⟩
    · exact ⟨[.int .u64 (Nat.gcd n.natAbs (IntKind.u64.wrap d).natAbs : Int), .int .u64 1], .bool (decide ((Nat.gcd n.natAbs (IntKind.u64.wrap d).natAbs : Int) = 1)), rfl, rfl, tells_eql rfl⟩
theorem rValid_any (n d : Int) (n0 : -9223372036854775808 ≤ n) (n1 : n ≤ 9223372036854775807) (d0 : -9223372036854775808 ≤ d) (d1 : d ≤ 9223372036854775807) (w : World) :
    Calls Tryd.prog 15 #[.agg #[.int .i64 n, .int .i64 d]] w fun e w' => e = .returned (.bool (validF n d)) ∧ Below w.heap.size w w' := by
  obtain ⟨w0, w1⟩ := wrap_u64_nat d d0 d1
  have he : ((IntKind.u64.wrap d).natAbs : Int) = IntKind.u64.wrap d := Int.natAbs_of_nonneg w0
  have hr : validF n d = (decide (1 ≤ d) && decide (d < 1000000000000000000) && decide (-1000000000000000000 < n) && decide (n < 1000000000000000000) && decide ((Nat.gcd n.natAbs (IntKind.u64.wrap d).natAbs : Int) = 1)) := by
    rw [validF, Bool.eq_iff_iff]
    simp only [Bool.and_eq_true, decide_eq_true_eq]
    have hg : 1 ≤ d → (IntKind.u64.wrap d).natAbs = d.natAbs := fun h => by rw [IntKind.wrap_u64]; omega
    constructor
    · rintro ⟨h1, h2, h3, h4⟩; rw [hg h1]; exact ⟨⟨⟨⟨h1, h2⟩, by omega⟩, by omega⟩, by omega⟩
    · rintro ⟨⟨⟨⟨h1, h2⟩, h3⟩, h5⟩, h4⟩; rw [hg h1] at h4; exact ⟨h1, h2, by omega, by omega⟩
  rw [hr]
  refine calls_toldV (by kernel_rfl) (vaSym n d (n.natAbs : Int) (IntKind.u64.wrap d) (Nat.gcd n.natAbs (IntKind.u64.wrap d).natAbs : Int)) (vaCalls 46 45) [] (vbOps (decide (1 ≤ d)) (decide (d < 1000000000000000000)) (decide (-1000000000000000000 < n)) (decide (n < 1000000000000000000)) (decide ((Nat.gcd n.natAbs (IntKind.u64.wrap d).natAbs : Int) = 1)))
    ?_ (fun _ h => by cases h) ?_ (args := [.agg [.sy 0, .sy 1]]) (xs := [.agg #[.int .i64 n, .int .i64 d]]) rfl (evVb _ _ _ _ _ _ _ _ _ _) w
  · intro x hx
    simp only [vaCalls, List.mem_cons, List.not_mem_nil, or_false] at hx
    rcases hx with rfl | rfl
    · exact ⟨[.int .i64 n], _, rfl, rfl, fun w => (rSize_any n n0 n1 w).mono fun _ _ ⟨h1, h2⟩ => ⟨h1, by rw [h2]; exact Below.refl _ _⟩⟩
    · exact ⟨[.int .u64 (n.natAbs : Int), .int .u64 (IntKind.u64.wrap d)], _, rfl, rfl, fun w => by
        have := rGcd_any n.natAbs (IntKind.u64.wrap d).natAbs (by omega) (by omega) w
        rw [he] at this
        exact this⟩
  · intro x hx
    simp only [vbOps, List.mem_cons, List.not_mem_nil, or_false] at hx
    rcases hx with rfl | rfl | rfl | rfl | rfl | rfl
    · exact ⟨[.int .i64 d, .int .i64 1], .bool (decide (1 ≤ d)), rfl, rfl, tells_geq rfl⟩
    · exact ⟨[.int .i64 d, .int .i64 1000000000000000000], .bool (decide (d < 1000000000000000000)), rfl, rfl, tells_lss rfl⟩
    · exact ⟨[.int .i64 n, .int .i64 (-1000000000000000000)], .bool (decide (-1000000000000000000 < n)), rfl, rfl, tells_gtr rfl⟩
    · exact ⟨[.int .i64 n, .int .i64 1000000000000000000], .bool (decide (n < 1000000000000000000)), rfl, rfl, tells_lss rfl⟩
    · exact ⟨[.int .i64 d], .int .u64 (IntKind.u64.wrap d), rfl, rfl, tells_int (u := .int .i64) (by kernel_rfl) (by kernel_rfl) rfl⟩
    · exact ⟨[.int .u64 (Nat.gcd n.natAbs (IntKind.u64.wrap d).natAbs : Int), .int .u64 1], .bool (decide ((Nat.gcd n.natAbs (IntKind.u64.wrap d).natAbs : Int) = 1)), rfl, rfl, tells_eql rfl⟩
end Go.Proofs.YtdjnnbjpaohaiaaDoor
