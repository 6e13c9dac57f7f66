/- Contracts of layer 1: Same of the reference. -/
import Derived.Test.YtbhkbhaepefdgaaDoorSpC
import Derived.Laws.StructEq
namespace Go.Proofs.YtbhkbhaepefdgaaDoor
open Go.RowKit

theorem eqIv0 (a b c d : Int) (w : World) : Sem.run Tryd.prog (binOp .eql 23 (.agg #[.int .i64 a, .int .i64 b]) (.agg #[.int .i64 c, .int .i64 d])) w = .ok (.bool (decide (a = c ∧ b = d))) w := by
  have u3 := Tryd.underlying3
  have hS : Tryd.prog.underlying 23 = some (.struct (Tryd.prog.fieldsOf 23)) := by kernel_rfl
  have hp : Tryd.prog.stoodInHeld 23 = false := by kernel_rfl
  rw [run_eql_struct, show (10000 : Nat) = 9999 + 1 from rfl, run_equalIn_agg w 9999 23 _ _ hS hp]
  simp only [Program.fieldsOf, Tryd.underlying23]
  go_simp
  by_cases h1 : a = c <;> by_cases h2 : b = d <;> simp [h1, h2]
theorem neqIv (a b c d : Int) (w : World) : Sem.run Tryd.prog (binOp .neq 23 (.agg #[.int .i64 a, .int .i64 b]) (.agg #[.int .i64 c, .int .i64 d])) w = .ok (.bool (!(decide (a = c ∧ b = d)))) w := by
  have u3 := Tryd.underlying3
  have hS : Tryd.prog.underlying 23 = some (.struct (Tryd.prog.fieldsOf 23)) := by kernel_rfl
  have hp : Tryd.prog.stoodInHeld 23 = false := by kernel_rfl
  rw [run_neq_struct, show (10000 : Nat) = 9999 + 1 from rfl, run_equalIn_agg w 9999 23 _ _ hS hp]
  simp only [Program.fieldsOf, Tryd.underlying23]
  go_simp
  by_cases h1 : a = c <;> by_cases h2 : b = d <;> simp [h1, h2]

theorem same_step {xs ys : List Iv} {k : Nat} (hx : k < xs.length) (hy : k < ys.length) (h : xs.take k = ys.take k) (he : xs.getD k (0, 0) = ys.getD k (0, 0)) : xs.take (k + 1) = ys.take (k + 1) := by
  rw [take_snoc' xs k hx, take_snoc' ys k hy, h, he]
theorem same_not {xs ys : List Iv} {k : Nat} (he : ¬ xs.getD k (0, 0) = ys.getD k (0, 0)) : decide (xs = ys) = false := by
  simp only [decide_eq_false_iff_not]
  rintro rfl
  exact he rfl

set_option maxHeartbeats 1000000 in
theorem same_any (xs ys : List Iv) (A A' : Option Addr) (c c' B : Nat) (w : World) (hL : Lies w B A xs) (hL' : Lies w B A' ys) (hB : B ≤ w.heap.size) (hm : xs.length ≤ 9223372036854775807) (_hm' : ys.length ≤ 9223372036854775807) :
    Calls Tryd.prog 27 #[.slice A xs.length c, .slice A' ys.length c'] w fun e w' => e = .returned (.bool (decide (xs = ys))) ∧ Below w.heap.size w w' := by
  by_cases hlen : xs.length = ys.length
  · have HL := Lib.hid hL
    have HL' := Lib.hid hL'
    have HN := Lib.hid hlen
    clear hL hL'
    have hno : (((xs.length : Nat) : Int) != (ys.length : Int)) = false := by simp [hlen]
    rw [← hlen]
    rw [← hlen] at hno
    clear hlen
    go_enter Tryd.func27, Tryd.ntmps27
    go_wp2
    go_loopw [5] (fun i wr => ∃ k : Nat, k ≤ xs.length ∧ i = .int .i64 k ∧ Below w.heap.size w wr ∧ Hid (xs.take k = ys.take k)) (fun i _ => xs.length - (intOf i).toNat)
    case atStart => exact ⟨0, Nat.zero_le _, rfl, Below.refl _ _, rfl⟩
    case round =>
      obtain ⟨k, hk, rfl, hbw, Hs⟩ := hrel
      by_cases hlt : k < xs.length
      · obtain ⟨g, o, rfl, hg, hcell⟩ := (HL.out.below hbw hB) (by omega)
        obtain ⟨g', o', rfl, hg', hcell'⟩ := (HL'.out.below hbw hB) (by have := HN.out; omega)
        obtain ⟨c1, c2⟩ := hcell k hlt
        obtain ⟨d1, d2⟩ := hcell' k (by have := HN.out; omega)
        clear hcell hcell'
        obtain ⟨a, ha⟩ : ∃ a, a = xs.getD k (0, 0) := ⟨_, rfl⟩
        obtain ⟨b, hb⟩ : ∃ b, b = ys.getD k (0, 0) := ⟨_, rfl⟩
        rw [← ha] at c1 c2
        rw [← hb] at d1 d2
        have HA := Lib.hid ha
        have HB := Lib.hid hb
        clear ha hb
        obtain ⟨a1, a2⟩ := a
        obtain ⟨b1, b2⟩ := b
        simp only at c1 c2 d1 d2
        have i1 : (0 : Int) ≤ (k : Int) := by omega
        have i2 : (k : Int) < (xs.length : Int) := by omega
        by_cases he : a1 = b1 ∧ a2 = b2
        · have hq := fun W => neqIv a1 a2 b1 b2 W
          rw [show (!(decide (a1 = b1 ∧ a2 = b2))) = false by simp [he]] at hq
          have Hn : Hid (xs.take (k + 1) = ys.take (k + 1)) := same_step hlt (by have := HN.out; omega) Hs.out (by rw [← HA.out, ← HB.out, he.1, he.2])
          clear he
          go_wp2
          go_quiet (fail)
          go_wp2
          go_roundw
          case rel => exact ⟨k + 1, by omega, by go_num, below_drewN hbw _, Hn⟩
          case measure => simp [intOf]; omega
        · have hq := fun W => neqIv a1 a2 b1 b2 W
          rw [show (!(decide (a1 = b1 ∧ a2 = b2))) = true by simp only [decide_eq_false he]; rfl] at hq
          have HR : Hid (decide (xs = ys) = false) := same_not (k := k) (by rw [← HA.out, ← HB.out]; simpa using he)
          clear he
          go_wp2
          go_quiet (fail)
          go_wp2
          go_ret
          rw [HR.out]
          exact ⟨rfl, below_drewN hbw _⟩
      · have hkn : k = xs.length := by omega
        subst hkn
        have HR : Hid (decide (xs = ys) = true) := by
          have h1 := Hs.out
          have h2 := HN.out
          unfold Hid
          rw [List.take_length, h2, List.take_length] at h1
          simp [h1]
        go_wp2
        go_ret
        rw [HR.out]
        exact ⟨rfl, hbw⟩
  · have HR : Hid (decide (xs = ys) = false) := by
      unfold Hid
      simp only [decide_eq_false_iff_not]
      rintro rfl
      exact hlen rfl
    have hno : (((xs.length : Nat) : Int) != (ys.length : Int)) = true := by rw [bne_iff_ne]; omega
    clear hlen hL hL'
    go_enter Tryd.func27, Tryd.ntmps27
    go_wp2
    go_ret
    rw [HR.out]
    exact ⟨rfl, Below.refl _ _⟩
end Go.Proofs.YtbhkbhaepefdgaaDoor
