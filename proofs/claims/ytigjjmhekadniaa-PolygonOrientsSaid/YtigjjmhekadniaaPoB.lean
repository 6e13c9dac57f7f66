/- Contracts of layer 5: the reference's Allowed and Orient; Orient. -/
import Derived.Test.YtigjjmhekadniaaVeR
import Derived.IntWalk
namespace Go.Proofs.Ytigjjmhekadniaa
open Go.RowKit

set_option maxHeartbeats 1000000 in
theorem rOrient (a b c : Pt) (ha : InP a) (hb : InP b) (hc : InP c) (w : World) : Calls Try.prog 24 #[ptV a, ptV b, ptV c] w fun e w' => e = .returned (.int .i64 (trn a b c)) ∧ Below w.heap.size w w' := by
  have HT : Hid (trn a b c = cmpI ((b.1 - a.1) * (c.2 - a.2)) ((b.2 - a.2) * (c.1 - a.1))) := rfl
  generalize trn a b c = r at HT ⊢
  obtain ⟨a1, a2⟩ := a
  obtain ⟨b1, b2⟩ := b
  obtain ⟨c1, c2⟩ := c
  simp only [InP] at ha hb hc HT
  obtain ⟨x1, x2, x3, x4⟩ := ha
  obtain ⟨y1, y2, y3, y4⟩ := hb
  obtain ⟨z1, z2, z3, z4⟩ := hc
  have p1 := two_mul (tw y1 y2 x1 x2) (tw z3 z4 x3 x4)
  have p2 := two_mul (tw y3 y4 x3 x4) (tw z1 z2 x1 x2)
  have e1 : wrap64 (b1 - a1) = b1 - a1 := IntWalk.wrap64_in _ (by omega)
  have e2 : wrap64 (c2 - a2) = c2 - a2 := IntWalk.wrap64_in _ (by omega)
  have e3 : wrap64 (b2 - a2) = b2 - a2 := IntWalk.wrap64_in _ (by omega)
  have e4 : wrap64 (c1 - a1) = c1 - a1 := IntWalk.wrap64_in _ (by omega)
  have e5 : wrap64 ((b1 - a1) * (c2 - a2)) = (b1 - a1) * (c2 - a2) := IntWalk.wrap64_in _ (by omega)
  have e6 : wrap64 ((b2 - a2) * (c1 - a1)) = (b2 - a2) * (c1 - a1) := IntWalk.wrap64_in _ (by omega)
  have e7 : wrap64 ((b1 - a1) * (c2 - a2) - (b2 - a2) * (c1 - a1)) = (b1 - a1) * (c2 - a2) - (b2 - a2) * (c1 - a1) := IntWalk.wrap64_in _ (by omega)
  have hr : r = if 0 < (b1 - a1) * (c2 - a2) - (b2 - a2) * (c1 - a1) then 1 else if (b1 - a1) * (c2 - a2) - (b2 - a2) * (c1 - a1) < 0 then -1 else 0 := by
    rw [HT.out, cmpI]
    generalize (b1 - a1) * (c2 - a2) = P
    generalize (b2 - a2) * (c1 - a1) = Q
    (repeat' split) <;> omega
  clear p1 p2 x1 x2 x3 x4 y1 y2 y3 y4 z1 z2 z3 z4 HT
  have HR := Lib.hid hr
  clear hr
  go_enter Try.func24, Try.ntmps24
  go_wp2_with fail
  all_goals
    rw [HR.out]
    first | rw [if_pos (by omega)] | rw [if_neg (by omega), if_pos (by omega)] | rw [if_neg (by omega), if_neg (by omega)]
    go_ret
    exact ⟨rfl, below3 _ _ _ _⟩

set_option maxHeartbeats 1000000 in
theorem rAllowed (a : Pt) (w : World) : Calls Try.prog 22 #[ptV a] w fun e w' => e = .returned (.bool (inP a)) ∧ Below w.heap.size w w' := by
  obtain ⟨x, y⟩ := a
  have HR : Hid (inP (x, y) = decide (-1000000 ≤ x ∧ x ≤ 1000000 ∧ -1000000 ≤ y ∧ y ≤ 1000000)) := by
    show _ = _
    rw [Bool.eq_iff_iff, inP_iff, decide_eq_true_iff]; rfl
  generalize inP (x, y) = r at HR ⊢
  by_cases h1 : -1000000 ≤ x
  · by_cases h2 : x ≤ 1000000
    · by_cases h3 : -1000000 ≤ y
      · by_cases h4 : y ≤ 1000000
        all_goals
          go_enter Try.func22, Try.ntmps22
          go_wp2_with fail
          rw [HR.out]
          first | rw [decide_eq_true (by omega)] | rw [decide_eq_false (by omega)]
          go_ret
          exact ⟨rfl, below1 _ _⟩
      · go_enter Try.func22, Try.ntmps22
        go_wp2_with fail
        rw [HR.out, decide_eq_false (by omega)]
        go_ret
        exact ⟨rfl, below1 _ _⟩
    · go_enter Try.func22, Try.ntmps22
      go_wp2_with fail
      rw [HR.out, decide_eq_false (by omega)]
      go_ret
      exact ⟨rfl, below1 _ _⟩
  · go_enter Try.func22, Try.ntmps22
    go_wp2_with fail
    rw [HR.out, decide_eq_false (by omega)]
    go_ret
    exact ⟨rfl, below1 _ _⟩

set_option maxRecDepth 20000 in
set_option maxHeartbeats 4000000 in
theorem orient_ok (a b c : Pt) (ha : inP a = true) (hb : inP b = true) (hc : inP c = true) (w : World) : Calls Try.prog 23 #[ptV a, ptV b, ptV c] w fun e w' => e = .returned (.int .i64 (trn a b c)) ∧ Below w.heap.size w w' := by
  have HT := Lib.hid (fun W => turn3_ok a b c ha hb hc W)
  obtain ⟨a1, a2⟩ := a
  obtain ⟨b1, b2⟩ := b
  obtain ⟨c1, c2⟩ := c
  clear ha hb hc
  have HB := Lib.hid (fun A B C => below3 w A B C)
  go_enter Try.func23, Try.ntmps23
  go_wp2_with fail
  refine (HT.out _).mono ?_
  rintro e w1 ⟨rfl, hb1⟩
  have HB1 := Lib.hid ((HB.out _ _ _).trans (hb1.mono (HB.out _ _ _).size))
  clear hb1 HB
  go_wp2_with fail
  go_ret
  exact ⟨rfl, HB1.out⟩
end Go.Proofs.Ytigjjmhekadniaa
