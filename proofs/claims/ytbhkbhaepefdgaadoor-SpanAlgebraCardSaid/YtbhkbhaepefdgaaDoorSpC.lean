/- Contracts of layer 1: All of the reference, Check, Contains, Within, Length of both. -/
import Derived.Test.YtbhkbhaepefdgaaDoorSpB
namespace Go.Proofs.YtbhkbhaepefdgaaDoor
open Go.RowKit

set_option maxHeartbeats 1000000 in
theorem refAll_any (xs : List Iv) (A : Option Addr) (c B : Nat) (w : World) (hL : Lies w B A xs) (hB : B ≤ w.heap.size) (hm : xs.length ≤ 9223372036854775807) :
    Calls Tryd.prog 50 #[.slice A xs.length c] w fun e w' => e = .returned (.int .i64 (errAll xs)) ∧ Below w.heap.size w w' := by
  have HL := Lib.hid hL
  clear hL
  go_enter Tryd.func50, Tryd.ntmps50
  go_wp2
  go_loopw [3] (fun i wr => ∃ k : Nat, k ≤ xs.length ∧ i = .int .i64 k ∧ Below w.heap.size w wr ∧ Hid ((xs.take k).any bad = false)) (fun i _ => xs.length - (intOf i).toNat)
  case atStart => exact ⟨0, Nat.zero_le _, rfl, Below.refl _ _, rfl⟩
  case round =>
    obtain ⟨k, hk, rfl, hbw, Hno⟩ := hrel
    by_cases hlt : k < xs.length
    · obtain ⟨g, o, rfl, hg, hcell⟩ := (HL.out.below hbw hB) (by omega)
      obtain ⟨c1, c2⟩ := hcell k hlt
      clear hcell
      obtain ⟨a, ha⟩ : ∃ a, a = xs.getD k (0, 0) := ⟨_, rfl⟩
      rw [← ha] at c1 c2
      have HA := Lib.hid ha
      clear ha
      cases hbad : bad a with
      | true =>
        have hres : errAll xs = 6 := by unfold errAll; rw [if_pos (any_of_get hlt (by rw [← HA.out]; exact hbad))]
        have HR := Lib.hid hres
        clear hres
        have h0 := fun W => outside_any a.1 a.2 W
        rw [hbad] at h0
        clear hbad
        have H0 := Lib.hid h0
        clear h0
        go_wp2_with fail
        refine (H0.out _).mono ?_
        rintro e w1 ⟨rfl, hb1⟩
        go_wp2
        go_ret
        rw [HR.out]
        exact ⟨rfl, hbw.trans (hb1.mono hbw.size)⟩
      | false =>
        have Hn : Hid ((xs.take (k + 1)).any bad = false) := any_take_bad hlt Hno.out (by rw [← HA.out]; exact hbad)
        have h0 := fun W => outside_any a.1 a.2 W
        rw [hbad] at h0
        clear hbad
        have H0 := Lib.hid h0
        clear h0
        go_wp2_with fail
        refine (H0.out _).mono ?_
        rintro e w1 ⟨rfl, hb1⟩
        go_wp2
        go_roundw
        case rel => exact ⟨k + 1, by omega, by go_num, hbw.trans (hb1.mono hbw.size), Hn⟩
        case measure => simp [intOf]; omega
    · have hkn : k = xs.length := by omega
      subst hkn
      have HN : Hid (xs.any bad = false) := by have := Hno.out; rwa [List.take_length] at this
      clear Hno
      go_wp2
      go_loopw [4] (fun i wr => ∃ k : Nat, k ≤ xs.length ∧ i = .int .i64 k ∧ Below w.heap.size w wr ∧ Hid ((xs.take k).any rev = false)) (fun i _ => xs.length - (intOf i).toNat)
      case atStart => exact ⟨0, Nat.zero_le _, rfl, hbw, rfl⟩
      case round =>
        clear hbw
        obtain ⟨k, hk, rfl, hbw, Hno⟩ := hrel
        by_cases hlt : k < xs.length
        · obtain ⟨g, o, rfl, hg, hcell⟩ := (HL.out.below hbw hB) (by omega)
          obtain ⟨c1, c2⟩ := hcell k hlt
          clear hcell
          obtain ⟨a, ha⟩ : ∃ a, a = xs.getD k (0, 0) := ⟨_, rfl⟩
          rw [← ha] at c1 c2
          have HA := Lib.hid ha
          clear ha
          have i1 : (0 : Int) ≤ (k : Int) := by omega
          have i2 : (k : Int) < (xs.length : Int) := by omega
          by_cases hrev : a.2 < a.1
          · have hres : errAll xs = 1 := by unfold errAll; rw [if_neg (by rw [HN.out]; simp), if_pos (any_of_get hlt (by rw [← HA.out]; simpa [rev] using hrev))]
            have HR := Lib.hid hres
            clear hres
            go_wp2
            go_quiet (fail)
            go_wp2
            go_ret
            rw [HR.out]
            exact ⟨rfl, below_drewN hbw _⟩
          · have Hn : Hid ((xs.take (k + 1)).any rev = false) := any_take_bad hlt Hno.out (by rw [← HA.out]; simpa [rev] using hrev)
            go_wp2
            go_quiet (fail)
            go_wp2
            go_roundw
            case rel => exact ⟨k + 1, by omega, by go_num, below_drewN hbw _, Hn⟩
            case measure => simp [intOf]; omega
        · have hkn : k = xs.length := by omega
          subst hkn
          have hres : errAll xs = 0 := by unfold errAll; rw [if_neg (by rw [HN.out]; simp), if_neg (by have := Hno.out; rw [List.take_length] at this; rw [this]; simp)]
          have HR := Lib.hid hres
          clear hres
          go_wp2
          go_ret
          rw [HR.out]
          exact ⟨rfl, hbw⟩

theorem lies_row {w : World} {g B : Nat} {cur : Array Value} {t : TypeId} {r : Nat × Nat} (h : w.heap[g]? = some (.cells cur t r)) (hg : g < B) {xs : List Iv}
    (hc : ∀ k, k < xs.length → cur[k * 2]? = some (.int .i64 (xs.getD k (0, 0)).1) ∧ cur[k * 2 + 1]? = some (.int .i64 (xs.getD k (0, 0)).2)) : Lies w B (some ⟨g, 0, none⟩) xs := fun _ =>
  ⟨g, 0, rfl, hg, fun k hk => by
    rw [Nat.zero_add, cell_of_row w g _ cur t r h, cell_of_row w g _ cur t r h]
    exact hc k hk⟩
theorem lies_one (w : World) (a : Iv) (t : TypeId) (g : Nat) (hg : w.heap.size = g) : Lies (w.alloc (.cells #[.int .i64 a.1, .int .i64 a.2] t)) (g + 1) (some ⟨g, 0, none⟩) [a] := by
  subst hg
  refine lies_row (heap_alloc_new w _) (by omega) fun k hk => ?_
  have : k = 0 := by simpa using hk
  subst this
  exact ⟨rfl, rfl⟩
theorem lies_two (w : World) (a b : Iv) (t : TypeId) (g : Nat) (hg : w.heap.size = g) : Lies (w.alloc (.cells #[.int .i64 a.1, .int .i64 a.2, .int .i64 b.1, .int .i64 b.2] t)) (g + 1) (some ⟨g, 0, none⟩) [a, b] := by
  subst hg
  refine lies_row (heap_alloc_new w _) (by omega) fun k hk => ?_
  have : k = 0 ∨ k = 1 := by simp at hk; omega
  rcases this with rfl | rfl <;> exact ⟨rfl, rfl⟩
theorem lies_three (w : World) (a b c : Iv) (t : TypeId) (g : Nat) (hg : w.heap.size = g) : Lies (w.alloc (.cells #[.int .i64 a.1, .int .i64 a.2, .int .i64 b.1, .int .i64 b.2, .int .i64 c.1, .int .i64 c.2] t)) (g + 1) (some ⟨g, 0, none⟩) [a, b, c] := by
  subst hg
  refine lies_row (heap_alloc_new w _) (by omega) fun k hk => ?_
  have : k = 0 ∨ k = 1 ∨ k = 2 := by simp at hk; omega
  rcases this with rfl | rfl | rfl <;> exact ⟨rfl, rfl⟩

set_option maxHeartbeats 400000 in
theorem check_any (a b : Int) (w : World) :
    Calls Tryd.prog 85 #[.agg #[.int .i64 a, .int .i64 b]] w fun e w' => e = .returned (.int .i64 (errAll [(a, b)])) ∧ Below w.heap.size w w' := by
  have H := Lib.hid (fun W hL => checkAll_any [(a, b)] (some ⟨w.heap.size + 1, 0, none⟩) 1 (w.heap.size + 1 + 1) W hL)
  go_enter Tryd.func85, Tryd.ntmps85
  go_wp2_with fail
  refine (H.out _ (lies_one (w.alloc _) (a, b) _ _ (by simp)) (by simp) (by simp)).mono ?_
  rintro e w1 ⟨rfl, hb⟩
  go_wp2
  go_ret
  exact ⟨rfl, (((Below.refl _ _).alloc (Nat.le_refl _) _).alloc (by simp) _).trans (hb.mono (by simp; omega))⟩


/-- What Length gives. -/
def lenIv (a b : Int) : Int := if errAll [(a, b)] = 0 then b - a + 1 else 0

set_option maxHeartbeats 800000 in
theorem length_any (a b : Int) (w : World) :
    Calls Tryd.prog 56 #[.agg #[.int .i64 a, .int .i64 b]] w fun e w' => e = .returned (.int .i64 (lenIv a b)) ∧ Below w.heap.size w w' := by
  by_cases h : errAll [(a, b)] = 0
  · have hok := errAll_zero.1 h (a, b) (by simp)
    have HR : Hid (lenIv a b = b - a + 1) := if_pos h
    have h0 := fun W => check_any a b W
    rw [h] at h0
    have H0 := Lib.hid h0
    clear h0 h
    obtain ⟨g1, g2, g3⟩ := hok
    simp only at g1 g2 g3
    go_enter Tryd.func56, Tryd.ntmps56
    go_wp2_with fail
    refine (H0.out _).mono ?_
    rintro e w1 ⟨rfl, hb⟩
    obtain ⟨hc, hf⟩ := bcell hb
    go_wp2
    go_ret
    rw [HR.out]
    exact ⟨rfl, ((Below.refl _ _).alloc (Nat.le_refl _) _).trans (hb.mono (by simp))⟩
  · have HR : Hid (lenIv a b = 0) := if_neg h
    have h0 := fun W => check_any a b W
    have hne : (errAll [(a, b)] != 0) = true := by simp [h]
    obtain ⟨x, hx⟩ : ∃ x, x = errAll [(a, b)] := ⟨_, rfl⟩
    rw [← hx] at h0 hne
    have H0 := Lib.hid h0
    clear h0 h hx
    go_enter Tryd.func56, Tryd.ntmps56
    go_wp2_with fail
    refine (H0.out _).mono ?_
    rintro e w1 ⟨rfl, hb⟩
    go_wp2
    go_ret
    rw [HR.out]
    exact ⟨rfl, ((Below.refl _ _).alloc (Nat.le_refl _) _).trans (hb.mono (by simp))⟩


/-- Whether a number lies in an interval. -/
def inIv (a b n : Int) : Bool := decide (a ≤ n ∧ n ≤ b)
/-- Whether all numbers of an interval lie in another one. -/
def withinIv (a b c d : Int) : Bool := decide (b < a ∨ (c ≤ a ∧ b ≤ d))


set_option maxHeartbeats 800000 in
theorem refContains_any (a b n : Int) (w : World) :
    Calls Tryd.prog 59 #[.agg #[.int .i64 a, .int .i64 b], .int .i64 n] w fun e w' => e = .returned (.bool (inIv a b n)) ∧ Below w.heap.size w w' := by
  by_cases h1 : a ≤ n
  · by_cases h2 : n ≤ b
    · have HR : Hid (inIv a b n = true) := by unfold Hid inIv; simp [h1, h2]
      go_enter Tryd.func59, Tryd.ntmps59
      go_wp2
      go_ret
      rw [HR.out]
      exact ⟨by simp, (Below.refl _ _).alloc (Nat.le_refl _) _⟩
    · have HR : Hid (inIv a b n = false) := by unfold Hid inIv; simp [h1, h2]
      go_enter Tryd.func59, Tryd.ntmps59
      go_wp2
      go_ret
      rw [HR.out]
      exact ⟨by simp, (Below.refl _ _).alloc (Nat.le_refl _) _⟩
  · have HR : Hid (inIv a b n = false) := by unfold Hid inIv; simp [h1]
    go_enter Tryd.func59, Tryd.ntmps59
    go_wp2
    go_ret
    rw [HR.out]
    exact ⟨by simp, (Below.refl _ _).alloc (Nat.le_refl _) _⟩


end Go.Proofs.YtbhkbhaepefdgaaDoor
