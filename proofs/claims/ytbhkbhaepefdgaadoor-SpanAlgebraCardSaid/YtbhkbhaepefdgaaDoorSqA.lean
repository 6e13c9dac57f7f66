/- In and Count of the reference, the law's normal. -/
import Derived.Test.YtbhkbhaepefdgaaDoorSpJ
import Derived.Test.YtbhkbhaepefdgaaDoorSpX
namespace Go.Proofs.YtbhkbhaepefdgaaDoor
open Go.RowKit

theorem getD_memIv {xs : List Iv} {k : Nat} (h : k < xs.length) : xs.getD k (0, 0) ∈ xs := by
  rw [List.getD_eq_getElem?_getD, List.getElem?_eq_getElem h]; exact List.getElem_mem h
theorem memB_p (n : Int) (a : Iv) : (decide (a.1 ≤ n) && decide (n ≤ a.2)) = inIv a.1 a.2 n := by simp [inIv]

set_option maxHeartbeats 1000000 in
theorem in_any (xs : List Iv) (n : Int) (v : Value) (B : Nat) (w : World) (hL : SliceIv w B v xs) (hB : B ≤ w.heap.size) (hm : xs.length ≤ 1000000) :
    Calls Tryd.prog 29 #[v, .int .i64 n] w fun e w' => e = .returned (.bool (memB n xs)) ∧ Below w.heap.size w w' := by
  obtain ⟨A, c, rfl, _, hL⟩ := hL
  have HL := Lib.hid hL
  clear hL
  go_enter Tryd.func29, Tryd.ntmps29
  go_wp2_with fail
  go_loopw [5] (fun i wr => ∃ k : Nat, k ≤ xs.length ∧ i = .int .i64 k ∧ Below w.heap.size w wr ∧ Hid ((xs.take k).any (fun x => decide (x.1 ≤ n) && decide (n ≤ x.2)) = false)) (fun i _ => xs.length - (intOf i).toNat)
  case atStart => exact ⟨0, Nat.zero_le _, rfl, Below.refl _ _, rfl⟩
  case round =>
    obtain ⟨k, hk, rfl, hbw, Hno⟩ := hrel
    by_cases hlt : k < xs.length
    · obtain ⟨g, o, rfl, hg, hcell⟩ := (HL.out.below hbw hB) (by omega)
      obtain ⟨c1, c2⟩ := hcell k hlt
      clear hcell
      obtain ⟨a, ha⟩ : ∃ a, a = xs.getD k (0, 0) := ⟨_, rfl⟩
      rw [← ha] at c1 c2
      have HA := Lib.hid ha
      clear ha
      have h0 := fun W => refContains_any a.1 a.2 n W
      cases hin : inIv a.1 a.2 n with
      | true =>
        have hres : memB n xs = true := any_of_get hlt (by rw [← HA.out, memB_p]; exact hin)
        have HR := Lib.hid hres
        clear hres
        rw [hin] at h0
        clear hin
        have H0 := Lib.hid h0
        clear h0
        go_wp2_with fail
        refine (H0.out _).mono ?_
        rintro e w1 ⟨rfl, hb1⟩
        go_wp2
        go_ret
        rw [HR.out]
        exact ⟨rfl, hbw.trans (hb1.mono hbw.size)⟩
      | false =>
        have Hn : Hid ((xs.take (k + 1)).any (fun x => decide (x.1 ≤ n) && decide (n ≤ x.2)) = false) := any_take_bad hlt Hno.out (by rw [← HA.out, memB_p]; exact hin)
        rw [hin] at h0
        clear hin
        have H0 := Lib.hid h0
        clear h0
        go_wp2_with fail
        refine (H0.out _).mono ?_
        rintro e w1 ⟨rfl, hb1⟩
        go_wp2
        go_roundw
        case rel => exact ⟨k + 1, by omega, by go_num, hbw.trans (hb1.mono hbw.size), Hn⟩
        case measure => simp [intOf]; omega
    · have hkn : k = xs.length := by omega
      subst hkn
      have hres : memB n xs = false := by have := Hno.out; rwa [List.take_length] at this
      have HR := Lib.hid hres
      clear hres
      go_wp2
      go_ret
      rw [HR.out]
      exact ⟨rfl, hbw⟩

set_option maxHeartbeats 1000000 in
theorem refCount_any (xs : List Iv) (v : Value) (B : Nat) (w : World) (hL : SliceIv w B v xs) (hB : B ≤ w.heap.size) (hm : xs.length ≤ 1000000) (hO : OkL xs) :
    Calls Tryd.prog 28 #[v] w fun e w' => e = .returned (.int .i64 (countL xs)) ∧ Below w.heap.size w w' := by
  obtain ⟨A, c, rfl, _, hL⟩ := hL
  have HL := Lib.hid hL
  have HO := Lib.hid hO
  clear hL hO
  go_enter Tryd.func28, Tryd.ntmps28
  go_wp2_with fail
  go_loopw [3, 4] (fun n i wr => ∃ k : Nat, k ≤ xs.length ∧ i = .int .i64 k ∧ n = .int .i64 (countL (xs.take k)) ∧ Below w.heap.size w wr) (fun _ i _ => xs.length - (intOf i).toNat)
  case atStart => exact ⟨0, Nat.zero_le _, rfl, rfl, Below.refl _ _⟩
  case round =>
    obtain ⟨k, hk, rfl, rfl, hbw⟩ := hrel
    by_cases hlt : k < xs.length
    · obtain ⟨g, o, rfl, hg, hcell⟩ := (HL.out.below hbw hB) (by omega)
      obtain ⟨c1, c2⟩ := hcell k hlt
      clear hcell
      have hb := countL_bound (xs.take k) (fun x hx => HO.out x (List.mem_of_mem_take hx))
      have hkl : ((xs.take k).length : Int) ≤ 1000000 := by have := List.length_take_le k xs; omega
      have HC : Hid (countL (xs.take (k + 1)) = countL (xs.take k) + ((xs.getD k (0, 0)).2 - (xs.getD k (0, 0)).1 + 1)) := by unfold Hid; rw [take_snoc' xs k hlt, countL_snoc]
      have hx := HO.out (xs.getD k (0, 0)) (getD_memIv hlt)
      generalize xs.getD k (0, 0) = a at c1 c2 HC hx
      obtain ⟨a1, a2⟩ := a
      simp only at c1 c2 HC hx
      obtain ⟨x1, x2, x3⟩ := hx
      obtain ⟨m, hm'⟩ : ∃ m, m = countL (xs.take k) := ⟨_, rfl⟩
      rw [← hm'] at hb HC ⊢
      clear hm'
      have hb0 : 0 ≤ m := hb.1
      have hb3 : m ≤ 2000000000001000000 := by omega
      clear hb
      have i1 : (0 : Int) ≤ (k : Int) := by omega
      have i2 : (k : Int) < (xs.length : Int) := by omega
      have i3 : IntKind.i64.wrap (a2 - a1) = a2 - a1 := IntWalk.i64_in _ (by omega)
      have i4 : IntKind.i64.wrap (a2 - a1 + 1) = a2 - a1 + 1 := IntWalk.i64_in _ (by omega)
      have i5 : IntKind.i64.wrap (m + (a2 - a1 + 1)) = m + (a2 - a1 + 1) := IntWalk.i64_in _ (by omega)
      go_wp2
      go_quiet (fail)
      go_wp2
      go_roundw
      case rel => exact ⟨k + 1, by omega, by go_num, by rw [HC.out], below_drewN hbw _⟩
      case measure => simp [intOf]; omega
    · have hkn : k = xs.length := by omega
      subst hkn
      rw [List.take_length]
      go_wp2_with fail
      go_ret
      exact ⟨rfl, hbw⟩
end Go.Proofs.YtbhkbhaepefdgaaDoor
