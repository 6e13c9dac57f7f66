/- Contracts of layer 1: result; how a list of intervals lies in memory; checkAll. -/
import Derived.Test.YtbhkbhaepefdgaaDoorSpA
namespace Go.Proofs.YtbhkbhaepefdgaaDoor
open Go.RowKit

set_option maxHeartbeats 800000 in
theorem result_ok (a b : Int) (h : bad (a, b) = false) (w : World) :
    Calls Tryd.prog 51 #[.agg #[.int .i64 a, .int .i64 b]] w fun e w' => e = .returned (.tuple #[.agg #[.int .i64 a, .int .i64 b], .int .i64 0]) ∧ Below w.heap.size w w' := by
  have h0 := fun W => outside_any a b W
  rw [h] at h0
  have H0 := Lib.hid h0
  clear h0 h
  go_enter Tryd.func51, Tryd.ntmps51
  go_wp2_with fail
  refine (H0.out _).mono ?_
  rintro e w1 ⟨rfl, hb⟩
  obtain ⟨hc, hf⟩ := bcell hb
  have hz : w.heap.size + 1 < w1.heap.size := by have := hb.size; simp at this; omega
  go_wp2
  exact bodyPost_ret (v := .tuple #[.agg #[.int .i64 a, .int .i64 b], .int .i64 0]) (by simp [results, Tryd.results51, go_sem, hc]) rfl ⟨rfl, (((((Below.refl _ _).alloc (Nat.le_refl _) _).alloc (by simp) _).trans (hb.mono (by simp; omega))).setCell (by simp) _).setCell (by simp) _⟩

set_option maxHeartbeats 800000 in
theorem result_bad (a b : Int) (h : bad (a, b) = true) (w : World) :
    Calls Tryd.prog 51 #[.agg #[.int .i64 a, .int .i64 b]] w fun e w' => e = .returned (.tuple #[.agg #[.int .i64 0, .int .i64 0], .int .i64 6]) ∧ Below w.heap.size w w' := by
  have h0 := fun W => outside_any a b W
  rw [h] at h0
  have H0 := Lib.hid h0
  clear h0 h
  go_enter Tryd.func51, Tryd.ntmps51
  go_wp2_with fail
  refine (H0.out _).mono ?_
  rintro e w1 ⟨rfl, hb⟩
  obtain ⟨hc, hf⟩ := bcell hb
  have hz : w.heap.size + 1 < w1.heap.size := by have := hb.size; simp at this; omega
  go_wp2
  exact bodyPost_ret (v := .tuple #[.agg #[.int .i64 0, .int .i64 0], .int .i64 6]) (by simp [results, Tryd.results51, go_sem, hc]) rfl ⟨rfl, (((((Below.refl _ _).alloc (Nat.le_refl _) _).alloc (by simp) _).trans (hb.mono (by simp; omega))).setCell (by simp) _).setCell (by simp) _⟩

/-- The intervals xs lie at the address A, below block B (an empty list may lie anywhere, or nowhere). -/
def Lies (w : World) (B : Nat) (A : Option Addr) (xs : List Iv) : Prop :=
  0 < xs.length → ∃ g o, A = some ⟨g, o, none⟩ ∧ g < B ∧ ∀ k, k < xs.length → w.cell? ⟨g, o + k * 2, none⟩ = some (.int .i64 (xs.getD k (0, 0)).1) ∧ w.cell? ⟨g, o + k * 2 + 1, none⟩ = some (.int .i64 (xs.getD k (0, 0)).2)

theorem Lies.below {w w' : World} {B B' : Nat} {A : Option Addr} {xs : List Iv} (h : Lies w B A xs) (hb : Below B' w w') (hB : B ≤ B') : Lies w' B A xs := fun hn => by
  obtain ⟨g, o, hA, hg, hc⟩ := h hn
  exact ⟨g, o, hA, hg, fun k hk => ⟨(hb.cell (p := ⟨g, _, none⟩) (by show g < B'; omega)).trans (hc k hk).1, (hb.cell (p := ⟨g, _, none⟩) (by show g < B'; omega)).trans (hc k hk).2⟩⟩
theorem Lies.more {w : World} {B B' : Nat} {A : Option Addr} {xs : List Iv} (h : Lies w B A xs) (hB : B ≤ B') : Lies w B' A xs := fun hn => by
  obtain ⟨g, o, hA, hg, hc⟩ := h hn
  exact ⟨g, o, hA, by omega, hc⟩

theorem any_take_bad {p : Iv → Bool} {xs : List Iv} {k : Nat} (h : k < xs.length) (h0 : (xs.take k).any p = false) (h1 : p (xs.getD k (0, 0)) = false) : (xs.take (k + 1)).any p = false := by
  rw [take_snoc' xs k h, List.any_append, h0, List.any_cons, h1]; rfl
theorem any_of_get {p : Iv → Bool} {xs : List Iv} {k : Nat} (h : k < xs.length) (h1 : p (xs.getD k (0, 0)) = true) : xs.any p = true :=
  List.any_eq_true.2 ⟨xs.getD k (0, 0), by simp [List.getD, h], h1⟩

set_option maxHeartbeats 1000000 in
theorem checkAll_any (xs : List Iv) (A : Option Addr) (c B : Nat) (w : World) (hL : Lies w B A xs) (hB : B ≤ w.heap.size) (hm : xs.length ≤ 9223372036854775807) :
    Calls Tryd.prog 46 #[.slice A xs.length c] w fun e w' => e = .returned (.int .i64 (errAll xs)) ∧ Below w.heap.size w w' := by
  have HL := Lib.hid hL
  clear hL
  go_enter Tryd.func46, Tryd.ntmps46
  go_wp2
  go_loopw [11] (fun i wr => ∃ k : Nat, k ≤ xs.length ∧ i = .int .i64 k ∧ Below w.heap.size w wr ∧ Hid ((xs.take k).any bad = false)) (fun i _ => xs.length - (intOf i).toNat)
  case atStart => exact ⟨0, Nat.zero_le _, rfl, Below.refl _ _, rfl⟩
  case round =>
    obtain ⟨k, hk, rfl, hbw, Hno⟩ := hrel
    by_cases hlt : k < xs.length
    · obtain ⟨g, o, rfl, hg, hcell⟩ := (HL.out.below hbw hB) (by omega)
      obtain ⟨c1, c2⟩ := hcell k hlt
      clear hcell
      obtain ⟨a, ha⟩ : ∃ a, a = xs.getD k (0, 0) := ⟨_, rfl⟩
      rw [← ha] at c1 c2
      have HA := Lib.hid ha
      clear ha
      by_cases hbad : bad a = true
      · have hres : errAll xs = 6 := by unfold errAll; rw [if_pos (any_of_get hlt (by rw [← HA.out]; exact hbad))]
        have HR := Lib.hid hres
        clear hres
        go_wp2_with fail
        refine (inRange_bad a.1 a.2 hbad _).mono ?_
        rintro e w1 ⟨rfl, hb1⟩
        obtain ⟨hc1, hf1⟩ := bcell hb1
        have hz1 : wr.heap.size < w1.heap.size := by have := hb1.size; simp at this; omega
        go_wp2
        go_ret
        rw [HR.out]
        exact ⟨rfl, ((hbw.alloc hbw.size _).trans (hb1.mono (by have := hbw.size; simp; omega))).alloc (by have := hbw.size; omega) _⟩
      · have hbad' : bad a = false := by simpa using hbad
        have Hn : Hid ((xs.take (k + 1)).any bad = false) := any_take_bad hlt Hno.out (by rw [← HA.out]; exact hbad')
        go_wp2_with fail
        refine (inRange_ok a.1 a.2 hbad' _).mono ?_
        rintro e w1 ⟨rfl, hb1⟩
        obtain ⟨hc1, hf1⟩ := bcell hb1
        have hz1 : wr.heap.size < w1.heap.size := by have := hb1.size; simp at this; omega
        go_wp2
        go_roundw
        case rel => exact ⟨k + 1, by omega, by go_num, ((hbw.alloc hbw.size _).trans (hb1.mono (by have := hbw.size; simp; omega))).alloc (by have := hbw.size; omega) _, Hn⟩
        case measure => simp [intOf]; omega
    · have hkn : k = xs.length := by omega
      subst hkn
      have HN : Hid (xs.any bad = false) := by have := Hno.out; rwa [List.take_length] at this
      clear Hno
      go_wp2
      go_loopw [26] (fun i wr => ∃ k : Nat, k ≤ xs.length ∧ i = .int .i64 k ∧ Below w.heap.size w wr ∧ Hid ((xs.take k).any rev = false)) (fun i _ => xs.length - (intOf i).toNat)
      case atStart => exact ⟨0, Nat.zero_le _, rfl, hbw, rfl⟩
      case round =>
        clear hbw
        obtain ⟨k, hk, rfl, hbw, Hno⟩ := hrel
        by_cases hlt : k < xs.length
        · obtain ⟨g, o, rfl, hg, hcell⟩ := (HL.out.below hbw hB) (by omega)
          obtain ⟨c1, c2⟩ := hcell k hlt
          clear hcell
          obtain ⟨a, ha⟩ : ∃ a, a = xs.getD k (0, 0) := ⟨_, rfl⟩
          rw [← ha] at c1 c2
          have HA := Lib.hid ha
          clear ha
          by_cases hrev : a.2 < a.1
          · have hres : errAll xs = 1 := by unfold errAll; rw [if_neg (by rw [HN.out]; simp), if_pos (any_of_get hlt (by rw [← HA.out]; simpa [rev] using hrev))]
            have HR := Lib.hid hres
            clear hres
            go_wp2
            go_ret
            rw [HR.out]
            exact ⟨rfl, hbw.alloc hbw.size _⟩
          · have Hn : Hid ((xs.take (k + 1)).any rev = false) := any_take_bad hlt Hno.out (by rw [← HA.out]; simpa [rev] using hrev)
            go_wp2
            go_roundw
            case rel => exact ⟨k + 1, by omega, by go_num, hbw.alloc hbw.size _, Hn⟩
            case measure => simp [intOf]; omega
        · have hkn : k = xs.length := by omega
          subst hkn
          have hres : errAll xs = 0 := by unfold errAll; rw [if_neg (by rw [HN.out]; simp), if_neg (by have := Hno.out; rw [List.take_length] at this; rw [this]; simp)]
          have HR := Lib.hid hres
          clear hres
          go_wp2
          go_ret
          rw [HR.out]
          exact ⟨rfl, hbw⟩
end Go.Proofs.YtbhkbhaepefdgaaDoor
