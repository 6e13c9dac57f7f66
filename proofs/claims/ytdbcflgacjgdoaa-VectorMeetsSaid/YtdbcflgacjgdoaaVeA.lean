/- Contracts of layer 3 (vector): cmp's functions; coordinates, vector; indices of an array of three. -/
import Derived.Test.YtdbcflgacjgdoaaProg
import Derived.WalkKit
import Derived.WalkSpells
import Derived.WalkLawsBesides
import Derived.Deep.QuietTactic
import Derived.BigQuiet
import Derived.LoopN
import Derived.Lib.Hide
import Derived.Test.YtdbcflgacjgdoaaVeM
namespace Go.Proofs.Ytdbcflgacjgdoaa
open Go.RowKit

/-- Behind a call that only makes blocks: old cells and old marks read as before. -/
theorem bcell {W w1 : World} (hb : Below W.heap.size W w1) : (∀ b o, b < W.heap.size → w1.cell? ⟨b, o, none⟩ = W.cell? ⟨b, o, none⟩) ∧ (∀ b o, b < W.heap.size → w1.frozen? ⟨b, o, none⟩ = W.frozen? ⟨b, o, none⟩) :=
  ⟨fun b o h => hb.cell (p := ⟨b, o, none⟩) h, fun b o h => hb.frozen (p := ⟨b, o, none⟩) h⟩

abbrev arr3 (x y z : Int) : Value := .agg #[.int .i64 x, .int .i64 y, .int .i64 z]

theorem nan64 (m : Int) (w : World) : Calls Try.prog 40 #[.int .i64 m] w fun e w' => e = .returned (.bool false) ∧ w' = w := by
  go_enter Try.func40, Try.ntmps40
  go_wp2_with fail
  go_ret
  exact ⟨rfl, rfl⟩
theorem nanI (m : Int) (w : World) : Calls Try.prog 46 #[.int .i64 m] w fun e w' => e = .returned (.bool false) ∧ w' = w := by
  go_enter Try.func46, Try.ntmps46
  go_wp2_with fail
  go_ret
  exact ⟨rfl, rfl⟩

set_option maxHeartbeats 4000000 in
theorem cmp64 (m n : Int) (w : World) : Calls Try.prog 27 #[.int .i64 m, .int .i64 n] w fun e w' => e = .returned (.int .i64 (cmpI m n)) ∧ w' = w := by
  have H := Lib.hid (fun k W => nan64 k W)
  rcases Int.lt_trichotomy m n with h | h | h
  · rw [show cmpI m n = -1 by unfold cmpI; rw [if_pos h]]
    go_enter Try.func27, Try.ntmps27
    go_wp2_with (go_at_call 40; refine (H.out _ _).mono ?_; rintro e w1 ⟨rfl, rfl⟩)
    go_ret
    exact ⟨rfl, rfl⟩
  · subst h
    rw [show cmpI m m = 0 by unfold cmpI; rw [if_neg (by omega), if_neg (by omega)]]
    go_enter Try.func27, Try.ntmps27
    go_wp2_with (go_at_call 40; refine (H.out _ _).mono ?_; rintro e w1 ⟨rfl, rfl⟩)
    go_ret
    exact ⟨rfl, rfl⟩
  · rw [show cmpI m n = 1 by unfold cmpI; rw [if_neg (by omega), if_pos h]]
    go_enter Try.func27, Try.ntmps27
    go_wp2_with (go_at_call 40; refine (H.out _ _).mono ?_; rintro e w1 ⟨rfl, rfl⟩)
    go_ret
    exact ⟨rfl, rfl⟩
set_option maxHeartbeats 4000000 in
theorem cmpInt (m n : Int) (w : World) : Calls Try.prog 45 #[.int .i64 m, .int .i64 n] w fun e w' => e = .returned (.int .i64 (cmpI m n)) ∧ w' = w := by
  have H := Lib.hid (fun k W => nanI k W)
  rcases Int.lt_trichotomy m n with h | h | h
  · rw [show cmpI m n = -1 by unfold cmpI; rw [if_pos h]]
    go_enter Try.func45, Try.ntmps45
    go_wp2_with (go_at_call 46; refine (H.out _ _).mono ?_; rintro e w1 ⟨rfl, rfl⟩)
    go_ret
    exact ⟨rfl, rfl⟩
  · subst h
    rw [show cmpI m m = 0 by unfold cmpI; rw [if_neg (by omega), if_neg (by omega)]]
    go_enter Try.func45, Try.ntmps45
    go_wp2_with (go_at_call 46; refine (H.out _ _).mono ?_; rintro e w1 ⟨rfl, rfl⟩)
    go_ret
    exact ⟨rfl, rfl⟩
  · rw [show cmpI m n = 1 by unfold cmpI; rw [if_neg (by omega), if_pos h]]
    go_enter Try.func45, Try.ntmps45
    go_wp2_with (go_at_call 46; refine (H.out _ _).mono ?_; rintro e w1 ⟨rfl, rfl⟩)
    go_ret
    exact ⟨rfl, rfl⟩

theorem or2 (x y : Int) (g : Nat) (t : TypeId) (w : World) (hg : w.heap[g]? = some (.cells #[.int .i64 x, .int .i64 y] t (0, 0))) : Calls Try.prog 44 #[.slice (some ⟨g, 0, none⟩) 2 2] w fun e w' => e = .returned (.int .i64 (if x ≠ 0 then x else y)) ∧ w' = w := by
  have c0 : w.cell? ⟨g, 0, none⟩ = some (.int .i64 x) := cell_of_row w g 0 _ _ (0, 0) hg
  have c1 : w.cell? ⟨g, 1, none⟩ = some (.int .i64 y) := cell_of_row w g 1 _ _ (0, 0) hg
  clear hg
  by_cases hx : x = 0
  · subst hx
    rw [if_neg (by omega)]
    by_cases hy : y = 0
    · subst hy
      go_enter Try.func44, Try.ntmps44
      go_wp2_with fail
      refine wp_loop_rounds 3 ?_
      rw [rounds_succ]
      go_wp2_with fail
      rw [rounds_succ]
      go_wp2_with fail
      rw [rounds_succ]
      go_wp2_with fail
      go_ret
      exact ⟨rfl, rfl⟩
    · have hy' : (y != 0) = true := by simp [hy]
      go_enter Try.func44, Try.ntmps44
      go_wp2_with fail
      refine wp_loop_rounds 2 ?_
      rw [rounds_succ]
      go_wp2_with fail
      rw [rounds_succ]
      go_wp2_with fail
      go_ret
      exact ⟨rfl, rfl⟩
  · have hx' : (x != 0) = true := by simp [hx]
    rw [if_pos hx]
    go_enter Try.func44, Try.ntmps44
    go_wp2_with fail
    refine wp_loop_rounds 1 ?_
    rw [rounds_succ]
    go_wp2_with fail
    go_ret
    exact ⟨rfl, rfl⟩

theorem ix0 (x y z : Int) : ∀ w : World, (Instr.index 43 (.agg #[.int .i64 x, .int .i64 y, .int .i64 z]) (.int .i64 0)).run Try.prog w = .ok (.int .i64 x) w := fun _ => by kernel_rfl
theorem ix1 (x y z : Int) : ∀ w : World, (Instr.index 43 (.agg #[.int .i64 x, .int .i64 y, .int .i64 z]) (.int .i64 1)).run Try.prog w = .ok (.int .i64 y) w := fun _ => by kernel_rfl
theorem ix2 (x y z : Int) : ∀ w : World, (Instr.index 43 (.agg #[.int .i64 x, .int .i64 y, .int .i64 z]) (.int .i64 2)).run Try.prog w = .ok (.int .i64 z) w := fun _ => by kernel_rfl

def i64R (x : Int) : Prop := -9223372036854775808 ≤ x ∧ x ≤ 9223372036854775807

theorem ba1 {w w1 : World} {B : Nat} (h : Below B w w1) (hB : B ≤ w1.heap.size) (o : Obj) : Below B w (w1.alloc o) := h.alloc hB o
theorem below1 (w : World) (o : Obj) : Below w.heap.size w (w.alloc o) := (Below.refl _ _).alloc (Nat.le_refl _) o
theorem below2 (w : World) (o p : Obj) : Below w.heap.size w ((w.alloc o).alloc p) := (below1 w o).alloc (by simp) p
theorem below3 (w : World) (o p q : Obj) : Below w.heap.size w (((w.alloc o).alloc p).alloc q) := (below2 w o p).alloc (by simp <;> omega) q
theorem below4 (w : World) (o p q r : Obj) : Below w.heap.size w ((((w.alloc o).alloc p).alloc q).alloc r) := (below3 w o p q).alloc (by simp <;> omega) r

theorem coords (x y z : Int) (w : World) : Calls Try.prog 26 #[.agg #[.int .i64 x, .int .i64 y, .int .i64 z]] w fun e w' => e = .returned (arr3 x y z) ∧ Below w.heap.size w w' := by
  go_enter Try.func26, Try.ntmps26
  go_wp2_with fail
  exact bodyPost_ret (v := arr3 x y z) (by simp [results, Try.results26, go_sem]) rfl ⟨rfl, below2 _ _ _⟩
theorem vect (x y z : Int) (w : World) : Calls Try.prog 38 #[arr3 x y z] w fun e w' => e = .returned (.agg #[.int .i64 x, .int .i64 y, .int .i64 z]) ∧ Below w.heap.size w w' := by
  have h0 := ix0 x y z
  have h1 := ix1 x y z
  have h2 := ix2 x y z
  go_enter Try.func38, Try.ntmps38
  go_wp2_with fail
  exact bodyPost_ret (v := .agg #[.int .i64 x, .int .i64 y, .int .i64 z]) (by simp [results, Try.results38, go_sem]) rfl ⟨rfl, by first | exact Below.refl _ _ | exact below1 _ _ | exact below2 _ _ _⟩

abbrev V3 := Int × Int × Int
def inV (v : V3) : Bool := inC v.1 && inC v.2.1 && inC v.2.2
def errV (xs : List V3) : Int := if xs.all inV then 0 else 6
theorem errV_bad {xs : List V3} {k : Nat} (h : k < xs.length) (hb : inV (xs.getD k (0, 0, 0)) = false) : errV xs = 6 := by
  unfold errV
  rw [if_neg]
  intro ha
  have := List.all_eq_true.1 ha (xs.getD k (0, 0, 0)) (by simp [List.getD, h])
  rw [hb] at this
  cases this
theorem take_all {p : V3 → Bool} {xs : List V3} {k : Nat} (h : k < xs.length) (h0 : (xs.take k).all p = true) (h1 : p (xs.getD k (0, 0, 0)) = true) : (xs.take (k + 1)).all p = true := by
  rw [List.take_succ_eq_append_getElem h, List.all_append, h0]
  simp [List.getD, h] at h1
  simp [h1]
/-- The vectors xs lie at the address A, below block B. -/
def LiesV (w : World) (B : Nat) (A : Option Addr) (xs : List V3) : Prop :=
  ∃ g o, A = some ⟨g, o, none⟩ ∧ g < B ∧ ∀ k, k < xs.length → w.cell? ⟨g, o + k * 3, none⟩ = some (.int .i64 (xs.getD k (0, 0, 0)).1) ∧ w.cell? ⟨g, o + k * 3 + 1, none⟩ = some (.int .i64 (xs.getD k (0, 0, 0)).2.1) ∧ w.cell? ⟨g, o + k * 3 + 2, none⟩ = some (.int .i64 (xs.getD k (0, 0, 0)).2.2)
theorem LiesV.below {w w' : World} {B B' : Nat} {A : Option Addr} {xs : List V3} (h : LiesV w B A xs) (hb : Below B' w w') (hB : B ≤ B') : LiesV w' B A xs := by
  obtain ⟨g, o, hA, hg, hc⟩ := h
  exact ⟨g, o, hA, hg, fun k hk => ⟨(hb.cell (p := ⟨g, _, none⟩) (by show g < B'; omega)).trans (hc k hk).1, (hb.cell (p := ⟨g, _, none⟩) (by show g < B'; omega)).trans (hc k hk).2.1, (hb.cell (p := ⟨g, _, none⟩) (by show g < B'; omega)).trans (hc k hk).2.2⟩⟩

set_option maxHeartbeats 4000000 in
theorem checkV_any (xs : List V3) (A : Option Addr) (c B : Nat) (w : World) (hL : LiesV w B A xs) (hB : B ≤ w.heap.size) (hm : xs.length ≤ 1000) : Calls Try.prog 24 #[.slice A xs.length c] w fun e w' => e = .returned (.int .i64 (errV xs)) ∧ Below w.heap.size w w' := by
  have HL := Lib.hid hL
  clear hL
  go_enter Try.func24, Try.ntmps24
  go_wp2_with fail
  go_loopw [9] (fun i wr => ∃ k : Nat, k ≤ xs.length ∧ i = .int .i64 k ∧ Below w.heap.size w wr ∧ Hid ((xs.take k).all inV = true)) (fun i _ => xs.length - (intOf i).toNat)
  case atStart => exact ⟨0, Nat.zero_le _, rfl, Below.refl _ _, rfl⟩
  case round =>
    obtain ⟨k, hk, rfl, hbw, Hno⟩ := hrel
    by_cases hlt : k < xs.length
    · obtain ⟨g, o, rfl, hg, hcell⟩ := HL.out.below hbw hB
      obtain ⟨c1, c2, c3⟩ := hcell k hlt
      clear hcell
      obtain ⟨a, ha⟩ : ∃ a, a = xs.getD k (0, 0, 0) := ⟨_, rfl⟩
      rw [← ha] at c1 c2 c3
      have HA := Lib.hid ha
      clear ha
      obtain ⟨x, y, z⟩ := a
      simp only at c1 c2 c3
      have h0 := ix0 x y z
      have h1 := ix1 x y z
      have h2 := ix2 x y z
      cases hv : inV (x, y, z) with
      | true =>
        have Hn := Lib.hid (take_all hlt Hno.out (by rw [← HA.out]; exact hv))
        simp only [inV, inC, Bool.and_eq_true, decide_eq_true_eq] at hv
        obtain ⟨⟨⟨x1, x2⟩, y1, y2⟩, z1, z2⟩ := hv
        go_wp2_with fail
        refine (coords x y z _).mono ?_
        rintro e w1 ⟨rfl, hb1⟩
        go_wp2_with fail
        refine wp_loop_rounds 4 ?_
        iterate 4 (rw [rounds_succ]; go_wp2_with fail)
        go_roundw
        case rel => exact ⟨k + 1, by omega, by go_num, (hbw.alloc hbw.size _).trans (hb1.mono (by have := hbw.size; simp; omega)), Hn⟩
        case measure => simp [intOf]; omega
      | false =>
        have HR := Lib.hid (errV_bad hlt (by rw [← HA.out]; exact hv))
        have hbad : (x < -1000000 ∨ 1000000 < x) ∨ ((-1000000 ≤ x ∧ x ≤ 1000000) ∧ (y < -1000000 ∨ 1000000 < y)) ∨ ((-1000000 ≤ x ∧ x ≤ 1000000) ∧ (-1000000 ≤ y ∧ y ≤ 1000000) ∧ (z < -1000000 ∨ 1000000 < z)) := by
          simp [inV, inC] at hv
          omega
        clear hv
        go_wp2_with fail
        refine (coords x y z _).mono ?_
        rintro e w1 ⟨rfl, hb1⟩
        go_wp2_with fail
        have hb' : Below w.heap.size w w1 := (hbw.alloc hbw.size _).trans (hb1.mono (by have := hbw.size; simp; omega))
        clear hb1
        rcases hbad with hx | ⟨⟨x1, x2⟩, hy⟩ | ⟨⟨x1, x2⟩, ⟨y1, y2⟩, hz⟩
        · rcases hx with hx | hx
          · refine wp_loop_rounds 1 ?_
            iterate 1 (rw [rounds_succ]; go_wp2_with fail)
            go_ret
            rw [HR.out]
            exact ⟨rfl, hb'⟩
          · have hx' : ¬ x < -1000000 := by omega
            refine wp_loop_rounds 1 ?_
            iterate 1 (rw [rounds_succ]; go_wp2_with fail)
            go_ret
            rw [HR.out]
            exact ⟨rfl, hb'⟩
        · rcases hy with hx | hx
          · refine wp_loop_rounds 2 ?_
            iterate 2 (rw [rounds_succ]; go_wp2_with fail)
            go_ret
            rw [HR.out]
            exact ⟨rfl, hb'⟩
          · have hx' : ¬ y < -1000000 := by omega
            refine wp_loop_rounds 2 ?_
            iterate 2 (rw [rounds_succ]; go_wp2_with fail)
            go_ret
            rw [HR.out]
            exact ⟨rfl, hb'⟩
        · rcases hz with hx | hx
          · refine wp_loop_rounds 3 ?_
            iterate 3 (rw [rounds_succ]; go_wp2_with fail)
            go_ret
            rw [HR.out]
            exact ⟨rfl, hb'⟩
          · have hx' : ¬ z < -1000000 := by omega
            refine wp_loop_rounds 3 ?_
            iterate 3 (rw [rounds_succ]; go_wp2_with fail)
            go_ret
            rw [HR.out]
            exact ⟨rfl, hb'⟩
    · have hkn : k = xs.length := by omega
      subst hkn
      have hres : errV xs = 0 := by unfold errV; have := Hno.out; rw [List.take_length] at this; rw [if_pos this]
      have HR := Lib.hid hres
      clear hres
      go_wp2
      go_ret
      rw [HR.out]
      exact ⟨rfl, hbw⟩
end Go.Proofs.Ytdbcflgacjgdoaa
