/- Contracts of layer 3: Check, checkPoints, sum, dot. -/
import Derived.Test.YtigjjmhekadniaaVeA
namespace Go.Proofs.Ytigjjmhekadniaa
open Go.RowKit

theorem liesV_row {w : World} {g B : Nat} {cur : Array Value} {t : TypeId} {r : Nat × Nat} (h : w.heap[g]? = some (.cells cur t r)) (hg : g < B) {xs : List V3}
    (hc : ∀ k, k < xs.length → cur[k * 3]? = some (.int .i64 (xs.getD k (0, 0, 0)).1) ∧ cur[k * 3 + 1]? = some (.int .i64 (xs.getD k (0, 0, 0)).2.1) ∧ cur[k * 3 + 2]? = some (.int .i64 (xs.getD k (0, 0, 0)).2.2)) : LiesV w B (some ⟨g, 0, none⟩) xs :=
  ⟨g, 0, rfl, hg, fun k hk => by
    rw [Nat.zero_add, cell_of_row w g _ cur t r h, cell_of_row w g _ cur t r h, cell_of_row w g _ cur t r h]
    exact hc k hk⟩
theorem liesV_one (w : World) (x y z : Int) (t : TypeId) (g : Nat) (hg : w.heap.size = g) : LiesV (w.alloc (.cells #[.int .i64 x, .int .i64 y, .int .i64 z] t)) (g + 1) (some ⟨g, 0, none⟩) [(x, y, z)] := by
  subst hg
  refine liesV_row (heap_alloc_new w _) (by omega) fun k hk => ?_
  have : k = 0 := by simpa using hk
  subst this
  exact ⟨rfl, rfl, rfl⟩
theorem liesV_two (w : World) (x y z x' y' z' : Int) (t : TypeId) (g : Nat) (hg : w.heap.size = g) : LiesV (w.alloc (.cells #[.int .i64 x, .int .i64 y, .int .i64 z, .int .i64 x', .int .i64 y', .int .i64 z'] t)) (g + 1) (some ⟨g, 0, none⟩) [(x, y, z), (x', y', z')] := by
  subst hg
  refine liesV_row (heap_alloc_new w _) (by omega) fun k hk => ?_
  have : k = 0 ∨ k = 1 := by simp at hk; omega
  rcases this with rfl | rfl <;> exact ⟨rfl, rfl, rfl⟩

set_option maxHeartbeats 800000 in
theorem check_any (x y z : Int) (w : World) : Calls Try.prog 74 #[.agg #[.int .i64 x, .int .i64 y, .int .i64 z]] w fun e w' => e = .returned (.int .i64 (errV [(x, y, z)])) ∧ Below w.heap.size w w' := by
  have H := Lib.hid (fun W hL => checkV_any [(x, y, z)] (some ⟨w.heap.size + 1, 0, none⟩) 1 (w.heap.size + 1 + 1) W hL)
  go_enter Try.func74, Try.ntmps74
  go_wp2_with fail
  refine (H.out _ (liesV_one (w.alloc _) x y z _ _ (by simp)) (by simp) (by simp)).mono ?_
  rintro e w1 ⟨rfl, hb⟩
  go_wp2
  go_ret
  exact ⟨rfl, (below2 _ _ _).trans (hb.mono (by simp; omega))⟩

/-- A number of at most two million in size. -/
def two (x : Int) : Prop := -2000000 ≤ x ∧ x ≤ 2000000
theorem mul_bd {x y : Int} {m n : Nat} (hx : x.natAbs ≤ m) (hy : y.natAbs ≤ n) : (x * y).natAbs ≤ m * n := by
  rw [Int.natAbs_mul]; exact Nat.mul_le_mul hx hy
theorem two_mul {x y : Int} (hx : two x) (hy : two y) : -4000000000000 ≤ x * y ∧ x * y ≤ 4000000000000 := by
  have := @mul_bd x y 2000000 2000000 (by unfold two at hx; omega) (by unfold two at hy; omega)
  omega
theorem wrap_in {x : Int} (h1 : -9223372036854775808 ≤ x) (h2 : x ≤ 9223372036854775807) : IntKind.i64.wrap x = x := IntWalk.i64_in _ ⟨h1, h2⟩

theorem tmod_lt {p q : Int} (h : q ≠ 0) : (p.tmod q).natAbs < q.natAbs := by rw [Int.natAbs_tmod]; exact Nat.mod_lt _ (by omega)
def errP (xs : List Pt) : Int := if xs.all inP then 0 else 6
theorem errP_bad {xs : List Pt} {k : Nat} (h : k < xs.length) (hb : inP (xs.getD k (0, 0)) = false) : errP xs = 6 := by
  unfold errP
  rw [if_neg]
  intro ha
  have := List.all_eq_true.1 ha (xs.getD k (0, 0)) (by simp [List.getD, h])
  rw [hb] at this
  cases this
theorem take_allP {p : Pt → Bool} {xs : List Pt} {k : Nat} (h : k < xs.length) (h0 : (xs.take k).all p = true) (h1 : p (xs.getD k (0, 0)) = true) : (xs.take (k + 1)).all p = true := by
  rw [List.take_succ_eq_append_getElem h, List.all_append, h0]
  simp [List.getD, h] at h1
  simp [h1]
theorem errV_point (p : Pt) : errV [(p.1, p.2, 0)] = if inP p then 0 else 6 := by
  simp [errV, inV, inP, inC]
/-- The points xs lie at the address A, below block B. -/
def LiesP (w : World) (B : Nat) (A : Option Addr) (xs : List Pt) : Prop :=
  ∃ g o, A = some ⟨g, o, none⟩ ∧ g < B ∧ ∀ k, k < xs.length → w.cell? ⟨g, o + k * 2, none⟩ = some (.int .i64 (xs.getD k (0, 0)).1) ∧ w.cell? ⟨g, o + k * 2 + 1, none⟩ = some (.int .i64 (xs.getD k (0, 0)).2)
theorem LiesP.below {w w' : World} {B B' : Nat} {A : Option Addr} {xs : List Pt} (h : LiesP w B A xs) (hb : Below B' w w') (hB : B ≤ B') : LiesP w' B A xs := by
  obtain ⟨g, o, hA, hg, hc⟩ := h
  exact ⟨g, o, hA, hg, fun k hk => ⟨(hb.cell (p := ⟨g, _, none⟩) (by show g < B'; omega)).trans (hc k hk).1, (hb.cell (p := ⟨g, _, none⟩) (by show g < B'; omega)).trans (hc k hk).2⟩⟩
set_option maxHeartbeats 4000000 in
theorem checkP_any (xs : List Pt) (A : Option Addr) (c B : Nat) (w : World) (hL : LiesP w B A xs) (hB : B ≤ w.heap.size) (hm : xs.length ≤ 1000) : Calls Try.prog 66 #[.slice A xs.length c] w fun e w' => e = .returned (.int .i64 (errP xs)) ∧ Below w.heap.size w w' := by
  have HL := Lib.hid hL
  clear hL
  go_enter Try.func66, Try.ntmps66
  go_wp2_with fail
  go_loopw [8] (fun i wr => ∃ k : Nat, k ≤ xs.length ∧ i = .int .i64 k ∧ Below w.heap.size w wr ∧ Hid ((xs.take k).all inP = true)) (fun i _ => xs.length - (intOf i).toNat)
  case atStart => exact ⟨0, Nat.zero_le _, rfl, Below.refl _ _, rfl⟩
  case round =>
    obtain ⟨k, hk, rfl, hbw, Hno⟩ := hrel
    by_cases hlt : k < xs.length
    · obtain ⟨g, o, rfl, hg, hcell⟩ := HL.out.below hbw hB
      obtain ⟨c1, c2⟩ := hcell k hlt
      clear hcell
      obtain ⟨a, ha⟩ : ∃ a, a = xs.getD k (0, 0) := ⟨_, rfl⟩
      rw [← ha] at c1 c2
      have HA := Lib.hid ha
      clear ha
      have hC := fun W => check_any a.1 a.2 0 W
      rw [errV_point] at hC
      obtain ⟨x, y⟩ := a
      simp only at c1 c2 hC
      cases hv : inP (x, y) with
      | true =>
        rw [hv, if_pos rfl] at hC
        have HC := Lib.hid hC
        clear hC
        have Hn := Lib.hid (take_allP hlt Hno.out (by rw [← HA.out]; exact hv))
        clear hv
        go_wp2_with fail
        refine (HC.out _).mono ?_
        rintro e w1 ⟨rfl, hb1⟩
        go_wp2_with fail
        go_roundw
        case rel => exact ⟨k + 1, by omega, by go_num, (hbw.alloc hbw.size _).trans (hb1.mono (by have := hbw.size; simp; omega)), Hn⟩
        case measure => simp [intOf]; omega
      | false =>
        rw [hv, if_neg (by simp)] at hC
        have HC := Lib.hid hC
        clear hC
        have HR := Lib.hid (errP_bad hlt (by rw [← HA.out]; exact hv))
        clear hv
        go_wp2_with fail
        refine (HC.out _).mono ?_
        rintro e w1 ⟨rfl, hb1⟩
        go_wp2_with fail
        go_ret
        rw [HR.out]
        exact ⟨rfl, (hbw.alloc hbw.size _).trans (hb1.mono (by have := hbw.size; simp; omega))⟩
    · have hkn : k = xs.length := by omega
      subst hkn
      have hres : errP xs = 0 := by unfold errP; have := Hno.out; rw [List.take_length] at this; rw [if_pos this]
      have HR := Lib.hid hres
      clear hres
      go_wp2
      go_ret
      rw [HR.out]
      exact ⟨rfl, hbw⟩
end Go.Proofs.Ytigjjmhekadniaa
