/- Contracts of layer 3: Check, checkPoints, sum, dot. -/
import Derived.Test.YtdbcflgacjgdoaaVeA
namespace Go.Proofs.Ytdbcflgacjgdoaa
open Go.RowKit

theorem liesV_row {w : World} {g B : Nat} {cur : Array Value} {t : TypeId} {r : Nat × Nat} (h : w.heap[g]? = some (.cells cur t r)) (hg : g < B) {xs : List V3}
    (hc : ∀ k, k < xs.length → cur[k * 3]? = some (.int .i64 (xs.getD k (0, 0, 0)).1) ∧ cur[k * 3 + 1]? = some (.int .i64 (xs.getD k (0, 0, 0)).2.1) ∧ cur[k * 3 + 2]? = some (.int .i64 (xs.getD k (0, 0, 0)).2.2)) : LiesV w B (some ⟨g, 0, none⟩) xs :=
  ⟨g, 0, rfl, hg, fun k hk => by
    rw [Nat.zero_add, cell_of_row w g _ cur t r h, cell_of_row w g _ cur t r h, cell_of_row w g _ cur t r h]
    exact hc k hk⟩
theorem liesV_one (w : World) (x y z : Int) (t : TypeId) (g : Nat) (hg : w.heap.size = g) : LiesV (w.alloc (.cells #[.int .i64 x, .int .i64 y, .int .i64 z] t)) (g + 1) (some ⟨g, 0, none⟩) [(x, y, z)] := by
  subst hg
  refine liesV_row (heap_alloc_new w _) (by omega) fun k hk => ?_
  have : k = 0 := by simpa using hk
  subst this
  exact ⟨rfl, rfl, rfl⟩
theorem liesV_two (w : World) (x y z x' y' z' : Int) (t : TypeId) (g : Nat) (hg : w.heap.size = g) : LiesV (w.alloc (.cells #[.int .i64 x, .int .i64 y, .int .i64 z, .int .i64 x', .int .i64 y', .int .i64 z'] t)) (g + 1) (some ⟨g, 0, none⟩) [(x, y, z), (x', y', z')] := by
  subst hg
  refine liesV_row (heap_alloc_new w _) (by omega) fun k hk => ?_
  have : k = 0 ∨ k = 1 := by simp at hk; omega
  rcases this with rfl | rfl <;> exact ⟨rfl, rfl, rfl⟩

set_option maxHeartbeats 800000 in
theorem check_any (x y z : Int) (w : World) : Calls Try.prog 8 #[.agg #[.int .i64 x, .int .i64 y, .int .i64 z]] w fun e w' => e = .returned (.int .i64 (errV [(x, y, z)])) ∧ Below w.heap.size w w' := by
  have H := Lib.hid (fun W hL => checkV_any [(x, y, z)] (some ⟨w.heap.size + 1, 0, none⟩) 1 (w.heap.size + 1 + 1) W hL)
  go_enter Try.func8, Try.ntmps8
  go_wp2_with fail
  refine (H.out _ (liesV_one (w.alloc _) x y z _ _ (by simp)) (by simp) (by simp)).mono ?_
  rintro e w1 ⟨rfl, hb⟩
  go_wp2
  go_ret
  exact ⟨rfl, (below2 _ _ _).trans (hb.mono (by simp; omega))⟩

/-- A number of at most two million in size. -/
def two (x : Int) : Prop := -2000000 ≤ x ∧ x ≤ 2000000
theorem mul_bd {x y : Int} {m n : Nat} (hx : x.natAbs ≤ m) (hy : y.natAbs ≤ n) : (x * y).natAbs ≤ m * n := by
  rw [Int.natAbs_mul]; exact Nat.mul_le_mul hx hy
theorem two_mul {x y : Int} (hx : two x) (hy : two y) : -4000000000000 ≤ x * y ∧ x * y ≤ 4000000000000 := by
  have := @mul_bd x y 2000000 2000000 (by unfold two at hx; omega) (by unfold two at hy; omega)
  omega
theorem wrap_in {x : Int} (h1 : -9223372036854775808 ≤ x) (h2 : x ≤ 9223372036854775807) : IntKind.i64.wrap x = x := IntWalk.i64_in _ ⟨h1, h2⟩

set_option maxHeartbeats 1000000 in
theorem dot_any (x y z x' y' z' : Int) (hx : two x) (hy : two y) (hz : two z) (hx' : two x') (hy' : two y') (hz' : two z') (w : World) : Calls Try.prog 36 #[arr3 x y z, arr3 x' y' z'] w fun e w' => e = .returned (.int .i64 (x * x' + y * y' + z * z')) ∧ Below w.heap.size w w' := by
  have b1 := two_mul hx hx'
  have b2 := two_mul hy hy'
  have b3 := two_mul hz hz'
  clear hx hy hz hx' hy' hz'
  have e1 : IntKind.i64.wrap (x * x') = x * x' := wrap_in (by omega) (by omega)
  have e2 : IntKind.i64.wrap (y * y') = y * y' := wrap_in (by omega) (by omega)
  have e3 : IntKind.i64.wrap (z * z') = z * z' := wrap_in (by omega) (by omega)
  have e4 : IntKind.i64.wrap (x * x' + y * y') = x * x' + y * y' := wrap_in (by omega) (by omega)
  have e5 : IntKind.i64.wrap (x * x' + y * y' + z * z') = x * x' + y * y' + z * z' := wrap_in (by omega) (by omega)
  clear b1 b2 b3
  go_enter Try.func36, Try.ntmps36
  go_wp2_with fail
  refine wp_loop_rounds 4 ?_
  iterate 3 (rw [rounds_succ]; go_wp2_with fail; go_quiet (fail); go_wp2_with fail)
  rw [rounds_succ]
  go_wp2_with fail
  go_ret
  exact ⟨rfl, below_drewN (below2 _ _ _) _⟩

set_option maxHeartbeats 1000000 in
theorem sum_one (x y z x' y' z' : Int) (hx : two x) (hy : two y) (hz : two z) (hx' : two x') (hy' : two y') (hz' : two z') (w : World) : Calls Try.prog 39 #[arr3 x y z, arr3 x' y' z', .int .i64 1] w fun e w' => e = .returned (arr3 (x + x') (y + y') (z + z')) ∧ Below w.heap.size w w' := by
  unfold two at *
  have e1 : IntKind.i64.wrap x' = x' := wrap_in (by omega) (by omega)
  have e2 : IntKind.i64.wrap y' = y' := wrap_in (by omega) (by omega)
  have e3 : IntKind.i64.wrap z' = z' := wrap_in (by omega) (by omega)
  have e4 : IntKind.i64.wrap (x + x') = x + x' := wrap_in (by omega) (by omega)
  have e5 : IntKind.i64.wrap (y + y') = y + y' := wrap_in (by omega) (by omega)
  have e6 : IntKind.i64.wrap (z + z') = z + z' := wrap_in (by omega) (by omega)
  clear hx hy hz hx' hy' hz'
  go_enter Try.func39, Try.ntmps39
  go_wp2_with fail
  refine wp_loop_rounds 4 ?_
  iterate 3 (rw [rounds_succ]; go_wp2_with fail; go_region; go_wp2_with fail)
  rw [rounds_succ]
  go_wp2_with fail
  exact bodyPost_ret (v := arr3 (x + x') (y + y') (z + z')) (by simp [results, Try.results39, go_sem]) rfl ⟨rfl, (below3 _ _ _ _).drew.drew.drew⟩
set_option maxHeartbeats 1000000 in
theorem sum_neg (x y z x' y' z' : Int) (hx : two x) (hy : two y) (hz : two z) (hx' : two x') (hy' : two y') (hz' : two z') (w : World) : Calls Try.prog 39 #[arr3 x y z, arr3 x' y' z', .int .i64 (-1)] w fun e w' => e = .returned (arr3 (x + -x') (y + -y') (z + -z')) ∧ Below w.heap.size w w' := by
  unfold two at *
  have e1 : IntKind.i64.wrap (-x') = -x' := wrap_in (by omega) (by omega)
  have e2 : IntKind.i64.wrap (-y') = -y' := wrap_in (by omega) (by omega)
  have e3 : IntKind.i64.wrap (-z') = -z' := wrap_in (by omega) (by omega)
  have e4 : IntKind.i64.wrap (x + -x') = x + -x' := wrap_in (by omega) (by omega)
  have e5 : IntKind.i64.wrap (y + -y') = y + -y' := wrap_in (by omega) (by omega)
  have e6 : IntKind.i64.wrap (z + -z') = z + -z' := wrap_in (by omega) (by omega)
  clear hx hy hz hx' hy' hz'
  go_enter Try.func39, Try.ntmps39
  go_wp2_with fail
  refine wp_loop_rounds 4 ?_
  iterate 3 (rw [rounds_succ]; go_wp2_with fail; go_region; go_wp2_with fail)
  rw [rounds_succ]
  go_wp2_with fail
  exact bodyPost_ret (v := arr3 (x + -x') (y + -y') (z + -z')) (by simp [results, Try.results39, go_sem]) rfl ⟨rfl, (below3 _ _ _ _).drew.drew.drew⟩

theorem tmod_lt {p q : Int} (h : q ≠ 0) : (p.tmod q).natAbs < q.natAbs := by rw [Int.natAbs_tmod]; exact Nat.mod_lt _ (by omega)
set_option maxHeartbeats 1000000 in
theorem divisor_any (a b : Int) (ha : a.natAbs ≤ 1000000) (hb : b.natAbs ≤ 1000000) (w : World) : Calls Try.prog 37 #[.int .i64 a, .int .i64 b] w fun e w' => e = .returned (.int .i64 (Nat.gcd a.natAbs b.natAbs)) ∧ Below w.heap.size w w' := by
  go_enter Try.func37, Try.ntmps37
  go_wp2_with fail
  go_loopw [0, 1] (fun s t wr => ∃ p q : Int, s = .int .i64 p ∧ t = .int .i64 q ∧ p.natAbs ≤ 1000000 ∧ q.natAbs ≤ 1000000 ∧ Below w.heap.size w wr ∧ Hid (Nat.gcd p.natAbs q.natAbs = Nat.gcd a.natAbs b.natAbs)) (fun _ t _ => (intOf t).natAbs)
  case atStart => exact ⟨a, b, rfl, rfl, ha, hb, Below.refl _ _, rfl⟩
  case round =>
    obtain ⟨p, q, rfl, rfl, hp, hq, hbw, HG⟩ := hrel
    clear ha hb
    by_cases h0 : q = 0
    · subst h0
      have hz : HG.out = HG.out := rfl
      clear hz
      have hg := HG.out
      have hpp : ((Nat.gcd a.natAbs b.natAbs : Nat) : Int) = if p < 0 then -p else p := by rw [← hg]; simp only [Int.natAbs_zero, Nat.gcd_zero_right]; split <;> omega
      have HP := Lib.hid hpp
      clear hpp hg HG
      by_cases hn : p < 0
      · go_wp2_with fail
        go_ret
        rw [HP.out, if_pos hn]
        exact ⟨rfl, hbw⟩
      · go_wp2_with fail
        go_ret
        rw [HP.out, if_neg (by omega)]
        exact ⟨rfl, hbw⟩
    · have hq0 : (q != 0) = true := by simp [h0]
      have hr := @tmod_lt p q h0
      have e1 : IntKind.i64.wrap (p.tmod q) = p.tmod q := wrap_in (by omega) (by omega)
      have Hn := Lib.hid ((gcd_step p q).trans HG.out)
      go_wp2_with fail
      go_region
      go_wp2_with fail
      go_roundw
      case rel => exact ⟨q, p.tmod q, rfl, rfl, hq, by omega, hbw.drew, Hn⟩
      case measure => simp only [intOf]; exact hr

def errP (xs : List Pt) : Int := if xs.all inP then 0 else 6
theorem errP_bad {xs : List Pt} {k : Nat} (h : k < xs.length) (hb : inP (xs.getD k (0, 0)) = false) : errP xs = 6 := by
  unfold errP
  rw [if_neg]
  intro ha
  have := List.all_eq_true.1 ha (xs.getD k (0, 0)) (by simp [List.getD, h])
  rw [hb] at this
  cases this
theorem take_allP {p : Pt → Bool} {xs : List Pt} {k : Nat} (h : k < xs.length) (h0 : (xs.take k).all p = true) (h1 : p (xs.getD k (0, 0)) = true) : (xs.take (k + 1)).all p = true := by
  rw [List.take_succ_eq_append_getElem h, List.all_append, h0]
  simp [List.getD, h] at h1
  simp [h1]
theorem errV_point (p : Pt) : errV [(p.1, p.2, 0)] = if inP p then 0 else 6 := by
  simp [errV, inV, inP, inC]
/-- The points xs lie at the address A, below block B. -/
def LiesP (w : World) (B : Nat) (A : Option Addr) (xs : List Pt) : Prop :=
  ∃ g o, A = some ⟨g, o, none⟩ ∧ g < B ∧ ∀ k, k < xs.length → w.cell? ⟨g, o + k * 2, none⟩ = some (.int .i64 (xs.getD k (0, 0)).1) ∧ w.cell? ⟨g, o + k * 2 + 1, none⟩ = some (.int .i64 (xs.getD k (0, 0)).2)
theorem LiesP.below {w w' : World} {B B' : Nat} {A : Option Addr} {xs : List Pt} (h : LiesP w B A xs) (hb : Below B' w w') (hB : B ≤ B') : LiesP w' B A xs := by
  obtain ⟨g, o, hA, hg, hc⟩ := h
  exact ⟨g, o, hA, hg, fun k hk => ⟨(hb.cell (p := ⟨g, _, none⟩) (by show g < B'; omega)).trans (hc k hk).1, (hb.cell (p := ⟨g, _, none⟩) (by show g < B'; omega)).trans (hc k hk).2⟩⟩
set_option maxHeartbeats 4000000 in
theorem checkP_any (xs : List Pt) (A : Option Addr) (c B : Nat) (w : World) (hL : LiesP w B A xs) (hB : B ≤ w.heap.size) (hm : xs.length ≤ 1000) : Calls Try.prog 29 #[.slice A xs.length c] w fun e w' => e = .returned (.int .i64 (errP xs)) ∧ Below w.heap.size w w' := by
  have HL := Lib.hid hL
  clear hL
  go_enter Try.func29, Try.ntmps29
  go_wp2_with fail
  go_loopw [8] (fun i wr => ∃ k : Nat, k ≤ xs.length ∧ i = .int .i64 k ∧ Below w.heap.size w wr ∧ Hid ((xs.take k).all inP = true)) (fun i _ => xs.length - (intOf i).toNat)
  case atStart => exact ⟨0, Nat.zero_le _, rfl, Below.refl _ _, rfl⟩
  case round =>
    obtain ⟨k, hk, rfl, hbw, Hno⟩ := hrel
    by_cases hlt : k < xs.length
    · obtain ⟨g, o, rfl, hg, hcell⟩ := HL.out.below hbw hB
      obtain ⟨c1, c2⟩ := hcell k hlt
      clear hcell
      obtain ⟨a, ha⟩ : ∃ a, a = xs.getD k (0, 0) := ⟨_, rfl⟩
      rw [← ha] at c1 c2
      have HA := Lib.hid ha
      clear ha
      have hC := fun W => check_any a.1 a.2 0 W
      rw [errV_point] at hC
      obtain ⟨x, y⟩ := a
      simp only at c1 c2 hC
      cases hv : inP (x, y) with
      | true =>
        rw [hv, if_pos rfl] at hC
        have HC := Lib.hid hC
        clear hC
        have Hn := Lib.hid (take_allP hlt Hno.out (by rw [← HA.out]; exact hv))
        clear hv
        go_wp2_with fail
        refine (HC.out _).mono ?_
        rintro e w1 ⟨rfl, hb1⟩
        go_wp2_with fail
        go_roundw
        case rel => exact ⟨k + 1, by omega, by go_num, (hbw.alloc hbw.size _).trans (hb1.mono (by have := hbw.size; simp; omega)), Hn⟩
        case measure => simp [intOf]; omega
      | false =>
        rw [hv, if_neg (by simp)] at hC
        have HC := Lib.hid hC
        clear hC
        have HR := Lib.hid (errP_bad hlt (by rw [← HA.out]; exact hv))
        clear hv
        go_wp2_with fail
        refine (HC.out _).mono ?_
        rintro e w1 ⟨rfl, hb1⟩
        go_wp2_with fail
        go_ret
        rw [HR.out]
        exact ⟨rfl, (hbw.alloc hbw.size _).trans (hb1.mono (by have := hbw.size; simp; omega))⟩
    · have hkn : k = xs.length := by omega
      subst hkn
      have hres : errP xs = 0 := by unfold errP; have := Hno.out; rw [List.take_length] at this; rw [if_pos this]
      have HR := Lib.hid hres
      clear hres
      go_wp2
      go_ret
      rw [HR.out]
      exact ⟨rfl, hbw⟩
end Go.Proofs.Ytdbcflgacjgdoaa
