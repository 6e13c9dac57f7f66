/- Layer 4 (fraction): numbers of 128 bits in two's complement. -/
import Derived.Test.YtdjnnbjpaohaiaaDoorFrW
import Derived.Test.YtdjnnbjpaohaiaaDoorProg
import Derived.Laws.Externs
import Derived.Shelf.Spec.BitsCarry
import Derived.WalkKit
import Derived.WalkSpells
import Derived.StillTactics
import Derived.RowKit3
import Derived.Lib.Hide
namespace Go.Proofs.YtdjnnbjpaohaiaaDoor
open Go.RowKit

/-! ### Sums and differences of words -/
theorem add64 (x y c : Int) (hx : 0 ≤ x) (hy : 0 ≤ y) (hc0 : 0 ≤ c) (hc : c ≤ 1) (w : World) : (callFunc 67 #[.int .u64 x, .int .u64 y, .int .u64 c]).run Tryd.prog w =
    .ok (.value (.tuple #[.int .u64 ((x + y + c) % 18446744073709551616), .int .u64 ((x + y + c) / 18446744073709551616)])) w := by
  rw [run_callFunc_extern Tryd.func67 (by kernel_rfl) (by kernel_rfl) (by kernel_rfl) (e := add64Entry) (by kernel_rfl), run_add64 x y c hx hy hc0 hc]
  rfl
theorem sub64 (x y b : Int) (hx : 0 ≤ x) (hy : 0 ≤ y) (hy' : y < 18446744073709551616) (hb0 : 0 ≤ b) (hb : b ≤ 1) (w : World) : (callFunc 70 #[.int .u64 x, .int .u64 y, .int .u64 b]).run Tryd.prog w =
    .ok (.value (.tuple #[.int .u64 ((x - y - b) % 18446744073709551616), .int .u64 (if x < y + b then 1 else 0)])) w := by
  obtain ⟨x, rfl⟩ := Int.eq_ofNat_of_zero_le hx
  obtain ⟨y, rfl⟩ := Int.eq_ofNat_of_zero_le hy
  obtain ⟨b, rfl⟩ := Int.eq_ofNat_of_zero_le hb0
  rw [run_callFunc_extern Tryd.func70 (by kernel_rfl) (by kernel_rfl) (by kernel_rfl) (e := Go.Proofs.sub64Entry) (by kernel_rfl), Go.Proofs.run_sub64 x y b (by omega)]
  have e1 : (((x + 18446744073709551616 - y - b) % 18446744073709551616 : Nat) : Int) = ((x : Int) - y - b) % 18446744073709551616 := by omega
  have e2 : ((if x < y + b then 1 else 0 : Nat) : Int) = if (x : Int) < y + b then 1 else 0 := by split <;> split <;> omega
  rw [e1, e2]
  rfl
theorem add64_0 (x y : Int) (hx : 0 ≤ x) (hy : 0 ≤ y) (w : World) : (callFunc 67 #[.int .u64 x, .int .u64 y, .int .u64 0]).run Tryd.prog w =
    .ok (.value (.tuple #[.int .u64 ((x + y) % 18446744073709551616), .int .u64 ((x + y) / 18446744073709551616)])) w := by
  simpa using add64 x y 0 hx hy (Int.le_refl 0) (by decide) w
/-- The borrow, under a name. -/
def bor (x y : Int) : Int := if x < y then 1 else 0
theorem bor_le (x y : Int) : 0 ≤ bor x y ∧ bor x y ≤ 1 := by unfold bor; split <;> omega
theorem sub64_0 (x y : Int) (hx : 0 ≤ x) (hy : 0 ≤ y) (hy' : y < 18446744073709551616) (w : World) : (callFunc 70 #[.int .u64 x, .int .u64 y, .int .u64 0]).run Tryd.prog w =
    .ok (.value (.tuple #[.int .u64 ((x - y) % 18446744073709551616), .int .u64 (bor x y)])) w := by
  simpa [bor] using sub64 x y 0 hx hy hy' (Int.le_refl 0) (by decide) w
theorem sub64_b (x y b : Int) (hx : 0 ≤ x) (hy : 0 ≤ y) (hy' : y < 18446744073709551616) (hb0 : 0 ≤ b) (hb : b ≤ 1) (w : World) : (callFunc 70 #[.int .u64 x, .int .u64 y, .int .u64 b]).run Tryd.prog w =
    .ok (.value (.tuple #[.int .u64 ((x - y - b) % 18446744073709551616), .int .u64 (bor x (y + b))])) w := sub64 x y b hx hy hy' hb0 hb w

/-! ### Words -/
def loW (z : Int) : Int := z % 18446744073709551616
def hiW (z : Int) : Int := z / 18446744073709551616 % 18446744073709551616
theorem loW_in (z : Int) : 0 ≤ loW z ∧ loW z < 18446744073709551616 := by unfold loW; omega
theorem hiW_in (z : Int) : 0 ≤ hiW z ∧ hiW z < 18446744073709551616 := by unfold hiW; omega
def wideV (z : Int) : Value := .agg #[.int .u64 (hiW z), .int .u64 (loW z)]

set_option maxHeartbeats 1000000 in
theorem size_any (n : Int) (h0 : -9223372036854775808 ≤ n) (h1 : n ≤ 9223372036854775807) (w : World) : Calls Tryd.prog 40 #[.int .i64 n] w fun e w' => e = .returned (.int .u64 (n.natAbs : Int)) ∧ w' = w := by
  by_cases hn : n < 0
  · have i1 : IntKind.u64.wrap (-(IntKind.u64.wrap n)) = (n.natAbs : Int) := by simp only [IntKind.wrap_u64]; omega
    go_enter Tryd.func40, Tryd.ntmps40
    go_wp2_with fail
    go_ret
    exact ⟨by simp, rfl⟩
  · have i1 : IntKind.u64.wrap n = (n.natAbs : Int) := by simp only [IntKind.wrap_u64]; omega
    go_enter Tryd.func40, Tryd.ntmps40
    go_wp2_with fail
    go_ret
    exact ⟨by simp, rfl⟩

set_option maxHeartbeats 1000000 in
theorem negated_any (z : Int) (w : World) : Calls Tryd.prog 50 #[wideV z] w fun e w' => e = .returned (wideV (-z)) ∧ ∃ c1 c2 : Array Value, w' = (w.alloc (.cells c1 55)).alloc (.cells c2 55) := by
  obtain ⟨l0, l1⟩ := loW_in z
  obtain ⟨h0, h1⟩ := hiW_in z
  obtain ⟨b0, b1⟩ := bor_le 0 (loW z)
  have e1 : -loW z % 18446744073709551616 = loW (-z) := by unfold loW; omega
  have e2 : (-hiW z - bor 0 (loW z)) % 18446744073709551616 = hiW (-z) := by unfold hiW loW bor; split <;> omega
  unfold wideV
  go_enter Tryd.func50, Tryd.ntmps50
  go_wp2_with (first | simp only [sub64_0 0 (loW z) (Int.le_refl 0) l0 l1] | simp only [sub64_b 0 (hiW z) (bor 0 (loW z)) (Int.le_refl 0) h0 h1 b0 b1])
  simp [bodyPost, results, Tryd.results50, go_sem]
  exact ⟨_, _, rfl⟩

set_option maxHeartbeats 1000000 in
theorem plus_any (x y : Int) (w : World) : Calls Tryd.prog 48 #[wideV x, wideV y] w fun e w' => e = .returned (wideV (x + y)) ∧ Below w.heap.size w w' := by
  obtain ⟨l0, l1⟩ := loW_in x
  obtain ⟨h0, h1⟩ := hiW_in x
  obtain ⟨m0, m1⟩ := loW_in y
  obtain ⟨k0, k1⟩ := hiW_in y
  have b0 : 0 ≤ (loW x + loW y) / 18446744073709551616 := by omega
  have b1 : (loW x + loW y) / 18446744073709551616 ≤ 1 := by omega
  have e1 : (loW x + loW y) % 18446744073709551616 = loW (x + y) := by unfold loW; omega
  have e2 : (hiW x + hiW y + (loW x + loW y) / 18446744073709551616) % 18446744073709551616 = hiW (x + y) := by unfold hiW loW; omega
  unfold wideV
  go_enter Tryd.func48, Tryd.ntmps48
  go_wp2_with (first | simp only [add64_0 (loW x) (loW y) l0 m0] | simp only [add64 (hiW x) (hiW y) _ h0 k0 b0 b1])
  simp [bodyPost, results, Tryd.results48, go_sem]
  exact (((Below.refl _ _).alloc (Nat.le_refl _) _).alloc (by simp) _).alloc (by simp; omega) _

theorem mul64_any (x y : Int) (hx : 0 ≤ x) (hx1 : x < 18446744073709551616) (hy : 0 ≤ y) (hy1 : y < 18446744073709551616) (w : World) :
    Calls Tryd.prog 66 #[.int .u64 x, .int .u64 y] w fun e w' => e = .returned (.tuple #[.int .u64 (hiW (x * y)), .int .u64 (loW (x * y))]) ∧ w' = w := by
  obtain ⟨x, rfl⟩ := Int.eq_ofNat_of_zero_le hx
  obtain ⟨y, rfl⟩ := Int.eq_ofNat_of_zero_le hy
  refine (Any.bits_Mul64 Tryd.lays264 x y (by omega) (by omega) w).mono ?_
  rintro e w' ⟨rfl, rfl⟩
  have hxy : x * y / 18446744073709551616 < 18446744073709551616 := by
    apply Nat.div_lt_of_lt_mul
    exact Nat.mul_lt_mul'' (by omega) (by omega)
  have e1 : ((x * y / 18446744073709551616 : Nat) : Int) = hiW ((x : Int) * (y : Int)) := by unfold hiW; rw [← Int.natCast_mul]; omega
  have e2 : ((x * y % 18446744073709551616 : Nat) : Int) = loW ((x : Int) * (y : Int)) := by unfold loW; rw [← Int.natCast_mul]; omega
  rw [e1, e2]
  exact ⟨rfl, rfl⟩

theorem nat_mul (a b : Int) (h : (a < 0) = (b < 0)) : (a.natAbs : Int) * (b.natAbs : Int) = a * b := by
  rw [← Int.natCast_mul, ← Int.natAbs_mul]
  refine Int.natAbs_of_nonneg ?_
  by_cases ha : a < 0
  · have hb : b < 0 := h ▸ ha
    exact Int.mul_nonneg_of_nonpos_of_nonpos (by omega) (by omega)
  · have hb : ¬ b < 0 := h ▸ ha
    exact Int.mul_nonneg (by omega) (by omega)
theorem nat_mul_neg (a b : Int) (h : (a < 0) ≠ (b < 0)) : -((a.natAbs : Int) * (b.natAbs : Int)) = a * b := by
  rw [← Int.natCast_mul, ← Int.natAbs_mul]
  have : a * b ≤ 0 := by
    by_cases ha : a < 0
    · have hb : ¬ b < 0 := fun hb => h (by simp [ha, hb])
      exact Int.mul_nonpos_of_nonpos_of_nonneg (by omega) (by omega)
    · by_cases hb : b < 0
      · exact Int.mul_nonpos_of_nonneg_of_nonpos (by omega) (by omega)
      · exact absurd (by simp [ha, hb]) h
  omega

set_option maxHeartbeats 1000000 in
theorem product_any (a b : Int) (a0 : -9223372036854775808 ≤ a) (a1 : a ≤ 9223372036854775807) (b0 : -9223372036854775808 ≤ b) (b1 : b ≤ 9223372036854775807) (w : World) :
    Calls Tryd.prog 47 #[.int .i64 a, .int .i64 b] w fun e w' => e = .returned (wideV (a * b)) ∧ Below w.heap.size w w' := by
  have HS := Lib.hid (fun W => size_any a a0 a1 W)
  have HT := Lib.hid (fun W => size_any b b0 b1 W)
  have HM := Lib.hid (fun W => mul64_any (a.natAbs : Int) (b.natAbs : Int) (by omega) (by omega) (by omega) (by omega) W)
  go_enter Tryd.func47, Tryd.ntmps47
  go_wp2_with fail
  refine (HS.out _).mono ?_
  rintro e w1 ⟨rfl, rfl⟩
  go_wp2_with fail
  refine (HT.out _).mono ?_
  rintro e w2 ⟨rfl, rfl⟩
  go_wp2_with fail
  refine (HM.out _).mono ?_
  rintro e w3 ⟨rfl, rfl⟩
  by_cases ha : a < 0
  · by_cases hbn : b < 0
    · have HP : (a.natAbs : Int) * (b.natAbs : Int) = a * b := nat_mul a b (by simp [ha, hbn])
      go_wp2_with fail
      simp [bodyPost, results, Tryd.results47, go_sem, wideV]
      exact (Below.refl _ _).alloc (Nat.le_refl _) _
    · have HP : -((a.natAbs : Int) * (b.natAbs : Int)) = a * b := nat_mul_neg a b (by simp [ha, hbn])
      have HN := Lib.hid (fun W => negated_any ((a.natAbs : Int) * (b.natAbs : Int)) W)
      unfold wideV at HN
      rw [HP] at HN
      have hbnF : (b < 0) = False := by simp; omega
      clear hbn
      go_wp2_with fail
      refine (HN.out _).mono ?_
      rintro e w4 ⟨rfl, c1, c2, rfl⟩
      go_wp2_with fail
      simp [bodyPost, results, Tryd.results47, go_sem, wideV]
      exact (((Below.refl _ _).alloc (Nat.le_refl _) _).alloc (by simp) _).alloc (by simp; omega) _
  · by_cases hbn : b < 0
    · have HP : -((a.natAbs : Int) * (b.natAbs : Int)) = a * b := nat_mul_neg a b (by simp [ha, hbn])
      have HN := Lib.hid (fun W => negated_any ((a.natAbs : Int) * (b.natAbs : Int)) W)
      unfold wideV at HN
      rw [HP] at HN
      have haF : (a < 0) = False := by simp; omega
      clear ha
      go_wp2_with fail
      refine (HN.out _).mono ?_
      rintro e w4 ⟨rfl, c1, c2, rfl⟩
      go_wp2_with fail
      simp [bodyPost, results, Tryd.results47, go_sem, wideV]
      exact (((Below.refl _ _).alloc (Nat.le_refl _) _).alloc (by simp) _).alloc (by simp; omega) _
    · have HP : (a.natAbs : Int) * (b.natAbs : Int) = a * b := nat_mul a b (by simp [ha, hbn])
      have haF : (a < 0) = False := by simp; omega
      clear ha
      have hbnF : (b < 0) = False := by simp; omega
      clear hbn
      go_wp2_with fail
      simp [bodyPost, results, Tryd.results47, go_sem, wideV]
      exact (Below.refl _ _).alloc (Nat.le_refl _) _
end Go.Proofs.YtdjnnbjpaohaiaaDoor
