/- Layer 4 (fraction): the reference's numbers of 128 bits. -/
import Derived.Test.YtdjnnbjpaohaiaaDoorFrE
namespace Go.Proofs.YtdjnnbjpaohaiaaDoor
open Go.RowKit Go.Ev
set_option maxRecDepth 100000

def wide3 (m : Int) (p : Bool) : Value := .agg #[.int .u64 (hiW m), .int .u64 (loW m), .bool p]

set_option maxHeartbeats 1000000 in
theorem rTimes_any (a b : Int) (a0 : In64 a) (b0 : In64 b) (p : Bool) (hp : p = (decide (a < 0) != decide (b < 0))) (w : World) :
    Calls Tryd.prog 56 #[.int .i64 a, .int .i64 b] w fun e w' => e = .returned (wide3 ((a.natAbs : Int) * (b.natAbs : Int)) p) ∧ Below w.heap.size w w' := by
  obtain ⟨a0, a1⟩ := a0
  obtain ⟨b0, b1⟩ := b0
  have HS := Lib.hid (fun W => rSize_any a a0 a1 W)
  have HT := Lib.hid (fun W => rSize_any b b0 b1 W)
  have HM := Lib.hid (fun W => mul64_any (a.natAbs : Int) (b.natAbs : Int) (by omega) (by omega) (by omega) (by omega) W)
  subst hp
  go_enter Tryd.func56, Tryd.ntmps56
  go_wp2_with fail
  refine (HS.out _).mono ?_
  rintro e w1 ⟨rfl, rfl⟩
  go_wp2_with fail
  refine (HT.out _).mono ?_
  rintro e w2 ⟨rfl, rfl⟩
  go_wp2_with fail
  refine (HM.out _).mono ?_
  rintro e w3 ⟨rfl, rfl⟩
  go_wp2_with fail
  simp [bodyPost, results, Tryd.results56, go_sem, wide3]
  exact ⟨by cases decide (a < 0) <;> cases decide (b < 0) <;> rfl, (Below.refl _ _).alloc (Nat.le_refl _) _⟩

set_option maxHeartbeats 1000000 in
theorem rMinus_any (m : Int) (p : Bool) (w : World) : Calls Tryd.prog 57 #[wide3 m p] w fun e w' => e = .returned (wide3 m (!p)) ∧ Below w.heap.size w w' := by
  unfold wide3
  go_enter Tryd.func57, Tryd.ntmps57
  go_wp2_with fail
  simp [bodyPost, results, Tryd.results57, go_sem]
  exact ((Below.refl _ _).alloc (Nat.le_refl _) _).alloc (by simp) _

theorem lt_words (x y : Int) (x0 : 0 ≤ x) (x1 : x < 340282366920938463463374607431768211456) (y0 : 0 ≤ y) (y1 : y < 340282366920938463463374607431768211456) :
    y < x ↔ (hiW y < hiW x ∨ hiW x = hiW y ∧ loW y < loW x) := by
  have ex : hiW x * 18446744073709551616 + loW x = x := by unfold hiW loW; omega
  have ey : hiW y * 18446744073709551616 + loW y = y := by unfold hiW loW; omega
  have lx := loW_in x
  have ly := loW_in y
  constructor
  · intro h
    by_cases hh : hiW y < hiW x
    · exact .inl hh
    · exact .inr ⟨by omega, by omega⟩
  · rintro (h | ⟨h, h'⟩) <;> omega
set_option maxHeartbeats 1000000 in
theorem above_any (x y : Int) (u v : Bool) (x0 : 0 ≤ x) (x1 : x < 340282366920938463463374607431768211456) (y0 : 0 ≤ y) (y1 : y < 340282366920938463463374607431768211456) (b : Bool) (hb : decide (y < x) = b) (w : World) :
    Calls Tryd.prog 73 #[wide3 x u, wide3 y v] w fun e w' => e = .returned (.bool b) ∧ ∃ c1 c2 : Array Value, w' = (w.alloc (.cells c1 50)).alloc (.cells c2 50) := by
  have key := lt_words x y x0 x1 y0 y1
  subst hb
  clear x0 x1 y0 y1
  unfold wide3
  by_cases h1 : hiW y < hiW x
  · have hr : decide (y < x) = true := by simpa using key.2 (.inl h1)
    clear key
    go_enter Tryd.func73, Tryd.ntmps73
    go_wp2_with fail
    go_ret
    exact ⟨by rw [hr]; rfl, _, _, rfl⟩
  by_cases h2 : hiW x = hiW y
  · by_cases h3 : loW y < loW x
    · have hr : decide (y < x) = true := by simpa using key.2 (.inr ⟨h2, h3⟩)
      clear key h1
      have h1 : (hiW y < hiW y) = False := by simp
      go_enter Tryd.func73, Tryd.ntmps73
      go_wp2_with fail
      go_ret
      exact ⟨by rw [hr]; rfl, _, _, rfl⟩
    · have hr : decide (y < x) = false := by
        rw [decide_eq_false_iff_not]; intro h; rcases key.1 h with h | h
        · exact h1 h
        · exact h3 h.2
      have h3F : (loW y < loW x) = False := by simp; omega
      clear key h1 h3
      go_enter Tryd.func73, Tryd.ntmps73
      go_wp2_with fail
      go_ret
      exact ⟨by rw [hr]; rfl, _, _, rfl⟩
  · have hr : decide (y < x) = false := by
      rw [decide_eq_false_iff_not]; intro h; rcases key.1 h with h | h
      · exact h1 h
      · exact h2 h.1
    have h1F : (hiW y < hiW x) = False := by simp; omega
    have h2F : (hiW x = hiW y) = False := by simp; omega
    clear key h1 h2
    go_enter Tryd.func73, Tryd.ntmps73
    go_wp2_with fail
    go_ret
    exact ⟨by rw [hr]; rfl, _, _, rfl⟩

set_option maxHeartbeats 1000000 in
theorem rPlus_same (x y : Int) (p : Bool) (w : World) :
    Calls Tryd.prog 55 #[wide3 x p, wide3 y p] w fun e w' => e = .returned (wide3 (x + y) p) ∧ Below w.heap.size w w' := by
  obtain ⟨l0, l1⟩ := loW_in x
  obtain ⟨h0, h1⟩ := hiW_in x
  obtain ⟨m0, m1⟩ := loW_in y
  obtain ⟨k0, k1⟩ := hiW_in y
  have b0 : 0 ≤ (loW x + loW y) / 18446744073709551616 := by omega
  have b1 : (loW x + loW y) / 18446744073709551616 ≤ 1 := by omega
  have e1 : (loW x + loW y) % 18446744073709551616 = loW (x + y) := by unfold loW; omega
  have e2 : (hiW x + hiW y + (loW x + loW y) / 18446744073709551616) % 18446744073709551616 = hiW (x + y) := by unfold hiW loW; omega
  unfold wide3
  go_enter Tryd.func55, Tryd.ntmps55
  go_wp2_with (first | simp only [add64_0 (loW x) (loW y) l0 m0] | simp only [add64 (hiW x) (hiW y) _ h0 k0 b0 b1])
  simp [bodyPost, results, Tryd.results55, go_sem]
  exact (((Below.refl _ _).alloc (Nat.le_refl _) _).alloc (by simp) _).alloc (by simp; omega) _
theorem lo_sub (x y : Int) : (loW x - loW y) % 18446744073709551616 = loW (x - y) := by unfold loW; omega
theorem hi_sub (x y : Int) : (hiW x - hiW y - bor (loW x) (loW y)) % 18446744073709551616 = hiW (x - y) := by unfold hiW loW bor; split <;> omega
set_option maxHeartbeats 1000000 in
theorem rPlus_less (x y : Int) (p q : Bool) (hpq : p = !q) (hxy : ¬ x < y) (x0 : 0 ≤ x) (x1 : x < 340282366920938463463374607431768211456) (y0 : 0 ≤ y) (y1 : y < 340282366920938463463374607431768211456) (w : World) :
    Calls Tryd.prog 55 #[wide3 x p, wide3 y q] w fun e w' => e = .returned (wide3 (x - y) p) ∧ Below w.heap.size w w' := by
  obtain ⟨l0, l1⟩ := loW_in x
  obtain ⟨h0, h1⟩ := hiW_in x
  obtain ⟨m0, m1⟩ := loW_in y
  obtain ⟨k0, k1⟩ := hiW_in y
  obtain ⟨b0, b1⟩ := bor_le (loW x) (loW y)
  have e1 := lo_sub x y
  have e2 := hi_sub x y
  have HA := Lib.hid (fun W => above_any y x q p y0 y1 x0 x1 false (by simpa using hxy) W)
  clear hxy x0 x1 y0 y1
  subst hpq
  unfold wide3 at HA ⊢
  go_enter Tryd.func55, Tryd.ntmps55
  go_wp2_with fail
  refine (HA.out _).mono ?_
  rintro e w1 ⟨rfl, c1, c2, rfl⟩
  go_wp2_with (first | simp only [sub64_0 (loW x) (loW y) l0 m0 m1] | simp only [sub64_b (hiW x) (hiW y) (bor (loW x) (loW y)) h0 k0 k1 b0 b1])
  simp [bodyPost, results, Tryd.results55, go_sem]
  exact (((((Below.refl _ _).alloc (Nat.le_refl _) _).alloc (by simp) _).alloc (by simp; omega) _).alloc (by simp; omega) _).alloc (by simp; omega) _
set_option maxHeartbeats 1000000 in
theorem rPlus_more (x y : Int) (p q : Bool) (hpq : p = !q) (hxy : x < y) (x0 : 0 ≤ x) (x1 : x < 340282366920938463463374607431768211456) (y0 : 0 ≤ y) (y1 : y < 340282366920938463463374607431768211456) (w : World) :
    Calls Tryd.prog 55 #[wide3 x p, wide3 y q] w fun e w' => e = .returned (wide3 (y - x) q) ∧ Below w.heap.size w w' := by
  obtain ⟨l0, l1⟩ := loW_in y
  obtain ⟨h0, h1⟩ := hiW_in y
  obtain ⟨m0, m1⟩ := loW_in x
  obtain ⟨k0, k1⟩ := hiW_in x
  obtain ⟨b0, b1⟩ := bor_le (loW y) (loW x)
  have e1 := lo_sub y x
  have e2 := hi_sub y x
  have HA := Lib.hid (fun W => above_any y x q p y0 y1 x0 x1 true (by simpa using hxy) W)
  clear hxy x0 x1 y0 y1
  subst hpq
  unfold wide3 at HA ⊢
  go_enter Tryd.func55, Tryd.ntmps55
  go_wp2_with fail
  refine (HA.out _).mono ?_
  rintro e w1 ⟨rfl, c1, c2, rfl⟩
  go_wp2_with (first | simp only [sub64_0 (loW y) (loW x) l0 m0 m1] | simp only [sub64_b (hiW y) (hiW x) (bor (loW y) (loW x)) h0 k0 k1 b0 b1])
  simp [bodyPost, results, Tryd.results55, go_sem]
  exact (((((Below.refl _ _).alloc (Nat.le_refl _) _).alloc (by simp) _).alloc (by simp; omega) _).alloc (by simp; omega) _).alloc (by simp; omega) _
end Go.Proofs.YtdjnnbjpaohaiaaDoor
