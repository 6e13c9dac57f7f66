/- awake: the program answers the examples of the chapter. -/
import Derived.Test.YtbhkbhaepefdgaaDoorSpJ
namespace Go.Proofs.YtbhkbhaepefdgaaDoor
open Go.RowKit

theorem nf_two (a b c d : Int) (h1 : a ≤ b) (h2 : b + 2 ≤ c) (h3 : c ≤ d) : NF [(a, b), (c, d)] :=
  ⟨fun x hx => by simp at hx; rcases hx with rfl | rfl <;> assumption, by simp; exact h2⟩
theorem nf_one (a b : Int) (h1 : a ≤ b) : NF [(a, b)] := ⟨fun x hx => by simp at hx; subst hx; exact h1, by simp⟩
theorem awake_norm {zs : List Iv} (hN : NF zs) (hm : ∀ n, memL n zs ↔ memL n [(5, 7), (1, 2), (3, 3)]) : zs = [(1, 3), (5, 7)] :=
  NF.ext hN (nf_two 1 3 5 7 (by omega) (by omega) (by omega)) fun n => by
    rw [hm n]
    simp only [memL, List.mem_cons, List.not_mem_nil, or_false, exists_eq_or_imp, exists_eq_left]
    omega
theorem awake_count {zs : List Iv} (hN : NF zs) (hm : ∀ n, memL n zs ↔ memL n [(1, 5), (4, 9)]) : zs = [(1, 9)] :=
  NF.ext hN (nf_one 1 9 (by omega)) fun n => by
    rw [hm n]
    simp only [memL, List.mem_cons, List.not_mem_nil, or_false, exists_eq_or_imp, exists_eq_left]
    omega

theorem err_ex1 : errAll [(1, 3), (10, 20)] = 0 := by decide
theorem err_ex2 : errAll [(5, 7), (1, 2), (3, 3)] = 0 := by decide
theorem err_ex3 : errAll [(1, 5), (4, 9)] = 0 := by decide
theorem res_ex : resIv (1 + 10, 3 + 20) = ((11, 23), 0) := by decide
theorem slice_two (w : World) (a b c d : Int) (t : TypeId) (g : Nat) (hg : w.heap.size = g) : SliceIv (w.alloc (.cells #[.int .i64 a, .int .i64 b, .int .i64 c, .int .i64 d] t)) (g + 1) (.slice (some ⟨g, 0, none⟩) 2 2) [(a, b), (c, d)] :=
  ⟨_, _, rfl, (fun h => by cases h), lies_two w (a, b) (c, d) t g hg⟩
theorem slice_three (w : World) (a b c d e f : Int) (t : TypeId) (g : Nat) (hg : w.heap.size = g) : SliceIv (w.alloc (.cells #[.int .i64 a, .int .i64 b, .int .i64 c, .int .i64 d, .int .i64 e, .int .i64 f] t)) (g + 1) (.slice (some ⟨g, 0, none⟩) 3 3) [(a, b), (c, d), (e, f)] :=
  ⟨_, _, rfl, (fun h => by cases h), lies_three w (a, b) (c, d) (e, f) t g hg⟩

theorem same_slices (v u : Value) (xs ys : List Iv) (B : Nat) (w : World) (hx : SliceIv w B v xs) (hy : SliceIv w B u ys) (hB : B ≤ w.heap.size) (h1 : xs.length ≤ 9223372036854775807) (h2 : ys.length ≤ 9223372036854775807) :
    Calls Tryd.prog 27 #[v, u] w fun e w' => e = .returned (.bool (decide (xs = ys))) ∧ Below w.heap.size w w' := by
  obtain ⟨A, c, rfl, _, hL⟩ := hx
  obtain ⟨A', c', rfl, _, hL'⟩ := hy
  exact same_any xs ys A A' c c' B w hL hL' hB h1 h2

theorem add_ex (w : World) : Calls Tryd.prog 13 #[.agg #[.int .i64 1, .int .i64 3], .agg #[.int .i64 10, .int .i64 20]] w fun e w' => e = .returned (.tuple #[.agg #[.int .i64 11, .int .i64 23], .int .i64 0]) ∧ Below w.heap.size w w' := by
  have h := add_ok 1 3 10 20 w err_ex1
  rw [res_ex] at h
  exact h

set_option maxHeartbeats 2000000 in
theorem awake_any (w : World) : Calls Tryd.prog 12 #[] w fun e w' => e = .returned (.bool true) ∧ Below w.heap.size w w' := by
  have heq := fun (a b c d : Int) (W : World) => eqIv0 a b c d W
  have HQ := Lib.hid heq
  clear heq
  go_enter Tryd.func12, Tryd.ntmps12
  go_wp2_with fail
  refine (add_ex w).mono ?_
  rintro e w1 ⟨rfl, hb1⟩
  go_wp2_with fail
  refine (normalize_ok _ [(5, 7), (1, 2), (3, 3)] (w1.heap.size + 1 + 1) _ (slice_three (w1.alloc _) 5 7 1 2 3 3 _ _ (by simp)) (by simp) (by simp) err_ex2).mono ?_
  rintro e w2 ⟨u, zs, rfl, n1, n2, n3, hown, hb2⟩
  obtain rfl := awake_norm n1 n2
  clear n1 n2 n3
  have HO := Lib.hid hown
  clear hown
  obtain ⟨hc2, hf2⟩ := bcell hb2
  have hz2 : w1.heap.size + 1 < w2.heap.size := by have := hb2.size; simp at this; omega
  have hb2' : Below w.heap.size w w2 := ((hb1.alloc hb1.size _).alloc (by have := hb1.size; simp; omega) _).trans (hb2.mono (by have := hb1.size; simp; omega))
  go_wp2_with fail
  refine (count_ok _ [(1, 5), (4, 9)] (w2.heap.size + 1) _ (slice_two w2 1 5 4 9 _ _ rfl) (by simp) (by simp) err_ex3).mono ?_
  rintro e w3 ⟨zs, rfl, n1, n2, hb3⟩
  obtain rfl := awake_count n1 n2
  clear n1 n2
  rw [show countL [(1, 9)] = 9 from rfl]
  have hc3 : ∀ o, w3.cell? ⟨w1.heap.size, o, none⟩ = w2.cell? ⟨w1.heap.size, o, none⟩ := fun o => by
    rw [hb3.cell (p := ⟨w1.heap.size, o, none⟩) (by show w1.heap.size < _; simp; omega)]
    exact World.cell?_alloc_lt _ _ _ (by show w1.heap.size < _; omega)
  have hb3' : Below w.heap.size w w3 := (hb2'.alloc hb2'.size _).trans (hb3.mono (by have := hb2'.size; simp; omega))
  have hz3 : w1.heap.size + 1 < w3.heap.size := by have := hb3.size; simp at this; omega
  have h11 := fun W => HQ.out 11 23 11 23 W
  rw [show decide ((11 : Int) = 11 ∧ (23 : Int) = 23) = true by decide] at h11
  go_wp2_with fail
  have hb4 : Below w2.heap.size w2 w3 := ((Below.refl _ _).alloc (Nat.le_refl _) _).trans (hb3.mono (by simp))
  refine (same_slices u _ [(1, 3), (5, 7)] [(1, 3), (5, 7)] (w3.heap.size + 1) _ (((OwnIv.slice HO.out).below (hb4.alloc hb4.size _) (Nat.le_refl _)).more (by have := hb4.size; omega)) (slice_two w3 1 3 5 7 _ _ rfl) (by simp) (by simp) (by simp)).mono ?_
  rw [show decide (([(1, 3), (5, 7)] : List Iv) = [(1, 3), (5, 7)]) = true by decide]
  rintro e w4 ⟨rfl, hb5⟩
  go_wp2_with fail
  go_ret
  exact ⟨rfl, (hb3'.alloc hb3'.size _).trans (hb5.mono (by have := hb3'.size; simp; omega))⟩
end Go.Proofs.YtbhkbhaepefdgaaDoor
