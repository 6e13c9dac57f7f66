/- Contracts of layer 3: the reference. -/
import Derived.Test.YtdbcflgacjgdoaaVeV
import Derived.Test.YtdbcflgacjgdoaaVeX
namespace Go.Proofs.Ytdbcflgacjgdoaa
open Go.RowKit

theorem rin (n : Int) (w : World) : Calls Try.prog 25 #[.int .i64 n] w fun e w' => e = .returned (.bool (inC n)) ∧ w' = w := by
  by_cases h1 : -1000000 ≤ n
  · by_cases h2 : n ≤ 1000000
    · have HR : Hid (inC n = true) := by unfold Hid inC; simp [h1, h2]
      go_enter Try.func25, Try.ntmps25
      go_wp2
      go_ret
      rw [HR.out]
      exact ⟨by simp, rfl⟩
    · have HR : Hid (inC n = false) := by unfold Hid inC; simp [h1, h2]
      go_enter Try.func25, Try.ntmps25
      go_wp2
      go_ret
      rw [HR.out]
      exact ⟨by simp, rfl⟩
  · have HR : Hid (inC n = false) := by unfold Hid inC; simp [h1]
    go_enter Try.func25, Try.ntmps25
    go_wp2
    go_ret
    rw [HR.out]
    exact ⟨by simp, rfl⟩
set_option maxHeartbeats 1000000 in
theorem rIn (a : V3) (w : World) : Calls Try.prog 9 #[vecV a] w fun e w' => e = .returned (.bool (inV a)) ∧ Below w.heap.size w w' := by
  obtain ⟨x, y, z⟩ := a
  have H : Hid (∀ n b, inC n = b → ∀ W, Calls Try.prog 25 #[.int .i64 n] W fun e w' => e = .returned (.bool b) ∧ w' = W) := fun n b h W => by subst h; exact rin n W
  have HR : Hid (inV (x, y, z) = (inC x && inC y && inC z)) := rfl
  generalize inV (x, y, z) = r at HR ⊢
  cases h1 : inC x <;> cases h2 : inC y <;> cases h3 : inC z
  all_goals
    have hr := HR.out
    rw [h1, h2, h3] at hr
    have K1 := Lib.hid (H.out x _ h1)
    have K2 := Lib.hid (H.out y _ h2)
    have K3 := Lib.hid (H.out z _ h3)
    clear h1 h2 h3 HR H
    simp only [Bool.and_true, Bool.and_false] at hr
    subst hr
    go_enter Try.func9, Try.ntmps9
    go_wp2_with fail
    refine (K1.out _).mono ?_
    rintro e w1 ⟨rfl, rfl⟩
    go_wp2_with fail
    first
      | (go_ret; exact ⟨rfl, below1 _ _⟩)
      | (refine (K2.out _).mono ?_
         rintro e w1 ⟨rfl, rfl⟩
         go_wp2_with fail
         first
           | (go_ret; exact ⟨rfl, below1 _ _⟩)
           | (refine (K3.out _).mono ?_
              rintro e w1 ⟨rfl, rfl⟩
              go_wp2_with fail
              go_ret
              exact ⟨rfl, below1 _ _⟩))
set_option maxHeartbeats 1000000 in
theorem rInP (a : Pt) (w : World) : Calls Try.prog 16 #[ptV a] w fun e w' => e = .returned (.bool (inP a)) ∧ Below w.heap.size w w' := by
  obtain ⟨x, y⟩ := a
  have H : Hid (∀ n b, inC n = b → ∀ W, Calls Try.prog 25 #[.int .i64 n] W fun e w' => e = .returned (.bool b) ∧ w' = W) := fun n b h W => by subst h; exact rin n W
  have HR : Hid (inP (x, y) = (inC x && inC y)) := rfl
  generalize inP (x, y) = r at HR ⊢
  cases h1 : inC x <;> cases h2 : inC y
  all_goals
    have hr := HR.out
    rw [h1, h2] at hr
    have K1 := Lib.hid (H.out x _ h1)
    have K2 := Lib.hid (H.out y _ h2)
    clear h1 h2 HR H
    simp only [Bool.and_true, Bool.and_false] at hr
    subst hr
    go_enter Try.func16, Try.ntmps16
    go_wp2_with fail
    refine (K1.out _).mono ?_
    rintro e w1 ⟨rfl, rfl⟩
    go_wp2_with fail
    first
      | (go_ret; exact ⟨rfl, below1 _ _⟩)
      | (refine (K2.out _).mono ?_
         rintro e w1 ⟨rfl, rfl⟩
         go_wp2_with fail
         go_ret
         exact ⟨rfl, below1 _ _⟩)
set_option maxHeartbeats 1000000 in
theorem rAdd (a b : V3) (h : okV a b = true) (w : World) : Calls Try.prog 13 #[vecV a, vecV b] w fun e w' => e = .returned (vecV (addV a b)) ∧ Below w.heap.size w w' := by
  obtain ⟨x, y, z⟩ := a
  obtain ⟨x', y', z'⟩ := b
  rw [okV, Bool.and_eq_true] at h
  obtain ⟨t1, t2, t3⟩ := inV_two h.1
  obtain ⟨t4, t5, t6⟩ := inV_two h.2
  unfold two at t1 t2 t3 t4 t5 t6
  have e1 : wrap64 (x + x') = x + x' := IntWalk.wrap64_in _ (by omega)
  have e2 : wrap64 (y + y') = y + y' := IntWalk.wrap64_in _ (by omega)
  have e3 : wrap64 (z + z') = z + z' := IntWalk.wrap64_in _ (by omega)
  have hF : addV (x, y, z) (x', y', z') = (x + x', y + y', z + z') := by simp [addV]
  rw [hF]
  clear t1 t2 t3 t4 t5 t6 h hF
  go_enter Try.func13, Try.ntmps13
  go_wp2_with fail
  exact bodyPost_ret (v := vecV (x + x', y + y', z + z')) (by simp [results, Try.results13, go_sem]) rfl ⟨rfl, by first | exact below2 _ _ _ | exact below3 _ _ _ _⟩
set_option maxHeartbeats 1000000 in
theorem rSub (a b : V3) (h : okV a b = true) (w : World) : Calls Try.prog 14 #[vecV a, vecV b] w fun e w' => e = .returned (vecV (subV a b)) ∧ Below w.heap.size w w' := by
  obtain ⟨x, y, z⟩ := a
  obtain ⟨x', y', z'⟩ := b
  rw [okV, Bool.and_eq_true] at h
  obtain ⟨t1, t2, t3⟩ := inV_two h.1
  obtain ⟨t4, t5, t6⟩ := inV_two h.2
  unfold two at t1 t2 t3 t4 t5 t6
  have e1 : wrap64 (x - x') = x - x' := IntWalk.wrap64_in _ (by omega)
  have e2 : wrap64 (y - y') = y - y' := IntWalk.wrap64_in _ (by omega)
  have e3 : wrap64 (z - z') = z - z' := IntWalk.wrap64_in _ (by omega)
  have hF : subV (x, y, z) (x', y', z') = (x - x', y - y', z - z') := by simp [subV, Int.sub_eq_add_neg]
  rw [hF]
  clear t1 t2 t3 t4 t5 t6 h hF
  go_enter Try.func14, Try.ntmps14
  go_wp2_with fail
  exact bodyPost_ret (v := vecV (x - x', y - y', z - z')) (by simp [results, Try.results14, go_sem]) rfl ⟨rfl, by first | exact below2 _ _ _ | exact below3 _ _ _ _⟩
theorem two_of {a : V3} (h : inV a = true) : two a.1 ∧ two a.2.1 ∧ two a.2.2 := inV_two h
def crossV (a b : V3) : V3 := (a.2.1 * b.2.2 - a.2.2 * b.2.1, a.2.2 * b.1 - a.1 * b.2.2, a.1 * b.2.1 - a.2.1 * b.1)
end Go.Proofs.Ytdbcflgacjgdoaa
