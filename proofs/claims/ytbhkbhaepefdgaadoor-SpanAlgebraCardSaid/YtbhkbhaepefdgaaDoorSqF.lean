/- Union, Minus, Common of span. -/
import Derived.Test.YtbhkbhaepefdgaaDoorSqB
import Derived.Test.YtbhkbhaepefdgaaDoorSqC
namespace Go.Proofs.YtbhkbhaepefdgaaDoor
open Go.RowKit

/-- What an operation on sets gives: kind 1 union, 2 minus, 3 common. -/
def IsSet (kind : Int) (xs ys : List Iv) (e : Int) (zs : List Iv) : Prop :=
  e = errAll (xs ++ ys) ∧ zs.length ≤ 1000 ∧ OkL zs ∧ (e ≠ 0 → zs = []) ∧ (e = 0 → NF zs ∧ ∀ n, memL n zs ↔ inKind kind xs ys n = true)
theorem IsSet.unique {kind : Int} {xs ys : List Iv} {e e' : Int} {zs zs' : List Iv} (h : IsSet kind xs ys e zs) (h' : IsSet kind xs ys e' zs') : e = e' ∧ zs = zs' := by
  obtain ⟨a1, _, _, a2, a3⟩ := h
  obtain ⟨b1, _, _, b2, b3⟩ := h'
  subst a1 b1
  refine ⟨rfl, ?_⟩
  by_cases h0 : errAll (xs ++ ys) = 0
  · obtain ⟨n1, m1⟩ := a3 h0
    obtain ⟨n2, m2⟩ := b3 h0
    exact NF.ext n1 n2 fun n => (m1 n).trans (m2 n).symm
  · rw [a2 h0, b2 h0]
theorem inKind_1 (xs ys : List Iv) (n : Int) : inKind 1 xs ys n = true ↔ memL n xs ∨ memL n ys := by
  rw [← memB_iff, ← memB_iff]
  unfold inKind keepB
  cases memB n xs <;> cases memB n ys <;> simp
theorem inKind_2 (xs ys : List Iv) (n : Int) : inKind 2 xs ys n = true ↔ memL n xs ∧ ¬ memL n ys := by
  rw [← memB_iff, ← memB_iff]
  unfold inKind keepB
  cases memB n xs <;> cases memB n ys <;> simp
theorem inKind_3 (xs ys : List Iv) (n : Int) : inKind 3 xs ys n = true ↔ memL n xs ∧ memL n ys := by
  rw [← memB_iff, ← memB_iff]
  unfold inKind keepB
  cases memB n xs <;> cases memB n ys <;> simp
theorem OkL_nil : OkL [] := fun x h => by cases h

set_option maxHeartbeats 2000000 in
theorem union_any (xs ys : List Iv) (v u : Value) (B : Nat) (w : World) (hx : SliceIv w B v xs) (hy : SliceIv w B u ys) (hB : B ≤ w.heap.size) (h1 : xs.length ≤ 200) (h2 : ys.length ≤ 200) :
    Calls Tryd.prog 22 #[v, u] w fun e w' => ∃ r zs er, e = .returned (.tuple #[r, .int .i64 er]) ∧ IsSet 1 xs ys er zs ∧ SliceIv w' w'.heap.size r zs ∧ Below w.heap.size w w' := by
  by_cases he : errAll (xs ++ ys) = 0
  · have HX := Lib.hid hx
    have HY := Lib.hid hy
    have HE := Lib.hid he
    have HK := Lib.hid (errAll_zero.1 he)
    clear he
    obtain ⟨A, c, rfl, _, _⟩ := hx
    obtain ⟨A', c', rfl, _, _⟩ := hy
    go_enter Tryd.func22, Tryd.ntmps22
    go_wp2_with fail
    refine (checkLists_any [(_, xs), (_, ys)] _ _ (w.heap.size + 1) _ (LiesLL.two HX.out HY.out hB _ _ rfl) (by simp) (by simp) (by rw [catL_two, List.length_append]; omega) (by intro e h; simp at h; rcases h with rfl | rfl <;> simp <;> omega)).mono ?_
    rw [catL_two, HE.out]
    rintro e w1 ⟨rfl, hb1⟩
    have hb1' : Below w.heap.size w w1 := ((Below.refl _ _).alloc (Nat.le_refl _) _).trans (hb1.mono (by simp))
    go_wp2_with fail
    refine (normal_any [(_, xs), (_, ys)] _ _ (w1.heap.size + 1) _ (LiesLL.two (HX.out.below hb1' hB) (HY.out.below hb1' hB) (by have := hb1'.size; omega) _ _ rfl) (by simp) (by simp) (by rw [catL_two, List.length_append]; omega) (by rw [catL_two]; exact HK.out)).mono ?_
    rw [catL_two]
    rintro e w2 ⟨u, zs, rfl, n1, n2, n3, hown, hb2⟩
    have hb2' : Below w.heap.size w w2 := (hb1'.alloc hb1'.size _).trans (hb2.mono (by have := hb1'.size; simp; omega))
    have HO := Lib.hid (OwnIv.slice hown)
    have HN : Hid (IsSet 1 xs ys 0 zs) := ⟨HE.out.symm, by rw [List.length_append] at n3; omega, n1.ok n2 HK.out, fun h => absurd rfl h, fun _ => ⟨n1, fun n => by rw [n2 n, inKind_1, memL_append]⟩⟩
    clear hown n1 n2
    go_wp2_with fail
    go_ret2
    exact ⟨u, zs, 0, rfl, HN.out, HO.out, hb2'⟩
  · have HX := Lib.hid hx
    have HY := Lib.hid hy
    have hne : (errAll (xs ++ ys) != 0) = true := by simp [he]
    have HN : Hid (IsSet 1 xs ys (errAll (xs ++ ys)) []) := ⟨rfl, by simp, OkL_nil, fun _ => rfl, fun h => absurd h he⟩
    clear he
    obtain ⟨x, hxe⟩ : ∃ x, x = errAll (xs ++ ys) := ⟨_, rfl⟩
    rw [← hxe] at hne HN
    have HE := Lib.hid hxe
    clear hxe
    obtain ⟨A, c, rfl, _, _⟩ := hx
    obtain ⟨A', c', rfl, _, _⟩ := hy
    go_enter Tryd.func22, Tryd.ntmps22
    go_wp2_with fail
    refine (checkLists_any [(_, xs), (_, ys)] _ _ (w.heap.size + 1) _ (LiesLL.two HX.out HY.out hB _ _ rfl) (by simp) (by simp) (by rw [catL_two, List.length_append]; omega) (by intro e h; simp at h; rcases h with rfl | rfl <;> simp <;> omega)).mono ?_
    rw [catL_two, ← HE.out]
    rintro e w1 ⟨rfl, hb1⟩
    have hb1' : Below w.heap.size w w1 := ((Below.refl _ _).alloc (Nat.le_refl _) _).trans (hb1.mono (by simp))
    go_wp2_with fail
    go_ret2
    exact ⟨_, [], x, rfl, HN.out, ⟨none, 0, rfl, fun _ => rfl, fun h => absurd h (Nat.not_lt_zero _)⟩, hb1'⟩
set_option maxHeartbeats 2000000 in
theorem common2_any (xs ys : List Iv) (v u : Value) (B : Nat) (w : World) (hG : HasEmpty w) (hx : SliceIv w B v xs) (hy : SliceIv w B u ys) (hB : B ≤ w.heap.size) (h1 : xs.length ≤ 200) (h2 : ys.length ≤ 200) :
    Calls Tryd.prog 24 #[v, u] w fun e w' => ∃ r zs er, e = .returned (.tuple #[r, .int .i64 er]) ∧ IsSet 3 xs ys er zs ∧ SliceIv w' w'.heap.size r zs ∧ Below w.heap.size w w' := by
  have hG0 := hG.lt
  have HG := Lib.hid hG
  clear hG
  by_cases he : errAll (xs ++ ys) = 0
  · have HX := Lib.hid hx
    have HY := Lib.hid hy
    have HE := Lib.hid he
    have HK := Lib.hid (errAll_zero.1 he)
    clear he
    obtain ⟨A, c, rfl, _, _⟩ := hx
    obtain ⟨A', c', rfl, _, _⟩ := hy
    go_enter Tryd.func24, Tryd.ntmps24
    go_wp2_with fail
    refine (checkLists_any [(_, xs), (_, ys)] _ _ (w.heap.size + 1) _ (LiesLL.two HX.out HY.out hB _ _ rfl) (by simp) (by simp) (by rw [catL_two, List.length_append]; omega) (by intro e h; simp at h; rcases h with rfl | rfl <;> simp <;> omega)).mono ?_
    rw [catL_two, HE.out]
    rintro e w1 ⟨rfl, hb1⟩
    have hb1' : Below w.heap.size w w1 := ((Below.refl _ _).alloc (Nat.le_refl _) _).trans (hb1.mono (by simp))
    go_wp2_with fail
    have HKX : Hid (OkL xs) := fun x hx => HK.out x (List.mem_append_left _ hx)
    have HKY : Hid (OkL ys) := fun x hx => HK.out x (List.mem_append_right _ hx)
    refine (normal_any [(_, xs)] _ _ (w1.heap.size + 1) _ (LiesLL.one (HX.out.below hb1' hB) (by have := hb1'.size; omega) _ _ rfl) (by simp) (by simp) (by rw [catL_one]; omega) (by rw [catL_one]; exact HKX.out)).mono ?_
    rw [catL_one]
    rintro e w2 ⟨va, za, rfl, n1, n2, n3, hown2, hb2⟩
    have hb2' : Below w.heap.size w w2 := (hb1'.alloc hb1'.size _).trans (hb2.mono (by have := hb1'.size; simp; omega))
    have HO2 := Lib.hid hown2
    have HN1 := Lib.hid (And.intro n1 n2)
    have HZ1 := Lib.hid (n1.ok n2 HKX.out)
    clear hown2 n1 n2
    go_wp2_with fail
    refine (normal_any [(_, ys)] _ _ (w2.heap.size + 1) _ (LiesLL.one (HY.out.below hb2' hB) (by have := hb2'.size; omega) _ _ rfl) (by simp) (by simp) (by rw [catL_one]; omega) (by rw [catL_one]; exact HKY.out)).mono ?_
    rw [catL_one]
    rintro e w3 ⟨vb, zb, rfl, m1, m2, m3, hown3, hb3⟩
    have hb3' : Below w.heap.size w w3 := (hb2'.alloc hb2'.size _).trans (hb3.mono (by have := hb2'.size; simp; omega))
    have HO3 := Lib.hid hown3
    have HO23 := Lib.hid (own_grow HO2.out (((Below.refl _ _).alloc (Nat.le_refl _) _).trans (hb3.mono (by simp))))
    have HM1 := Lib.hid (And.intro m1 m2)
    have HZ2 := Lib.hid (m1.ok m2 HKY.out)
    clear hown3 m1 m2
    go_wp2_with fail
    refine (common_any za zb va vb w3.heap.size w3 (HG.out.below hb3' hG0) (OwnIv.sliceC HO23.out) (OwnIv.sliceC HO3.out) (Nat.le_refl _) (by omega) (by omega)).mono ?_
    rintro e w4 ⟨r, rfl, hown4, hb4⟩
    obtain ⟨q1, q2, q3⟩ := commonL_good _ za zb rfl HN1.out.1 HM1.out.1
    have hb4' : Below w.heap.size w w4 := hb3'.trans (hb4.mono hb3'.size)
    have HO := Lib.hid (OwnIv.slice hown4)
    have HN : Hid (IsSet 3 xs ys 0 (commonL za zb)) := ⟨HE.out.symm, by omega, fun x hx => by
      have v1 := q1.1 x hx
      obtain ⟨y, hy, y1, y2⟩ := ((q2 x.1).1 ⟨x, hx, Int.le_refl _, v1⟩).1
      obtain ⟨z, hz, z1, z2⟩ := ((q2 x.2).1 ⟨x, hx, v1, Int.le_refl _⟩).1
      have := HZ1.out y hy
      have := HZ1.out z hz
      omega, fun h => absurd rfl h, fun _ => ⟨q1, fun n => by rw [q2 n, inKind_3, HN1.out.2 n, HM1.out.2 n]⟩⟩
    clear hown4 q1 q2
    go_wp2_with fail
    go_ret2
    exact ⟨r, _, 0, rfl, HN.out, HO.out, hb4'⟩
  · have HX := Lib.hid hx
    have HY := Lib.hid hy
    have hne : (errAll (xs ++ ys) != 0) = true := by simp [he]
    have HN : Hid (IsSet 3 xs ys (errAll (xs ++ ys)) []) := ⟨rfl, by simp, OkL_nil, fun _ => rfl, fun h => absurd h he⟩
    clear he
    obtain ⟨x, hxe⟩ : ∃ x, x = errAll (xs ++ ys) := ⟨_, rfl⟩
    rw [← hxe] at hne HN
    have HE := Lib.hid hxe
    clear hxe
    obtain ⟨A, c, rfl, _, _⟩ := hx
    obtain ⟨A', c', rfl, _, _⟩ := hy
    go_enter Tryd.func24, Tryd.ntmps24
    go_wp2_with fail
    refine (checkLists_any [(_, xs), (_, ys)] _ _ (w.heap.size + 1) _ (LiesLL.two HX.out HY.out hB _ _ rfl) (by simp) (by simp) (by rw [catL_two, List.length_append]; omega) (by intro e h; simp at h; rcases h with rfl | rfl <;> simp <;> omega)).mono ?_
    rw [catL_two, ← HE.out]
    rintro e w1 ⟨rfl, hb1⟩
    have hb1' : Below w.heap.size w w1 := ((Below.refl _ _).alloc (Nat.le_refl _) _).trans (hb1.mono (by simp))
    go_wp2_with fail
    go_ret2
    exact ⟨_, [], x, rfl, HN.out, ⟨none, 0, rfl, fun _ => rfl, fun h => absurd h (Nat.not_lt_zero _)⟩, hb1'⟩
set_option maxHeartbeats 2000000 in
theorem minus_any (xs ys : List Iv) (v u : Value) (B : Nat) (w : World) (hG : HasEmpty w) (hx : SliceIv w B v xs) (hy : SliceIv w B u ys) (hB : B ≤ w.heap.size) (h1 : xs.length ≤ 200) (h2 : ys.length ≤ 200) :
    Calls Tryd.prog 23 #[v, u] w fun e w' => ∃ r zs er, e = .returned (.tuple #[r, .int .i64 er]) ∧ IsSet 2 xs ys er zs ∧ SliceIv w' w'.heap.size r zs ∧ Below w.heap.size w w' := by
  have hG0 := hG.lt
  have HG := Lib.hid hG
  clear hG
  by_cases he : errAll (xs ++ ys) = 0
  · have HX := Lib.hid hx
    have HY := Lib.hid hy
    have HE := Lib.hid he
    have HK := Lib.hid (errAll_zero.1 he)
    clear he
    obtain ⟨A, c, rfl, _, _⟩ := hx
    obtain ⟨A', c', rfl, _, _⟩ := hy
    go_enter Tryd.func23, Tryd.ntmps23
    go_wp2_with fail
    refine (checkLists_any [(_, xs), (_, ys)] _ _ (w.heap.size + 1) _ (LiesLL.two HX.out HY.out hB _ _ rfl) (by simp) (by simp) (by rw [catL_two, List.length_append]; omega) (by intro e h; simp at h; rcases h with rfl | rfl <;> simp <;> omega)).mono ?_
    rw [catL_two, HE.out]
    rintro e w1 ⟨rfl, hb1⟩
    have hb1' : Below w.heap.size w w1 := ((Below.refl _ _).alloc (Nat.le_refl _) _).trans (hb1.mono (by simp))
    go_wp2_with fail
    have HKX : Hid (OkL xs) := fun x hx => HK.out x (List.mem_append_left _ hx)
    have HKY : Hid (OkL ys) := fun x hx => HK.out x (List.mem_append_right _ hx)
    refine (normal_any [(_, xs)] _ _ (w1.heap.size + 1) _ (LiesLL.one (HX.out.below hb1' hB) (by have := hb1'.size; omega) _ _ rfl) (by simp) (by simp) (by rw [catL_one]; omega) (by rw [catL_one]; exact HKX.out)).mono ?_
    rw [catL_one]
    rintro e w2 ⟨va, za, rfl, n1, n2, n3, hown2, hb2⟩
    have hb2' : Below w.heap.size w w2 := (hb1'.alloc hb1'.size _).trans (hb2.mono (by have := hb1'.size; simp; omega))
    have HO2 := Lib.hid hown2
    have HN1 := Lib.hid (And.intro n1 n2)
    have HZ1 := Lib.hid (n1.ok n2 HKX.out)
    clear hown2 n1 n2
    go_wp2_with fail
    refine (normal_any [(_, ys)] _ _ (w2.heap.size + 1) _ (LiesLL.one (HY.out.below hb2' hB) (by have := hb2'.size; omega) _ _ rfl) (by simp) (by simp) (by rw [catL_one]; omega) (by rw [catL_one]; exact HKY.out)).mono ?_
    rw [catL_one]
    rintro e w3 ⟨vb, zb, rfl, m1, m2, m3, hown3, hb3⟩
    have hb3' : Below w.heap.size w w3 := (hb2'.alloc hb2'.size _).trans (hb3.mono (by have := hb2'.size; simp; omega))
    have HO3 := Lib.hid hown3
    have HO23 := Lib.hid (own_grow HO2.out (((Below.refl _ _).alloc (Nat.le_refl _) _).trans (hb3.mono (by simp))))
    have HM1 := Lib.hid (And.intro m1 m2)
    have HZ2 := Lib.hid (m1.ok m2 HKY.out)
    clear hown3 m1 m2
    go_wp2_with fail
    refine (gaps_any zb vb w3.heap.size w3 (OwnIv.slice HO3.out) (Nat.le_refl _) (by omega) HZ2.out HM1.out.1).mono ?_
    rintro e w4 ⟨vg, rfl, hown4, hb4⟩
    obtain ⟨p1, p2, p3⟩ := gapsL_good HM1.out.1 HZ2.out
    have hb4' : Below w.heap.size w w4 := hb3'.trans (hb4.mono hb3'.size)
    have HO4 := Lib.hid hown4
    have HO24 := Lib.hid (own_grow HO23.out hb4)
    clear hown4
    go_wp2_with fail
    refine (common_any za (gapsL zb) va vg w4.heap.size w4 (HG.out.below hb4' hG0) (OwnIv.sliceC HO24.out) (OwnIv.sliceC HO4.out) (Nat.le_refl _) (by omega) (by omega)).mono ?_
    rintro e w5 ⟨r, rfl, hown5, hb5⟩
    obtain ⟨q1, q2, q3⟩ := commonL_good _ za (gapsL zb) rfl HN1.out.1 p1
    have hb5' : Below w.heap.size w w5 := hb4'.trans (hb5.mono hb4'.size)
    have HO := Lib.hid (OwnIv.slice hown5)
    have HN : Hid (IsSet 2 xs ys 0 (commonL za (gapsL zb))) := ⟨HE.out.symm, by omega, fun x hx => by
      have v1 := q1.1 x hx
      obtain ⟨y, hy, y1, y2⟩ := ((q2 x.1).1 ⟨x, hx, Int.le_refl _, v1⟩).1
      obtain ⟨z, hz, z1, z2⟩ := ((q2 x.2).1 ⟨x, hx, v1, Int.le_refl _⟩).1
      have := HZ1.out y hy
      have := HZ1.out z hz
      omega, fun h => absurd rfl h, fun _ => ⟨q1, fun n => by
      rw [q2 n, inKind_2, HN1.out.2 n, p2 n, HM1.out.2 n]
      constructor
      · rintro ⟨a, _, b⟩
        exact ⟨a, b⟩
      · rintro ⟨⟨x, hx, h1, h2⟩, b⟩
        have := HKX.out x hx
        exact ⟨⟨x, hx, h1, h2⟩, ⟨by omega, by omega⟩, b⟩⟩⟩
    clear hown5 q1 q2 p1 p2
    go_wp2_with fail
    go_ret2
    exact ⟨r, _, 0, rfl, HN.out, HO.out, hb5'⟩
  · have HX := Lib.hid hx
    have HY := Lib.hid hy
    have hne : (errAll (xs ++ ys) != 0) = true := by simp [he]
    have HN : Hid (IsSet 2 xs ys (errAll (xs ++ ys)) []) := ⟨rfl, by simp, OkL_nil, fun _ => rfl, fun h => absurd h he⟩
    clear he
    obtain ⟨x, hxe⟩ : ∃ x, x = errAll (xs ++ ys) := ⟨_, rfl⟩
    rw [← hxe] at hne HN
    have HE := Lib.hid hxe
    clear hxe
    obtain ⟨A, c, rfl, _, _⟩ := hx
    obtain ⟨A', c', rfl, _, _⟩ := hy
    go_enter Tryd.func23, Tryd.ntmps23
    go_wp2_with fail
    refine (checkLists_any [(_, xs), (_, ys)] _ _ (w.heap.size + 1) _ (LiesLL.two HX.out HY.out hB _ _ rfl) (by simp) (by simp) (by rw [catL_two, List.length_append]; omega) (by intro e h; simp at h; rcases h with rfl | rfl <;> simp <;> omega)).mono ?_
    rw [catL_two, ← HE.out]
    rintro e w1 ⟨rfl, hb1⟩
    have hb1' : Below w.heap.size w w1 := ((Below.refl _ _).alloc (Nat.le_refl _) _).trans (hb1.mono (by simp))
    go_wp2_with fail
    go_ret2
    exact ⟨_, [], x, rfl, HN.out, ⟨none, 0, rfl, fun _ => rfl, fun h => absurd h (Nat.not_lt_zero _)⟩, hb1'⟩
end Go.Proofs.YtbhkbhaepefdgaaDoor
