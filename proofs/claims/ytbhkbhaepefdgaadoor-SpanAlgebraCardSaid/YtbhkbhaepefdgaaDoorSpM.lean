/- Plain mathematics of layer 1 (span): lists of intervals, normal forms, and that a normal form is given by its members. No program in sight. -/
import Derived.WalkKit
namespace Go.Proofs.YtbhkbhaepefdgaaDoor
open Go.RowKit

abbrev Iv := Int × Int
def encIv (x : Iv) : List Value := [.int .i64 x.1, .int .i64 x.2]
def cellsIv (xs : List Iv) : List Value := xs.flatMap encIv
def bad (x : Iv) : Bool := decide (x.1 < -1000000000000 ∨ 1000000000000 < x.1 ∨ x.2 < -1000000000000 ∨ 1000000000000 < x.2)
def rev (x : Iv) : Bool := decide (x.2 < x.1)
def errAll (xs : List Iv) : Int := if xs.any bad then 6 else if xs.any rev then 1 else 0
def OkL (xs : List Iv) : Prop := ∀ x ∈ xs, -1000000000000 ≤ x.1 ∧ x.1 ≤ x.2 ∧ x.2 ≤ 1000000000000

theorem errAll_zero {xs : List Iv} : errAll xs = 0 ↔ OkL xs := by
  unfold errAll OkL
  by_cases h1 : xs.any bad = true
  · rw [if_pos h1]
    obtain ⟨x, hx, hb⟩ := List.any_eq_true.1 h1
    constructor
    · intro h; simp at h
    · intro h
      have := h x hx
      simp [bad] at hb
      omega
  · rw [if_neg h1]
    by_cases h2 : xs.any rev = true
    · rw [if_pos h2]
      obtain ⟨x, hx, hb⟩ := List.any_eq_true.1 h2
      constructor
      · intro h; simp at h
      · intro h
        have := h x hx
        simp [rev] at hb
        omega
    · rw [if_neg h2]
      refine ⟨fun _ x hx => ?_, fun _ => rfl⟩
      have a : bad x = false := by
        cases hb : bad x with
        | false => rfl
        | true => exact absurd (List.any_eq_true.2 ⟨x, hx, hb⟩) h1
      have b : rev x = false := by
        cases hb : rev x with
        | false => rfl
        | true => exact absurd (List.any_eq_true.2 ⟨x, hx, hb⟩) h2
      simp [bad] at a
      simp [rev] at b
      omega

theorem errAll_cases (xs : List Iv) : errAll xs = 0 ∨ errAll xs = 1 ∨ errAll xs = 6 := by
  unfold errAll
  split
  · exact .inr (.inr rfl)
  · split
    · exact .inr (.inl rfl)
    · exact .inl rfl

/-- Membership in the set of a list. -/
def memL (n : Int) (xs : List Iv) : Prop := ∃ x ∈ xs, x.1 ≤ n ∧ n ≤ x.2
/-- A normal form. -/
def NF (xs : List Iv) : Prop := (∀ x ∈ xs, x.1 ≤ x.2) ∧ xs.Pairwise (fun x y => x.2 + 2 ≤ y.1)

theorem memL_nil (n : Int) : ¬ memL n [] := fun ⟨_, h, _⟩ => by cases h
theorem memL_cons (n : Int) (x : Iv) (xs : List Iv) : memL n (x :: xs) ↔ (x.1 ≤ n ∧ n ≤ x.2) ∨ memL n xs := by
  simp [memL]
theorem memL_append (n : Int) (xs ys : List Iv) : memL n (xs ++ ys) ↔ memL n xs ∨ memL n ys := by
  simp only [memL, List.mem_append]
  constructor
  · rintro ⟨x, h | h, hn⟩
    · exact .inl ⟨x, h, hn⟩
    · exact .inr ⟨x, h, hn⟩
  · rintro (⟨x, h, hn⟩ | ⟨x, h, hn⟩)
    · exact ⟨x, .inl h, hn⟩
    · exact ⟨x, .inr h, hn⟩
theorem memL_perm {xs ys : List Iv} (h : xs.Perm ys) (n : Int) : memL n xs ↔ memL n ys :=
  ⟨fun ⟨x, hx, hn⟩ => ⟨x, h.mem_iff.1 hx, hn⟩, fun ⟨x, hx, hn⟩ => ⟨x, h.mem_iff.2 hx, hn⟩⟩

theorem NF.tail {x : Iv} {xs : List Iv} (h : NF (x :: xs)) : NF xs :=
  ⟨fun y hy => h.1 y (List.mem_cons_of_mem _ hy), (List.pairwise_cons.1 h.2).2⟩
theorem NF.after {x : Iv} {xs : List Iv} (h : NF (x :: xs)) {n : Int} (hn : memL n xs) : x.2 + 2 ≤ n := by
  obtain ⟨y, hy, h1, _⟩ := hn
  have := (List.pairwise_cons.1 h.2).1 y hy
  omega

/-- A normal form is given by its members. -/
theorem NF.ext : ∀ {xs ys : List Iv}, NF xs → NF ys → (∀ n, memL n xs ↔ memL n ys) → xs = ys
  | [], [], _, _, _ => rfl
  | [], y :: ys, _, hy, h => absurd ((h y.1).2 ((memL_cons _ _ _).2 (.inl ⟨Int.le_refl _, hy.1 y (List.mem_cons_self ..)⟩))) (memL_nil _)
  | x :: xs, [], hx, _, h => absurd ((h x.1).1 ((memL_cons _ _ _).2 (.inl ⟨Int.le_refl _, hx.1 x (List.mem_cons_self ..)⟩))) (memL_nil _)
  | x :: xs, y :: ys, hx, hy, h => by
    have vx := hx.1 x (List.mem_cons_self ..)
    have vy := hy.1 y (List.mem_cons_self ..)
    have lo1 : y.1 ≤ x.1 := by
      rcases (memL_cons _ _ _).1 ((h x.1).1 ((memL_cons _ _ _).2 (.inl ⟨Int.le_refl _, vx⟩))) with g | g
      · exact g.1
      · have := hy.after g; omega
    have lo2 : x.1 ≤ y.1 := by
      rcases (memL_cons _ _ _).1 ((h y.1).2 ((memL_cons _ _ _).2 (.inl ⟨Int.le_refl _, vy⟩))) with g | g
      · exact g.1
      · have := hx.after g; omega
    have hi1 : x.2 ≤ y.2 := by
      by_cases hc : x.2 ≤ y.2
      · exact hc
      · rcases (memL_cons _ _ _).1 ((h (y.2 + 1)).1 ((memL_cons _ _ _).2 (.inl ⟨by omega, by omega⟩))) with g | g
        · omega
        · have := hy.after g; omega
    have hi2 : y.2 ≤ x.2 := by
      by_cases hc : y.2 ≤ x.2
      · exact hc
      · rcases (memL_cons _ _ _).1 ((h (x.2 + 1)).2 ((memL_cons _ _ _).2 (.inl ⟨by omega, by omega⟩))) with g | g
        · omega
        · have := hx.after g; omega
    have e : x = y := Prod.ext (by omega) (by omega)
    subst e
    have ht : xs = ys := NF.ext hx.tail hy.tail fun n => by
      constructor
      · intro hn
        have := hx.after hn
        rcases (memL_cons _ _ _).1 ((h n).1 ((memL_cons _ _ _).2 (.inr hn))) with g | g
        · omega
        · exact g
      · intro hn
        have := hy.after hn
        rcases (memL_cons _ _ _).1 ((h n).2 ((memL_cons _ _ _).2 (.inr hn))) with g | g
        · omega
        · exact g
    rw [ht]

/-- One step of joining: an interval is put behind a normal form, or joined to its last one. -/
def putIv (out : List Iv) (a : Iv) : List Iv := match out.getLast? with
  | some l => if a.1 ≤ l.2 + 1 then out.dropLast ++ [(l.1, max l.2 a.2)] else out ++ [a]
  | none => [a]
def joined (xs : List Iv) : List Iv := xs.foldl putIv []

theorem putIv_nil (a : Iv) : putIv [] a = [a] := rfl
theorem putIv_snoc (out : List Iv) (l a : Iv) : putIv (out ++ [l]) a = if a.1 ≤ l.2 + 1 then out ++ [(l.1, max l.2 a.2)] else out ++ [l] ++ [a] := by
  simp [putIv]
theorem list_snoc (xs : List Iv) : xs = [] ∨ ∃ ys y, xs = ys ++ [y] := by
  rcases List.eq_nil_or_concat xs with h | ⟨ys, y, h⟩
  · exact .inl h
  · exact .inr ⟨ys, y, by simpa using h⟩

theorem NF_snoc {xs : List Iv} {y : Iv} : NF (xs ++ [y]) ↔ NF xs ∧ y.1 ≤ y.2 ∧ ∀ x ∈ xs, x.2 + 2 ≤ y.1 := by
  unfold NF
  rw [List.pairwise_append]
  simp only [List.mem_append, List.mem_singleton, List.pairwise_cons, List.not_mem_nil, false_implies, implies_true, List.Pairwise.nil, and_self, true_and, forall_eq]
  constructor
  · rintro ⟨h1, h2, h3⟩
    exact ⟨⟨fun x hx => h1 x (.inl hx), h2⟩, h1 y (.inr rfl), h3⟩
  · rintro ⟨⟨h1, h2⟩, h3, h4⟩
    exact ⟨fun x hx => hx.elim (h1 x) (fun e => by subst e; exact h3), h2, h4⟩

theorem put_good {out : List Iv} {a : Iv} (hN : NF out) (ha : a.1 ≤ a.2) (hs : ∀ x ∈ out, x.1 ≤ a.1) :
    NF (putIv out a) ∧ (∀ n, memL n (putIv out a) ↔ memL n out ∨ (a.1 ≤ n ∧ n ≤ a.2)) ∧ (∀ x ∈ putIv out a, x.1 ≤ a.1) := by
  rcases list_snoc out with rfl | ⟨ys, l, rfl⟩
  · rw [putIv_nil]
    refine ⟨⟨fun x hx => ?_, List.pairwise_singleton _ _⟩, fun n => ?_, fun x hx => ?_⟩
    · rw [List.mem_singleton] at hx; subst hx; exact ha
    · simp [memL]
    · rw [List.mem_singleton] at hx; subst hx; omega
  · rw [putIv_snoc]
    have hl := hs l (by simp)
    obtain ⟨h1, h2, h3⟩ := NF_snoc.1 hN
    split
    · next hc =>
      refine ⟨NF_snoc.2 ⟨h1, ?_, h3⟩, fun n => ?_, fun x hx => ?_⟩
      · show l.1 ≤ max l.2 a.2
        omega
      · rw [memL_append, memL_append, memL_cons, memL_cons]
        have e := memL_nil n
        show _ ∨ ((l.1 ≤ n ∧ n ≤ max l.2 a.2) ∨ _) ↔ _
        constructor
        · rintro (h | h | h)
          · exact .inl (.inl h)
          · by_cases hn : n ≤ l.2
            · exact .inl (.inr (.inl ⟨h.1, hn⟩))
            · exact .inr ⟨by omega, by omega⟩
          · exact absurd h e
        · rintro ((h | h | h) | h)
          · exact .inl h
          · exact .inr (.inl ⟨h.1, by omega⟩)
          · exact absurd h e
          · exact .inr (.inl ⟨by omega, by omega⟩)
      · rcases List.mem_append.1 hx with h | h
        · exact hs x (by simp [h])
        · rw [List.mem_singleton] at h; subst h; exact hl
    · next hc =>
      refine ⟨NF_snoc.2 ⟨hN, ha, fun x hx => ?_⟩, fun n => ?_, fun x hx => ?_⟩
      · rcases List.mem_append.1 hx with h | h
        · have := h3 x h; omega
        · rw [List.mem_singleton] at h; subst h; omega
      · rw [memL_append, memL_cons]
        have e := memL_nil n
        constructor
        · rintro (h | h | h)
          · exact .inl h
          · exact .inr h
          · exact absurd h e
        · rintro (h | h)
          · exact .inl h
          · exact .inr (.inl h)
      · rcases List.mem_append.1 hx with h | h
        · exact hs x h
        · rw [List.mem_singleton] at h; subst h; omega

theorem joined_snoc (xs : List Iv) (a : Iv) : joined (xs ++ [a]) = putIv (joined xs) a := by simp [joined]

theorem joined_good : ∀ (n : Nat) (xs : List Iv), xs.length = n → (∀ x ∈ xs, x.1 ≤ x.2) → xs.Pairwise (fun x y => x.1 ≤ y.1) →
    NF (joined xs) ∧ (∀ n, memL n (joined xs) ↔ memL n xs) ∧ (∀ a : Int, (∀ x ∈ xs, x.1 ≤ a) → ∀ x ∈ joined xs, x.1 ≤ a)
  | 0, xs, hl, _, _ => by
    obtain rfl := List.eq_nil_of_length_eq_zero hl
    exact ⟨⟨fun x hx => by simp [joined] at hx, by simp [joined]⟩, fun n => by simp [joined], fun a _ x hx => by simp [joined] at hx⟩
  | n + 1, xs, hl, hv, hp => by
    rcases list_snoc xs with rfl | ⟨ys, l, rfl⟩
    · simp at hl
    · have hy : ys.length = n := by simpa using hl
      rw [List.pairwise_append] at hp
      obtain ⟨g1, g2, g3⟩ := joined_good n ys hy (fun x hx => hv x (by simp [hx])) hp.1
      have hs : ∀ x ∈ joined ys, x.1 ≤ l.1 := g3 l.1 (fun x hx => hp.2.2 x hx l (by simp))
      obtain ⟨p1, p2, p3⟩ := put_good g1 (hv l (by simp)) hs
      rw [joined_snoc]
      refine ⟨p1, fun m => ?_, fun a ha x hx => ?_⟩
      · rw [p2 m, g2 m, memL_append, memL_cons]
        have := memL_nil m
        constructor
        · rintro (h | h)
          · exact .inl h
          · exact .inr (.inl h)
        · rintro (h | h | h)
          · exact .inl h
          · exact .inr h
          · exact absurd h this
      · have := p3 x hx
        have := ha l (by simp)
        omega

theorem joined_len_put (out : List Iv) (a : Iv) : (putIv out a).length ≤ out.length + 1 := by
  rcases list_snoc out with rfl | ⟨ys, l, rfl⟩
  · simp [putIv_nil]
  · rw [putIv_snoc]; split <;> simp
theorem joined_len : ∀ (n : Nat) (xs : List Iv), xs.length = n → (joined xs).length ≤ n
  | 0, xs, hl => by obtain rfl := List.eq_nil_of_length_eq_zero hl; simp [joined]
  | n + 1, xs, hl => by
    rcases list_snoc xs with rfl | ⟨ys, l, rfl⟩
    · simp at hl
    · have := joined_len n ys (by simpa using hl)
      have h2 := joined_len_put (joined ys) l
      rw [joined_snoc]; omega

/-- The ends of a normal form's intervals are members. -/
theorem NF.ok {xs ys : List Iv} (hN : NF xs) (hm : ∀ n, memL n xs ↔ memL n ys) (hy : OkL ys) : OkL xs := by
  intro x hx
  have hv := hN.1 x hx
  obtain ⟨y, hy1, h1, h2⟩ := (hm x.1).1 ⟨x, hx, Int.le_refl _, hv⟩
  obtain ⟨z, hz1, h3, h4⟩ := (hm x.2).1 ⟨x, hx, hv, Int.le_refl _⟩
  have := hy y hy1
  have := hy z hz1
  omega

/-- How many numbers a list of intervals has, each list's own. -/
def countL (xs : List Iv) : Int := xs.foldl (fun n x => n + (x.2 - x.1 + 1)) 0
theorem countL_snoc (xs : List Iv) (a : Iv) : countL (xs ++ [a]) = countL xs + (a.2 - a.1 + 1) := by simp [countL]
def sumL (xs : List Iv) : Iv := xs.foldl (fun s x => (s.1 + x.1, s.2 + x.2)) (0, 0)
theorem sumL_snoc (xs : List Iv) (a : Iv) : sumL (xs ++ [a]) = ((sumL xs).1 + a.1, (sumL xs).2 + a.2) := by simp [sumL]
theorem take_snoc' (xs : List Iv) (k : Nat) (h : k < xs.length) : xs.take (k + 1) = xs.take k ++ [xs.getD k (0, 0)] := by
  rw [List.take_succ_eq_append_getElem h]; simp [List.getD, h]
end Go.Proofs.YtbhkbhaepefdgaaDoor
