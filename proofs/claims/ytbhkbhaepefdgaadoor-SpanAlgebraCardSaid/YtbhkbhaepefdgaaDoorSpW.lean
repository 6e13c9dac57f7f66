/- Plain mathematics of sets: gaps, common parts, unions of normal forms; rows of numbers. No program in sight. -/
import Derived.Test.YtbhkbhaepefdgaaDoorSpM
namespace Go.Proofs.YtbhkbhaepefdgaaDoor

/-- The numbers in range. -/
def inR (n : Int) : Prop := -1000000000000 ≤ n ∧ n ≤ 1000000000000

/-- One step of the gaps: what was left out so far, and the next number. -/
def gapStep (s : List Iv × Int) (a : Iv) : List Iv × Int := (if s.2 < a.1 then s.1 ++ [(s.2, a.1 - 1)] else s.1, a.2 + 1)
def gapSt (xs : List Iv) : List Iv × Int := xs.foldl gapStep ([], -1000000000000)
def gapsL (xs : List Iv) : List Iv := if (gapSt xs).2 ≤ 1000000000000 then (gapSt xs).1 ++ [((gapSt xs).2, 1000000000000)] else (gapSt xs).1
theorem gapSt_snoc (xs : List Iv) (a : Iv) : gapSt (xs ++ [a]) = gapStep (gapSt xs) a := by simp [gapSt]
theorem NF_nil : NF [] := ⟨fun x h => (by cases h), List.Pairwise.nil⟩
theorem OkL_snoc {xs : List Iv} {a : Iv} (h : OkL (xs ++ [a])) : OkL xs ∧ -1000000000000 ≤ a.1 ∧ a.1 ≤ a.2 ∧ a.2 ≤ 1000000000000 :=
  ⟨fun x hx => h x (by simp [hx]), h a (by simp)⟩
theorem memL_snoc (n : Int) (xs : List Iv) (a : Iv) : memL n (xs ++ [a]) ↔ memL n xs ∨ (a.1 ≤ n ∧ n ≤ a.2) := by
  rw [memL_append, memL_cons]
  have := memL_nil n
  constructor
  · rintro (h | h | h)
    · exact .inl h
    · exact .inr h
    · exact absurd h this
  · rintro (h | h)
    · exact .inl h
    · exact .inr (.inl h)

theorem gapSt_good : ∀ (k : Nat) (xs : List Iv), xs.length = k → NF xs → OkL xs →
    NF (gapSt xs).1 ∧ (∀ x ∈ (gapSt xs).1, x.2 + 2 ≤ (gapSt xs).2) ∧ -1000000000000 ≤ (gapSt xs).2 ∧ (gapSt xs).2 ≤ 1000000000001 ∧ (∀ x ∈ xs, x.2 < (gapSt xs).2) ∧ (xs ≠ [] → ∃ x ∈ xs, x.2 + 1 = (gapSt xs).2) ∧
    (∀ n, memL n (gapSt xs).1 ↔ -1000000000000 ≤ n ∧ n < (gapSt xs).2 ∧ ¬ memL n xs) ∧ (gapSt xs).1.length ≤ k
  | 0, xs, hl, _, _ => by
    obtain rfl := List.eq_nil_of_length_eq_zero hl
    refine ⟨NF_nil, fun x h => (by cases h), by simp [gapSt], by simp [gapSt], fun x h => (by cases h), fun h => absurd rfl h, fun n => ?_, by simp [gapSt]⟩
    have := memL_nil n
    simp [gapSt, this]
  | k + 1, xs, hl, hN, hO => by
    rcases list_snoc xs with rfl | ⟨ys, a, rfl⟩
    · simp at hl
    · have hy : ys.length = k := by simpa using hl
      obtain ⟨N1, N2, N3⟩ := NF_snoc.1 hN
      obtain ⟨O1, O2, O3, O4⟩ := OkL_snoc hO
      obtain ⟨g1, g2, g3, g4, g5, g6, g7, g8⟩ := gapSt_good k ys hy N1 O1
      rw [gapSt_snoc]
      generalize gapSt ys = s at *
      obtain ⟨o, nx⟩ := s
      simp only [gapStep] at *
      have hnx : nx ≤ a.1 := by
        by_cases he : ys = []
        · subst he
          rcases Int.lt_or_le a.1 nx with h | h
          · have := (g7 (-1000000000000)).2 ⟨by omega, by omega, memL_nil _⟩
            obtain ⟨x, hx, h1, h2⟩ := this
            have := g2 x hx
            have : o = [] := by
              have := g8
              rw [← hy] at this
              exact List.eq_nil_of_length_eq_zero (by simpa using this)
            subst this
            cases hx
          · exact h
        · obtain ⟨x, hx, h1⟩ := g6 he
          have := N3 x hx
          omega
      refine ⟨?_, ?_, by omega, by omega, ?_, fun _ => ⟨a, by simp, rfl⟩, ?_, ?_⟩
      · split
        · exact NF_snoc.2 ⟨g1, by show nx ≤ a.1 - 1; omega, fun x hx => g2 x hx⟩
        · exact g1
      · intro x hx
        split at hx
        · rcases List.mem_append.1 hx with h | h
          · have := g2 x h; omega
          · rw [List.mem_singleton] at h; subst h; show a.1 - 1 + 2 ≤ a.2 + 1; omega
        · have := g2 x hx; omega
      · intro x hx
        rcases List.mem_append.1 hx with h | h
        · have := N3 x h; omega
        · rw [List.mem_singleton] at h; subst h; omega
      · intro n
        rw [memL_snoc]
        have hlt : ∀ n, memL n ys → n < nx := fun n ⟨x, hx, _, h2⟩ => by have := g5 x hx; omega
        split
        · next hc =>
          rw [memL_snoc, g7 n]
          show _ ∨ (nx ≤ n ∧ n ≤ a.1 - 1) ↔ _
          constructor
          · rintro (⟨h1, h2, h3⟩ | ⟨h1, h2⟩)
            · exact ⟨h1, by omega, fun h => h.elim h3 (fun h => by omega)⟩
            · exact ⟨by omega, by omega, fun h => h.elim (fun h => by have := hlt n h; omega) (fun h => by omega)⟩
          · rintro ⟨h1, h2, h3⟩
            by_cases hn : n < nx
            · exact .inl ⟨h1, hn, fun h => h3 (.inl h)⟩
            · refine .inr ⟨by omega, ?_⟩
              have : ¬ (a.1 ≤ n ∧ n ≤ a.2) := fun h => h3 (.inr h)
              omega
        · next hc =>
          rw [g7 n]
          constructor
          · rintro ⟨h1, h2, h3⟩
            exact ⟨h1, by omega, fun h => h.elim h3 (fun h => by omega)⟩
          · rintro ⟨h1, h2, h3⟩
            have : ¬ (a.1 ≤ n ∧ n ≤ a.2) := fun h => h3 (.inr h)
            exact ⟨h1, by omega, fun h => h3 (.inl h)⟩
      · split
        · simp; omega
        · omega

theorem gapsL_good {xs : List Iv} (hN : NF xs) (hO : OkL xs) : NF (gapsL xs) ∧ (∀ n, memL n (gapsL xs) ↔ inR n ∧ ¬ memL n xs) ∧ (gapsL xs).length ≤ xs.length + 1 := by
  obtain ⟨g1, g2, g3, g4, g5, g6, g7, g8⟩ := gapSt_good _ xs rfl hN hO
  unfold gapsL inR
  generalize gapSt xs = s at *
  obtain ⟨o, nx⟩ := s
  simp only at *
  have hlt : ∀ n, memL n xs → n < nx := fun n ⟨x, hx, _, h2⟩ => by have := g5 x hx; omega
  split
  · next hc =>
    refine ⟨NF_snoc.2 ⟨g1, hc, fun x hx => g2 x hx⟩, fun n => ?_, by simp; omega⟩
    rw [memL_snoc, g7 n]
    show _ ∨ (nx ≤ n ∧ n ≤ 1000000000000) ↔ _
    constructor
    · rintro (⟨h1, h2, h3⟩ | ⟨h1, h2⟩)
      · exact ⟨⟨h1, by omega⟩, h3⟩
      · exact ⟨⟨by omega, h2⟩, fun h => by have := hlt n h; omega⟩
    · rintro ⟨⟨h1, h2⟩, h3⟩
      by_cases hn : n < nx
      · exact .inl ⟨h1, hn, h3⟩
      · exact .inr ⟨by omega, h2⟩
  · next hc =>
    refine ⟨g1, fun n => ?_, by omega⟩
    rw [g7 n]
    constructor
    · rintro ⟨h1, h2, h3⟩
      exact ⟨⟨h1, by omega⟩, h3⟩
    · rintro ⟨⟨h1, h2⟩, h3⟩
      exact ⟨h1, by omega, h3⟩

/-- The common parts of two normal forms, as two hands walk them. -/
def ovl (x y : Iv) : List Iv := if max x.1 y.1 ≤ min x.2 y.2 then [(max x.1 y.1, min x.2 y.2)] else []
def commonL : List Iv → List Iv → List Iv
  | [], _ => []
  | _ :: _, [] => []
  | x :: xs, y :: ys => ovl x y ++ (if x.2 < y.2 then commonL xs (y :: ys) else commonL (x :: xs) ys)
termination_by xs ys => xs.length + ys.length
theorem commonL_nil_right (xs : List Iv) : commonL xs [] = [] := by cases xs <;> simp [commonL]
theorem commonL_nil_left (ys : List Iv) : commonL [] ys = [] := by simp [commonL]
theorem commonL_cons (x y : Iv) (xs ys : List Iv) : commonL (x :: xs) (y :: ys) = ovl x y ++ (if x.2 < y.2 then commonL xs (y :: ys) else commonL (x :: xs) ys) := by rw [commonL]

theorem memL_ovl (n : Int) (x y : Iv) : memL n (ovl x y) ↔ (x.1 ≤ n ∧ n ≤ x.2) ∧ (y.1 ≤ n ∧ n ≤ y.2) := by
  unfold ovl
  have := memL_nil n
  split
  · rw [memL_cons]
    show (max x.1 y.1 ≤ n ∧ n ≤ min x.2 y.2) ∨ _ ↔ _
    constructor
    · rintro (h | h)
      · omega
      · exact absurd h this
    · intro h
      exact .inl (by omega)
  · constructor
    · intro h; exact absurd h this
    · intro h; omega

theorem commonL_good : ∀ (k : Nat) (xs ys : List Iv), xs.length + ys.length = k → NF xs → NF ys →
    NF (commonL xs ys) ∧ (∀ n, memL n (commonL xs ys) ↔ memL n xs ∧ memL n ys) ∧ (commonL xs ys).length ≤ k := by
  intro k
  induction k using Nat.strongRecOn with
  | _ k ih =>
    intro xs ys hk hx hy
    match xs, ys with
    | [], ys =>
      rw [commonL_nil_left]
      have := memL_nil
      exact ⟨NF_nil, fun n => by simp [this], by simp⟩
    | x :: xs, [] =>
      rw [commonL_nil_right]
      have := memL_nil
      exact ⟨NF_nil, fun n => by simp [this], by simp⟩
    | x :: xs, y :: ys =>
      rw [commonL_cons]
      have vx := hx.1 x (List.mem_cons_self ..)
      have vy := hy.1 y (List.mem_cons_self ..)
      have key : ∀ R : List Iv, NF R → (∀ z, memL z R → min x.2 y.2 + 2 ≤ z) → NF (ovl x y ++ R) := by
        intro R hR hz
        unfold ovl
        split
        · next hc =>
          refine ⟨fun z hz' => ?_, ?_⟩
          · rcases List.mem_append.1 hz' with h | h
            · rw [List.mem_singleton] at h; subst h; exact hc
            · exact hR.1 z h
          · refine List.pairwise_append.2 ⟨List.pairwise_singleton _ _, hR.2, fun a ha b hb => ?_⟩
            rw [List.mem_singleton] at ha
            subst ha
            exact hz b.1 ⟨b, hb, Int.le_refl _, hR.1 b hb⟩
        · exact hR
      have olen : (ovl x y).length ≤ 1 := by unfold ovl; split <;> simp
      by_cases hc : x.2 < y.2
      · rw [if_pos hc]
        obtain ⟨i1, i2, i3⟩ := ih (k - 1) (by simp at hk; omega) xs (y :: ys) (by simp at hk ⊢; omega) hx.tail hy
        refine ⟨key _ i1 fun z hz => ?_, fun n => ?_, by rw [List.length_append]; simp at hk; omega⟩
        · have := hx.after ((i2 z).1 hz).1
          omega
        · rw [memL_append, memL_ovl, i2 n, memL_cons, memL_cons]
          constructor
          · rintro (⟨h1, h2⟩ | ⟨h1, h2⟩)
            · exact ⟨.inl h1, .inl h2⟩
            · exact ⟨.inr h1, h2⟩
          · rintro ⟨h1 | h1, h2 | h2⟩
            · exact .inl ⟨h1, h2⟩
            · have := hy.after h2; omega
            · exact .inr ⟨h1, .inl h2⟩
            · exact .inr ⟨h1, .inr h2⟩
      · rw [if_neg hc]
        obtain ⟨i1, i2, i3⟩ := ih (k - 1) (by simp at hk; omega) (x :: xs) ys (by simp at hk ⊢; omega) hx hy.tail
        refine ⟨key _ i1 fun z hz => ?_, fun n => ?_, by rw [List.length_append]; simp at hk; omega⟩
        · have := hy.after ((i2 z).1 hz).2
          omega
        · rw [memL_append, memL_ovl, i2 n, memL_cons, memL_cons]
          constructor
          · rintro (⟨h1, h2⟩ | ⟨h1, h2⟩)
            · exact ⟨.inl h1, .inl h2⟩
            · exact ⟨h1, .inr h2⟩
          · rintro ⟨h1 | h1, h2 | h2⟩
            · exact .inl ⟨h1, h2⟩
            · exact .inr ⟨.inl h1, h2⟩
            · have := hx.after h1; omega
            · exact .inr ⟨.inr h1, h2⟩
end Go.Proofs.YtbhkbhaepefdgaaDoor
