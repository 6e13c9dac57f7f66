/- Plain mathematics of the reference's sets: ends, and the normal form laid over them. No program in sight. -/
import Derived.Test.YtbhkbhaepefdgaaDoorSpW
namespace Go.Proofs.YtbhkbhaepefdgaaDoor

def Incr (zs : List Int) : Prop := zs.Pairwise (· < ·)
/-- A number is put into an increasing row. -/
def cutAt (zs : List Int) (n : Int) : Nat := (zs.takeWhile fun z => decide (z < n)).length
def insL (zs : List Int) (n : Int) : List Int := if cutAt zs n < zs.length ∧ zs.getD (cutAt zs n) 0 = n then zs else zs.take (cutAt zs n) ++ [n] ++ zs.drop (cutAt zs n)

theorem cutAt_le (zs : List Int) (n : Int) : cutAt zs n ≤ zs.length := (List.takeWhile_sublist _).length_le
theorem cutAt_below : ∀ (zs : List Int) (n : Int) (k : Nat), k < cutAt zs n → zs.getD k 0 < n
  | [], n, k, h => by simp [cutAt] at h
  | z :: zs, n, k, h => by
    unfold cutAt at h
    rw [List.takeWhile_cons] at h
    by_cases hz : z < n
    · simp only [hz, decide_true, if_true, List.length_cons] at h
      match k with
      | 0 => simpa using hz
      | k + 1 => simpa using cutAt_below zs n k (by unfold cutAt; omega)
    · simp [hz] at h
theorem cutAt_at : ∀ (zs : List Int) (n : Int), cutAt zs n < zs.length → n ≤ zs.getD (cutAt zs n) 0
  | [], n, h => by simp at h
  | z :: zs, n, h => by
    unfold cutAt at h ⊢
    rw [List.takeWhile_cons] at h ⊢
    by_cases hz : z < n
    · simp only [hz, decide_true, if_true, List.length_cons] at h ⊢
      have := cutAt_at zs n (by unfold cutAt; omega)
      simpa [cutAt] using this
    · simp [hz]; omega
/-- The cut is the first place that is not below. -/
theorem cutAt_eq (zs : List Int) (n : Int) (k : Nat) (hk : k ≤ zs.length) (hb : ∀ j, j < k → zs.getD j 0 < n) (ha : k < zs.length → n ≤ zs.getD k 0) : cutAt zs n = k := by
  rcases Nat.lt_trichotomy (cutAt zs n) k with h | h | h
  · have := cutAt_at zs n (by omega)
    have := hb _ h
    omega
  · exact h
  · have := cutAt_below zs n k h
    have := ha (by have := cutAt_le zs n; omega)
    omega

theorem getD_mem {zs : List Int} {k : Nat} (h : k < zs.length) : zs.getD k 0 ∈ zs := by
  rw [List.getD_eq_getElem?_getD, List.getElem?_eq_getElem h]; exact List.getElem_mem h
theorem mem_getD {zs : List Int} {z : Int} (h : z ∈ zs) : ∃ k, k < zs.length ∧ zs.getD k 0 = z := by
  obtain ⟨k, hk, e⟩ := List.getElem_of_mem h
  exact ⟨k, hk, by rw [List.getD_eq_getElem?_getD, List.getElem?_eq_getElem hk]; simpa using e⟩
theorem Incr.lt {zs : List Int} (h : Incr zs) {i j : Nat} (hij : i < j) (hj : j < zs.length) : zs.getD i 0 < zs.getD j 0 := by
  have := List.pairwise_iff_getElem.1 h i j (by omega) hj hij
  simpa [List.getD, hj, show i < zs.length by omega] using this

theorem insL_good {zs : List Int} (n : Int) (h : Incr zs) : Incr (insL zs n) ∧ (∀ z, z ∈ insL zs n ↔ z ∈ zs ∨ z = n) ∧ (insL zs n).length ≤ zs.length + 1 := by
  unfold insL
  split
  · next hc =>
    refine ⟨h, fun z => ⟨.inl, ?_⟩, by omega⟩
    rintro (hz | rfl)
    · exact hz
    · rw [← hc.2]; exact getD_mem hc.1
  · next hc =>
    have hle := cutAt_le zs n
    have hb : ∀ z ∈ zs.take (cutAt zs n), z < n := by
      intro z hz
      obtain ⟨k, hk, e⟩ := List.getElem_of_mem hz
      have hk' : k < cutAt zs n := by rw [List.length_take] at hk; omega
      have := cutAt_below zs n k hk'
      rw [List.getD_eq_getElem?_getD, List.getElem?_eq_getElem (by omega)] at this
      rw [List.getElem_take] at e
      simp at this
      omega
    have ha : ∀ z ∈ zs.drop (cutAt zs n), n < z := by
      intro z hz
      obtain ⟨k, hk, e⟩ := List.getElem_of_mem hz
      rw [List.length_drop] at hk
      have h0 := cutAt_at zs n (by omega)
      have hne : n ≠ zs.getD (cutAt zs n) 0 := fun e => hc ⟨by omega, e.symm⟩
      rw [List.getElem_drop] at e
      have e' : zs.getD (cutAt zs n + k) 0 = z := by rw [List.getD_eq_getElem?_getD, List.getElem?_eq_getElem (by omega)]; simpa using e
      rcases Nat.eq_zero_or_pos k with rfl | hp
      · rw [Nat.add_zero] at e'; omega
      · have := h.lt (i := cutAt zs n) (j := cutAt zs n + k) (by omega) (by omega)
        omega
    refine ⟨?_, fun z => ?_, by simp; omega⟩
    · unfold Incr at h ⊢
      rw [List.pairwise_append, List.pairwise_append]
      refine ⟨⟨h.sublist (List.take_sublist _ _), List.pairwise_singleton _ _, fun a h1 b h2 => ?_⟩, h.sublist (List.drop_sublist _ _), fun a h1 b h2 => ?_⟩
      · rw [List.mem_singleton] at h2; subst h2; exact hb a h1
      · have := ha b h2
        rcases List.mem_append.1 h1 with h3 | h3
        · have := hb a h3; omega
        · rw [List.mem_singleton] at h3; subst h3; exact this
    · have : z ∈ zs ↔ z ∈ zs.take (cutAt zs n) ∨ z ∈ zs.drop (cutAt zs n) := by rw [← List.mem_append, List.take_append_drop]
      rw [this, List.mem_append, List.mem_append, List.mem_singleton]
      constructor
      · rintro ((h | h) | h)
        · exact .inl (.inl h)
        · exact .inr h
        · exact .inl (.inr h)
      · rintro ((h | h) | h)
        · exact .inl (.inl h)
        · exact .inr h
        · exact .inl (.inr h)

def endsL (xs : List Iv) : List Int := xs.foldl (fun o x => insL (insL o x.1) (x.2 + 1)) []
theorem endsL_snoc (xs : List Iv) (a : Iv) : endsL (xs ++ [a]) = insL (insL (endsL xs) a.1) (a.2 + 1) := by simp [endsL]
theorem endsL_good : ∀ (k : Nat) (xs : List Iv), xs.length = k → Incr (endsL xs) ∧ (∀ z, z ∈ endsL xs ↔ ∃ x ∈ xs, z = x.1 ∨ z = x.2 + 1) ∧ (endsL xs).length ≤ 2 * k
  | 0, xs, hl => by
    obtain rfl := List.eq_nil_of_length_eq_zero hl
    exact ⟨List.Pairwise.nil, fun z => by simp [endsL], by simp [endsL]⟩
  | k + 1, xs, hl => by
    rcases list_snoc xs with rfl | ⟨ys, a, rfl⟩
    · simp at hl
    · obtain ⟨g1, g2, g3⟩ := endsL_good k ys (by simpa using hl)
      obtain ⟨i1, i2, i3⟩ := insL_good a.1 g1
      obtain ⟨j1, j2, j3⟩ := insL_good (a.2 + 1) i1
      rw [endsL_snoc]
      refine ⟨j1, fun z => ?_, by omega⟩
      rw [j2, i2, g2]
      constructor
      · rintro ((⟨x, hx, h⟩ | h) | h)
        · exact ⟨x, by simp [hx], h⟩
        · exact ⟨a, by simp, .inl h⟩
        · exact ⟨a, by simp, .inr h⟩
      · rintro ⟨x, hx, h⟩
        rcases List.mem_append.1 hx with hx | hx
        · exact .inl (.inl ⟨x, hx, h⟩)
        · rw [List.mem_singleton] at hx
          subst hx
          exact h.elim (fun h => .inl (.inr h)) .inr

/-- Which numbers a kind keeps. -/
def keepB (kind : Int) (x y : Bool) : Bool := !(decide (kind = 1) && !x && !y || decide (kind = 2) && (!x || y) || decide (kind = 3) && (!x || !y))
noncomputable def memB (n : Int) (xs : List Iv) : Bool := xs.any fun x => decide (x.1 ≤ n) && decide (n ≤ x.2)
theorem memB_iff (n : Int) (xs : List Iv) : memB n xs = true ↔ memL n xs := by
  simp [memB, memL]
noncomputable def inKind (kind : Int) (a b : List Iv) (n : Int) : Bool := keepB kind (memB n a) (memB n b)

/-- One step of the form: the segment from p to q, where it is kept. -/
def segIv (out : List Iv) (p q : Int) (keep : Bool) : List Iv :=
  if keep then (match out.getLast? with
    | some l => if l.2 + 1 = p then out.dropLast ++ [(l.1, q - 1)] else out ++ [(p, q - 1)]
    | none => [(p, q - 1)]) else out
noncomputable def formSt (kind : Int) (a b : List Iv) (at' : List Int) : Nat → List Iv
  | 0 => []
  | k + 1 => segIv (formSt kind a b at' k) (at'.getD k 0) (at'.getD (k + 1) 0) (inKind kind a b (at'.getD k 0))
theorem segIv_drop (out : List Iv) (p q : Int) : segIv out p q false = out := rfl
theorem segIv_nil (p q : Int) : segIv [] p q true = [(p, q - 1)] := rfl
theorem segIv_snoc (out : List Iv) (l : Iv) (p q : Int) : segIv (out ++ [l]) p q true = if l.2 + 1 = p then out ++ [(l.1, q - 1)] else out ++ [l] ++ [(p, q - 1)] := by
  simp [segIv]

theorem seg_good {out : List Iv} {p q : Int} (hN : NF out) (hlt : ∀ x ∈ out, x.2 < p) (hpq : p < q) (keep : Bool) :
    NF (segIv out p q keep) ∧ (∀ x ∈ segIv out p q keep, x.2 < q) ∧ (∀ n, memL n (segIv out p q keep) ↔ memL n out ∨ (keep = true ∧ p ≤ n ∧ n < q)) ∧ (segIv out p q keep).length ≤ out.length + 1 := by
  cases keep with
  | false =>
    rw [segIv_drop]
    exact ⟨hN, fun x hx => by have := hlt x hx; omega, fun n => by simp, by omega⟩
  | true =>
    rcases list_snoc out with rfl | ⟨ys, l, rfl⟩
    · rw [segIv_nil]
      refine ⟨⟨fun x hx => ?_, List.pairwise_singleton _ _⟩, fun x hx => ?_, fun n => ?_, by simp⟩
      · rw [List.mem_singleton] at hx; subst hx; show p ≤ q - 1; omega
      · rw [List.mem_singleton] at hx; subst hx; show q - 1 < q; omega
      · rw [memL_cons]
        have := memL_nil n
        show (p ≤ n ∧ n ≤ q - 1) ∨ _ ↔ _
        constructor
        · rintro (h | h)
          · exact .inr ⟨rfl, by omega, by omega⟩
          · exact absurd h this
        · rintro (h | ⟨_, h1, h2⟩)
          · exact absurd h this
          · exact .inl ⟨h1, by omega⟩
    · rw [segIv_snoc]
      obtain ⟨N1, N2, N3⟩ := NF_snoc.1 hN
      have hl := hlt l (by simp)
      split
      · next hc =>
        refine ⟨NF_snoc.2 ⟨N1, by show l.1 ≤ q - 1; omega, N3⟩, fun x hx => ?_, fun n => ?_, by simp⟩
        · rcases List.mem_append.1 hx with h | h
          · have := hlt x (by simp [h]); omega
          · rw [List.mem_singleton] at h; subst h; show q - 1 < q; omega
        · rw [memL_snoc, memL_snoc]
          show _ ∨ (l.1 ≤ n ∧ n ≤ q - 1) ↔ _
          constructor
          · rintro (h | h)
            · exact .inl (.inl h)
            · by_cases hn : n ≤ l.2
              · exact .inl (.inr ⟨h.1, hn⟩)
              · exact .inr ⟨rfl, by omega, by omega⟩
          · rintro ((h | h) | ⟨_, h1, h2⟩)
            · exact .inl h
            · exact .inr ⟨h.1, by omega⟩
            · exact .inr ⟨by omega, by omega⟩
      · next hc =>
        refine ⟨NF_snoc.2 ⟨hN, by show p ≤ q - 1; omega, fun x hx => ?_⟩, fun x hx => ?_, fun n => ?_, by simp⟩
        · show x.2 + 2 ≤ p
          rcases List.mem_append.1 hx with h | h
          · have := N3 x h; omega
          · rw [List.mem_singleton] at h; subst h; omega
        · rcases List.mem_append.1 hx with h | h
          · have := hlt x h; omega
          · rw [List.mem_singleton] at h; subst h; show q - 1 < q; omega
        · rw [memL_snoc]
          show _ ∨ (p ≤ n ∧ n ≤ q - 1) ↔ _
          constructor
          · rintro (h | h)
            · exact .inl h
            · exact .inr ⟨rfl, by omega, by omega⟩
          · rintro (h | ⟨_, h1, h2⟩)
            · exact .inl h
            · exact .inr ⟨h1, by omega⟩

/-- Between two neighbouring ends membership doesn't change. -/
theorem memL_seg {xs : List Iv} {at' : List Int} {k : Nat} {n : Int} (hI : Incr at') (hm : ∀ x ∈ xs, x.1 ∈ at' ∧ x.2 + 1 ∈ at') (hk : k + 1 < at'.length) (h1 : at'.getD k 0 ≤ n) (h2 : n < at'.getD (k + 1) 0) :
    memL n xs ↔ memL (at'.getD k 0) xs := by
  have split : ∀ z ∈ at', z ≤ at'.getD k 0 ∨ at'.getD (k + 1) 0 ≤ z := by
    intro z hz
    obtain ⟨j, hj, rfl⟩ := mem_getD hz
    rcases Nat.lt_trichotomy j k with h | h | h
    · have := hI.lt h (by omega); exact .inl (by omega)
    · subst h; exact .inl (Int.le_refl _)
    · rcases Nat.lt_or_ge (k + 1) j with h' | h'
      · have := hI.lt h' hj; exact .inr (by omega)
      · obtain rfl : j = k + 1 := by omega
        exact .inr (Int.le_refl _)
  constructor
  · rintro ⟨x, hx, a1, a2⟩
    refine ⟨x, hx, ?_, by omega⟩
    rcases split _ (hm x hx).1 with h | h
    · exact h
    · omega
  · rintro ⟨x, hx, a1, a2⟩
    refine ⟨x, hx, by omega, ?_⟩
    rcases split _ (hm x hx).2 with h | h
    · omega
    · omega

theorem formSt_good {kind : Int} {a b : List Iv} {at' : List Int} (hI : Incr at') (ha : ∀ x ∈ a, x.1 ∈ at' ∧ x.2 + 1 ∈ at') (hb : ∀ x ∈ b, x.1 ∈ at' ∧ x.2 + 1 ∈ at') :
    ∀ k, k < at'.length → NF (formSt kind a b at' k) ∧ (∀ x ∈ formSt kind a b at' k, x.2 < at'.getD k 0) ∧
      (∀ n, memL n (formSt kind a b at' k) ↔ at'.getD 0 0 ≤ n ∧ n < at'.getD k 0 ∧ inKind kind a b n = true) ∧ (formSt kind a b at' k).length ≤ k
  | 0, _ => ⟨NF_nil, fun x h => (by cases h), fun n => ⟨fun h => absurd h (memL_nil n), fun h => by omega⟩, by simp [formSt]⟩
  | k + 1, hk => by
    obtain ⟨g1, g2, g3, g4⟩ := formSt_good hI ha hb k (by omega)
    have hlt := hI.lt (i := k) (j := k + 1) (by omega) hk
    obtain ⟨s1, s2, s3, s4⟩ := seg_good g1 g2 hlt (inKind kind a b (at'.getD k 0))
    have h0 : at'.getD 0 0 ≤ at'.getD k 0 := by
      rcases Nat.eq_zero_or_pos k with rfl | hp
      · exact Int.le_refl _
      · have := hI.lt hp (by omega); omega
    refine ⟨s1, s2, fun n => ?_, by show (segIv _ _ _ _).length ≤ _; omega⟩
    show memL n (segIv _ _ _ _) ↔ _
    rw [s3 n, g3 n]
    have same : at'.getD k 0 ≤ n → n < at'.getD (k + 1) 0 → inKind kind a b n = inKind kind a b (at'.getD k 0) := by
      intro h1 h2
      have e1 : memB n a = memB (at'.getD k 0) a := by
        have := memL_seg hI ha hk h1 h2
        rw [← memB_iff, ← memB_iff] at this
        exact Bool.eq_iff_iff.2 this
      have e2 : memB n b = memB (at'.getD k 0) b := by
        have := memL_seg hI hb hk h1 h2
        rw [← memB_iff, ← memB_iff] at this
        exact Bool.eq_iff_iff.2 this
      unfold inKind
      rw [e1, e2]
    constructor
    · rintro (⟨h1, h2, h3⟩ | ⟨h1, h2, h3⟩)
      · exact ⟨h1, by omega, h3⟩
      · exact ⟨by omega, h3, by rw [same h2 h3]; exact h1⟩
    · rintro ⟨h1, h2, h3⟩
      by_cases hn : n < at'.getD k 0
      · exact .inl ⟨h1, hn, h3⟩
      · exact .inr ⟨by rw [← same (by omega) h2]; exact h3, by omega, h2⟩

/-- The form of all segments. -/
noncomputable def formL (kind : Int) (a b : List Iv) : List Iv := formSt kind a b (endsL (a ++ b)) ((endsL (a ++ b)).length - 1)
theorem keepB_ff {kind : Int} (h : kind = 1 ∨ kind = 2 ∨ kind = 3) : keepB kind false false = false := by
  rcases h with rfl | rfl | rfl <;> rfl
theorem formL_good {kind : Int} {a b : List Iv} (hk : kind = 1 ∨ kind = 2 ∨ kind = 3) :
    NF (formL kind a b) ∧ (∀ n, memL n (formL kind a b) ↔ inKind kind a b n = true) ∧ (formL kind a b).length ≤ 2 * (a.length + b.length) := by
  obtain ⟨e1, e2, e3⟩ := endsL_good _ (a ++ b) rfl
  rw [List.length_append] at e3
  have ha : ∀ x ∈ a, x.1 ∈ endsL (a ++ b) ∧ x.2 + 1 ∈ endsL (a ++ b) := fun x hx => ⟨(e2 _).2 ⟨x, by simp [hx], .inl rfl⟩, (e2 _).2 ⟨x, by simp [hx], .inr rfl⟩⟩
  have hb : ∀ x ∈ b, x.1 ∈ endsL (a ++ b) ∧ x.2 + 1 ∈ endsL (a ++ b) := fun x hx => ⟨(e2 _).2 ⟨x, by simp [hx], .inl rfl⟩, (e2 _).2 ⟨x, by simp [hx], .inr rfl⟩⟩
  unfold formL
  generalize endsL (a ++ b) = at' at *
  have noneOut : ∀ n, (∀ x ∈ a, ¬ (x.1 ≤ n ∧ n ≤ x.2)) → (∀ x ∈ b, ¬ (x.1 ≤ n ∧ n ≤ x.2)) → inKind kind a b n = false := by
    intro n h1 h2
    have m1 : memB n a = false := by
      cases h : memB n a with
      | false => rfl
      | true =>
        obtain ⟨x, hx, hh⟩ := (memB_iff n a).1 h
        exact absurd hh (h1 x hx)
    have m2 : memB n b = false := by
      cases h : memB n b with
      | false => rfl
      | true =>
        obtain ⟨x, hx, hh⟩ := (memB_iff n b).1 h
        exact absurd hh (h2 x hx)
    unfold inKind
    rw [m1, m2]
    exact keepB_ff hk
  rcases Nat.eq_zero_or_pos at'.length with h0 | hp
  · have : at' = [] := List.eq_nil_of_length_eq_zero h0
    subst this
    refine ⟨NF_nil, fun n => ⟨fun h => absurd h (memL_nil n), fun h => ?_⟩, by simp [formSt]⟩
    rw [noneOut n (fun x hx => by cases (ha x hx).1) (fun x hx => by cases (hb x hx).1)] at h
    cases h
  · obtain ⟨g1, g2, g3, g4⟩ := formSt_good (kind := kind) e1 ha hb (at'.length - 1) (by omega)
    have hfirst : ∀ z ∈ at', at'.getD 0 0 ≤ z := by
      intro z hz
      obtain ⟨j, hj, rfl⟩ := mem_getD hz
      rcases Nat.eq_zero_or_pos j with rfl | hj'
      · exact Int.le_refl _
      · have := e1.lt hj' hj; omega
    have hlast : ∀ z ∈ at', z ≤ at'.getD (at'.length - 1) 0 := by
      intro z hz
      obtain ⟨j, hj, rfl⟩ := mem_getD hz
      rcases Nat.lt_or_ge j (at'.length - 1) with h | h
      · have := e1.lt h (by omega); omega
      · obtain rfl : j = at'.length - 1 := by omega
        exact Int.le_refl _
    refine ⟨g1, fun n => ?_, by omega⟩
    rw [g3 n]
    constructor
    · exact fun h => h.2.2
    · intro h
      by_cases h1 : at'.getD 0 0 ≤ n
      · by_cases h2 : n < at'.getD (at'.length - 1) 0
        · exact ⟨h1, h2, h⟩
        · rw [noneOut n (fun x hx => by have := hlast _ (ha x hx).2; omega) (fun x hx => by have := hlast _ (hb x hx).2; omega)] at h
          cases h
      · rw [noneOut n (fun x hx => by have := hfirst _ (ha x hx).1; omega) (fun x hx => by have := hfirst _ (hb x hx).1; omega)] at h
        cases h
end Go.Proofs.YtbhkbhaepefdgaaDoor
