/- Plain mathematics of counting: the numbers of a normal form, counted one by one. No program in sight. -/
import Derived.Test.YtbhkbhaepefdgaaDoorSpX
namespace Go.Proofs.YtbhkbhaepefdgaaDoor

def cntR (p : Int → Bool) (lo : Int) : Nat → Int
  | 0 => 0
  | k + 1 => cntR p lo k + (if p (lo + k) = true then 1 else 0)
theorem cntR_add (p : Int → Bool) (lo : Int) (j : Nat) : ∀ k, cntR p lo (j + k) = cntR p lo j + cntR p (lo + j) k
  | 0 => by simp [cntR]
  | k + 1 => by
    have ih := cntR_add p lo j k
    show cntR p lo (j + k) + (if p (lo + ((j + k : Nat) : Int)) = true then 1 else 0) = cntR p lo j + (cntR p (lo + j) k + (if p (lo + j + k) = true then 1 else 0))
    rw [ih, show lo + ((j + k : Nat) : Int) = lo + (j : Int) + (k : Int) by omega]
    omega
theorem cntR_congr {p q : Int → Bool} {lo : Int} : ∀ {k : Nat}, (∀ n, lo ≤ n → n < lo + k → p n = q n) → cntR p lo k = cntR q lo k
  | 0, _ => rfl
  | k + 1, h => by
    have ih := cntR_congr (k := k) fun n h1 h2 => h n h1 (by omega)
    show cntR p lo k + _ = cntR q lo k + _
    rw [ih, h (lo + k) (by omega) (by omega)]
theorem cntR_true {p : Int → Bool} {lo : Int} : ∀ {k : Nat}, (∀ n, lo ≤ n → n < lo + k → p n = true) → cntR p lo k = k
  | 0, _ => rfl
  | k + 1, h => by
    have ih := cntR_true (k := k) fun n h1 h2 => h n h1 (by omega)
    show cntR p lo k + _ = _
    rw [ih, if_pos (h (lo + k) (by omega) (by omega))]
    omega
theorem cntR_false {p : Int → Bool} {lo : Int} : ∀ {k : Nat}, (∀ n, lo ≤ n → n < lo + k → p n = false) → cntR p lo k = 0
  | 0, _ => rfl
  | k + 1, h => by
    have ih := cntR_false (k := k) fun n h1 h2 => h n h1 (by omega)
    show cntR p lo k + _ = _
    rw [ih, h (lo + k) (by omega) (by omega)]
    rfl
theorem cntR_or_and (p q : Int → Bool) (lo : Int) : ∀ k : Nat, cntR (fun n => p n || q n) lo k + cntR (fun n => p n && q n) lo k = cntR p lo k + cntR q lo k
  | 0 => rfl
  | k + 1 => by
    have ih := cntR_or_and p q lo k
    show (cntR (fun n => p n || q n) lo k + (if (p (lo + k) || q (lo + k)) = true then 1 else 0)) + (cntR (fun n => p n && q n) lo k + (if (p (lo + k) && q (lo + k)) = true then 1 else 0)) = (cntR p lo k + _) + (cntR q lo k + _)
    cases p (lo + k) <;> cases q (lo + k) <;> simp <;> omega

theorem memB_false {n : Int} {xs : List Iv} (h : ¬ memL n xs) : memB n xs = false := by
  cases hb : memB n xs with
  | false => rfl
  | true => exact absurd ((memB_iff n xs).1 hb) h

/-- A normal form's count is the count of its numbers. -/
theorem countL_cnt : ∀ (m : Nat) (zs : List Iv), zs.length = m → NF zs → ∀ (lo : Int) (K : Nat), (∀ x ∈ zs, lo ≤ x.1 ∧ x.2 < lo + K) → countL zs = cntR (fun n => memB n zs) lo K
  | 0, zs, hl, _, lo, K, _ => by
    obtain rfl := List.eq_nil_of_length_eq_zero hl
    rw [cntR_false fun n _ _ => memB_false (memL_nil n)]
    rfl
  | m + 1, zs, hl, hN, lo, K, hb => by
    rcases list_snoc zs with rfl | ⟨ys, a, rfl⟩
    · simp at hl
    · obtain ⟨N1, N2, N3⟩ := NF_snoc.1 hN
      have ha := hb a (by simp)
      obtain ⟨j1, h1⟩ : ∃ j1 : Nat, a.1 = lo + j1 := ⟨(a.1 - lo).toNat, by omega⟩
      obtain ⟨j2, h2⟩ : ∃ j2 : Nat, a.2 + 1 = a.1 + j2 := ⟨(a.2 + 1 - a.1).toNat, by omega⟩
      obtain ⟨j3, h3⟩ : ∃ j3 : Nat, K = j1 + j2 + j3 := ⟨K - (j1 + j2), by omega⟩
      have ih := countL_cnt m ys (by simpa using hl) N1 lo j1 (fun x hx => by
        have := N3 x hx
        have := hb x (by simp [hx])
        omega)
      subst h3
      have hlt : ∀ n, memL n ys → n < a.1 := fun n ⟨x, hx, _, h2⟩ => by have := N3 x hx; omega
      rw [countL_snoc, ih, cntR_add, cntR_add]
      have e1 : cntR (fun n => memB n (ys ++ [a])) lo j1 = cntR (fun n => memB n ys) lo j1 := cntR_congr fun n _ g2 => by
        apply Bool.eq_iff_iff.2
        rw [memB_iff, memB_iff, memL_snoc]
        exact ⟨fun h => h.elim id (fun h => by omega), .inl⟩
      have e2 : cntR (fun n => memB n (ys ++ [a])) (lo + j1) j2 = j2 := cntR_true fun n g1 g2 => by
        show memB n (ys ++ [a]) = true
        rw [memB_iff, memL_snoc]
        exact .inr ⟨by omega, by omega⟩
      have e3 : cntR (fun n => memB n (ys ++ [a])) (lo + ((j1 + j2 : Nat) : Int)) j3 = 0 := cntR_false fun n g1 g2 => by
        refine memB_false ?_
        rw [memL_snoc]
        rintro (h | h)
        · have := hlt n h; omega
        · omega
      rw [e1, e2, e3]
      omega

/-- The counts of two sets, of their union and of their common part. -/
theorem count_algebra {xs ys za zb zc zu : List Iv} (ha : NF za) (hb : NF zb) (hc : NF zc) (hu : NF zu) (oa : OkL za) (ob : OkL zb) (oc : OkL zc) (ou : OkL zu)
    (ma : ∀ n, memL n za ↔ memL n xs) (mb : ∀ n, memL n zb ↔ memL n ys) (mc : ∀ n, memL n zc ↔ memL n xs ∧ memL n ys) (mu : ∀ n, memL n zu ↔ memL n xs ∨ memL n ys) : countL zu = countL za + countL zb - countL zc := by
  have bd : ∀ {zs : List Iv}, OkL zs → ∀ x ∈ zs, (-1000000000000 : Int) ≤ x.1 ∧ x.2 < -1000000000000 + ((2000000000001 : Nat) : Int) := fun h x hx => by have := h x hx; omega
  rw [countL_cnt _ zu rfl hu _ _ (bd ou), countL_cnt _ za rfl ha _ _ (bd oa), countL_cnt _ zb rfl hb _ _ (bd ob), countL_cnt _ zc rfl hc _ _ (bd oc)]
  generalize (2000000000001 : Nat) = K
  have h := cntR_or_and (fun n => memB n za) (fun n => memB n zb) (-1000000000000) K
  have e1 : cntR (fun n => memB n zu) (-1000000000000) K = cntR (fun n => memB n za || memB n zb) (-1000000000000) K := cntR_congr fun n _ _ => by
    apply Bool.eq_iff_iff.2
    rw [memB_iff, mu, Bool.or_eq_true, memB_iff, memB_iff, ma, mb]
  have e2 : cntR (fun n => memB n zc) (-1000000000000) K = cntR (fun n => memB n za && memB n zb) (-1000000000000) K := cntR_congr fun n _ _ => by
    apply Bool.eq_iff_iff.2
    rw [memB_iff, mc, Bool.and_eq_true, memB_iff, memB_iff, ma, mb]
  rw [e1, e2]
  omega
end Go.Proofs.YtbhkbhaepefdgaaDoor
