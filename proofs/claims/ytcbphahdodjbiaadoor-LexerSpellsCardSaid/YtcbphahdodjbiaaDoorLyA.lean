/- Layer 9 (lexer): plain maths of spellings: runs, numerals, which tokens are valid. -/
import Derived.Lib.ParseIntB
import Derived.Lib.ItoaNum
import Derived.Lib.IndexMore
import Derived.Test.YtcbphahdodjbiaaDoorLxE
import Derived.Test.YtcbphahdodjbiaaDoorLxD
namespace Go.Proofs.YtcbphahdodjbiaaDoor
open Go.Lib Go.RowKit

/-- The length of the run of a class at the beginning. -/
def rn (p : Nat → Bool) : List UInt8 → Nat
  | [] => 0
  | c :: r => if p c.toNat = true then rn p r + 1 else 0
theorem rn_le (p : Nat → Bool) : ∀ l, rn p l ≤ l.length
  | [] => Nat.le_refl _
  | c :: r => by
    have := rn_le p r
    unfold rn
    split <;> simp <;> omega
theorem rn_is {p : Nat → Bool} : ∀ {l : List UInt8} {k : Nat}, k ≤ l.length → (∀ j b, j < k → l[j]? = some b → p b.toNat = true) → (∀ b, l[k]? = some b → p b.toNat = false) → k = rn p l
  | [], k, h, _, _ => by simpa [rn] using h
  | c :: r, 0, _, _, h2 => by
    have := h2 c (by simp)
    unfold rn
    rw [if_neg (by rw [this]; decide)]
  | c :: r, k + 1, h, h1, h2 => by
    have hc := h1 0 c (by omega) (by simp)
    unfold rn
    rw [if_pos hc]
    have := rn_is (p := p) (l := r) (k := k) (by simpa using h) (fun j b hj hb => h1 (j + 1) b (by omega) (by simpa using hb)) (fun b hb => h2 b (by simpa using hb))
    omega
theorem rn_all {p : Nat → Bool} : ∀ {l : List UInt8}, (∀ c ∈ l, p c.toNat = true) → rn p l = l.length
  | [], _ => rfl
  | c :: r, h => by
    unfold rn
    rw [if_pos (h c (by simp)), rn_all fun c hc => h c (by simp [hc])]
    simp
theorem rn_full {p : Nat → Bool} : ∀ {l : List UInt8}, rn p l = l.length → ∀ c ∈ l, p c.toNat = true
  | [], _, c, hc => by cases hc
  | x :: r, h, c, hc => by
    have hle := rn_le p r
    unfold rn at h
    by_cases hx : p x.toNat = true
    · rw [if_pos hx] at h
      rcases List.mem_cons.1 hc with rfl | hc
      · exact hx
      · exact rn_full (by simpa using h) c hc
    · rw [if_neg hx] at h
      simp at h

/-! ### Numerals -/
def In64 (n : Int) : Prop := -9223372036854775808 ≤ n ∧ n ≤ 9223372036854775807
/-- The number that ParseInt returns. -/
def pI (l : List UInt8) : Int := match parseIntB 64 l with | .ok v => v | .syntax => 0 | .range => intSat 64 l
/-- Whether it reports an error. -/
def pE (l : List UInt8) : Bool := match parseIntB 64 l with | .ok _ => false | _ => true
theorem digit_toNat {u : Nat} (h : u < 10) : (UInt8.ofNat (48 + u)).toNat = 48 + u := by
  simp only [UInt8.toNat_ofNat']
  omega
theorem dec_unf (u : Nat) : decDigits u = if u < 10 then [UInt8.ofNat (48 + u)] else decDigits (u / 10) ++ [UInt8.ofNat (48 + u % 10)] := by
  rw [decDigits]
  by_cases h : u < 10 <;> simp [h]
theorem dec_bytes : ∀ (u : Nat) (c : UInt8), c ∈ decDigits u → 48 ≤ c.toNat ∧ c.toNat ≤ 57 := by
  intro u
  induction u using Nat.strongRecOn with
  | ind u ih =>
    intro c hc
    rw [dec_unf] at hc
    by_cases h : u < 10
    · rw [if_pos h] at hc
      obtain rfl := List.mem_singleton.1 hc
      rw [digit_toNat h]
      omega
    · rw [if_neg h] at hc
      rcases List.mem_append.1 hc with h1 | h1
      · exact ih (u / 10) (by omega) c h1
      · obtain rfl := List.mem_singleton.1 h1
        rw [digit_toNat (by omega)]
        omega
theorem dec_ne (u : Nat) : decDigits u ≠ [] := by
  rw [dec_unf]
  by_cases h : u < 10 <;> simp [h]
/-- The first digit is a zero only where there is no other. -/
theorem dec_head : ∀ (u : Nat), ∃ c r, decDigits u = c :: r ∧ (c.toNat = 48 → u = 0 ∧ r = []) := by
  intro u
  induction u using Nat.strongRecOn with
  | ind u ih =>
    by_cases h : u < 10
    · refine ⟨_, _, (dec_unf u).trans (if_pos h), ?_⟩
      rw [digit_toNat h]
      intro h0
      exact ⟨by omega, rfl⟩
    · obtain ⟨c, r, e, hz⟩ := ih (u / 10) (by omega)
      refine ⟨c, r ++ [UInt8.ofNat (48 + u % 10)], by rw [dec_unf, if_neg h, e]; rfl, fun h0 => ?_⟩
      have := (hz h0).1
      omega
theorem dec_len : ∀ (k u : Nat), u < 10 ^ (k + 1) → (decDigits u).length ≤ k + 1 := by
  intro k
  induction k with
  | zero =>
    intro u h
    rw [dec_unf, if_pos (by omega)]
    simp
  | succ k ih =>
    intro u h
    rw [dec_unf]
    by_cases h1 : u < 10
    · rw [if_pos h1]
      simp
    · rw [if_neg h1]
      have := ih (u / 10) (by rw [Nat.pow_succ] at h; omega)
      simp
      omega
/-- More digits, a greater number. -/
theorem dec_big : ∀ (k u : Nat), 10 ^ k ≤ u → k + 1 ≤ (decDigits u).length := by
  intro k
  induction k with
  | zero =>
    intro u h
    have := dec_ne u
    cases hd : decDigits u with
    | nil => exact absurd hd this
    | cons c r => simp
  | succ k ih =>
    intro u h
    have h1 : ¬ u < 10 := by
      have : 10 ^ 1 ≤ 10 ^ (k + 1) := Nat.pow_le_pow_right (by omega) (by omega)
      omega
    rw [dec_unf, if_neg h1]
    have := ih (u / 10) (by rw [Nat.pow_succ] at h; omega)
    simp
    omega
theorem pum_dec : ∀ (u : Nat) (r : List UInt8) {M : Nat}, u ≤ M → M ≤ 18446744073709551615 → parseUintM M 0 (decDigits u ++ r) = parseUintM M u r := by
  intro u
  induction u using Nat.strongRecOn with
  | ind u ih =>
    intro r M hu hM
    rw [dec_unf]
    by_cases h : u < 10
    · rw [if_pos h]
      show parseUintM M 0 (UInt8.ofNat (48 + u) :: r) = _
      rw [parseUintM, digit_toNat h, if_pos (by omega), if_neg (by omega), if_neg (by omega)]
      congr 1
      omega
    · rw [if_neg h, List.append_assoc, ih (u / 10) (by omega) _ (by omega) hM]
      show parseUintM M (u / 10) (UInt8.ofNat (48 + u % 10) :: r) = _
      rw [parseUintM, digit_toNat (by omega), if_pos (by omega), if_neg (by omega), if_neg (by omega)]
      congr 1
      omega
theorem pub_dec {u : Nat} (h : u ≤ 18446744073709551615) : parseUintB 64 (decDigits u) = .ok u := by
  have := pum_dec u [] (M := 2 ^ 64 - 1) (by omega) (by omega)
  rw [List.append_nil] at this
  unfold parseUintB
  rw [if_neg (dec_ne u), this]
  rfl
theorem pib_itoa {n : Int} (h : In64 n) : parseIntB 64 (itoa n) = .ok n := by
  unfold In64 at h
  unfold itoa
  by_cases hn : n < 0
  · rw [if_pos hn]
    unfold parseIntB
    simp only [show (45 : UInt8).toNat = 45 from rfl, or_true, if_true, pub_dec (u := n.natAbs) (by omega), not_true_eq_false, false_and, if_false, true_and]
    rw [if_neg (by omega)]
    congr 1
    omega
  · rw [if_neg hn]
    have hne := dec_ne n.toNat
    have hb := dec_bytes n.toNat
    have hp := pub_dec (u := n.toNat) (by omega)
    generalize decDigits n.toNat = l at hne hb hp ⊢
    cases l with
    | nil => exact absurd rfl hne
    | cons c r =>
      have := hb c (by simp)
      unfold parseIntB
      have h1 : ¬ (c.toNat = 43 ∨ c.toNat = 45) := by omega
      have h2 : ¬ c.toNat = 45 := by omega
      dsimp only
      rw [if_neg h1, hp]
      simp only [h2, if_false, not_false_eq_true, true_and, false_and]
      rw [if_neg (by omega)]
      congr 1
      omega
theorem pI_itoa {n : Int} (h : In64 n) : pI (itoa n) = n ∧ pE (itoa n) = false := by
  unfold pI pE
  rw [pib_itoa h]
  exact ⟨rfl, rfl⟩

/-! ### The first byte of a kind -/
/-- The place of the first byte q, or the length. -/
def sp (q : UInt8) : List UInt8 → Nat
  | [] => 0
  | c :: r => if c = q then 0 else sp q r + 1
theorem sp_le (q : UInt8) : ∀ l, sp q l ≤ l.length
  | [] => Nat.le_refl _
  | c :: r => by
    have := sp_le q r
    unfold sp
    split <;> simp <;> omega
theorem index_sl (q : UInt8) : ∀ l : List UInt8, index l [q] = if sp q l < l.length then (sp q l : Int) else -1
  | [] => by simp [index, sp]
  | c :: r => by
    have ih := index_sl q r
    unfold index sp
    by_cases hc : c = q
    · subst hc; simp
    · have h1 : ([q] : List UInt8).isPrefixOf (c :: r) = false := by
        simp [List.isPrefixOf]
        exact fun h => hc h.symm
      rw [h1, ih, if_neg hc]
      by_cases h2 : sp q r < r.length
      · have h3 : ((sp q r : Int) == -1) = false := by rw [beq_eq_false_iff_ne]; omega
        simp [h2, h3]
      · simp [h2]
theorem cut_sl (q : UInt8) (l : List UInt8) : cut l [q] = if sp q l < l.length then (l.take (sp q l), l.drop (sp q l + 1), true) else (l, [], false) := by
  unfold cut
  rw [index_sl]
  by_cases h : sp q l < l.length
  · simp [h]
  · simp [h]

/-! ### Tokens -/
/-- What a reading of the beginning gives: kind, text, number, length, error. -/
structure FT where
  k : Int
  t : List UInt8
  n : Int
  len : Nat
  e : Int
def wordF (l : List UInt8) : FT := if 40 < rn pWd l then ⟨0, [], 0, 0, 4⟩ else ⟨1, l.take (rn pWd l), 0, rn pWd l, 0⟩
/-- The number of bytes of a sign in front. -/
def sg : List UInt8 → Nat
  | c :: _ => if c = 45 then 1 else 0
  | [] => 0
def wellF (d : List UInt8) (neg : Bool) : Bool := match d with
  | [] => false
  | c :: r => c != 48 || (r.isEmpty && !neg)
def numF (l : List UInt8) : FT :=
  if wellF ((l.drop (sg l)).take (rn pDg (l.drop (sg l)))) (decide (0 < sg l)) = false ∨ (∃ c, (l.drop (sg l))[rn pDg (l.drop (sg l))]? = some c ∧ pWd c.toNat = true) then ⟨0, [], 0, 0, 2⟩
  else if pE (l.take (sg l + rn pDg (l.drop (sg l)))) = true ∨ pI (l.take (sg l + rn pDg (l.drop (sg l)))) < -1000000000000000 ∨ 1000000000000000 < pI (l.take (sg l + rn pDg (l.drop (sg l)))) then ⟨0, [], 0, 0, 6⟩
  else ⟨2, [], pI (l.take (sg l + rn pDg (l.drop (sg l)))), sg l + rn pDg (l.drop (sg l)), 0⟩
end Go.Proofs.YtcbphahdodjbiaaDoor
