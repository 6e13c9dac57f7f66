/- Layer 4 (fraction): plain maths of texts: numerals, the first slash. -/
import Derived.Lib.ParseIntB
import Derived.Lib.ItoaNum
import Derived.Lib.IndexMore
import Derived.Test.YtdjnnbjpaohaiaaDoorFrN
namespace Go.Proofs.YtdjnnbjpaohaiaaDoor
open Go.Lib

/-- The number that ParseInt returns. -/
def pI (l : List UInt8) : Int := match parseIntB 64 l with | .ok v => v | .syntax => 0 | .range => intSat 64 l

theorem digit_toNat {u : Nat} (h : u < 10) : (UInt8.ofNat (48 + u)).toNat = 48 + u := by
  simp only [UInt8.toNat_ofNat']
  omega
theorem dec_unf (u : Nat) : decDigits u = if u < 10 then [UInt8.ofNat (48 + u)] else decDigits (u / 10) ++ [UInt8.ofNat (48 + u % 10)] := by
  rw [decDigits]
  by_cases h : u < 10 <;> simp [h]
theorem dec_bytes : ∀ (u : Nat) (c : UInt8), c ∈ decDigits u → 48 ≤ c.toNat ∧ c.toNat ≤ 57 := by
  intro u
  induction u using Nat.strongRecOn with
  | ind u ih =>
    intro c hc
    rw [dec_unf] at hc
    by_cases h : u < 10
    · rw [if_pos h] at hc
      obtain rfl := List.mem_singleton.1 hc
      rw [digit_toNat h]
      omega
    · rw [if_neg h] at hc
      rcases List.mem_append.1 hc with h1 | h1
      · exact ih (u / 10) (by omega) c h1
      · obtain rfl := List.mem_singleton.1 h1
        rw [digit_toNat (by omega)]
        omega
theorem dec_ne (u : Nat) : decDigits u ≠ [] := by
  rw [dec_unf]
  by_cases h : u < 10 <;> simp [h]
theorem dec_len : ∀ (k u : Nat), u < 10 ^ (k + 1) → (decDigits u).length ≤ k + 1 := by
  intro k
  induction k with
  | zero =>
    intro u h
    rw [dec_unf, if_pos (by omega)]
    simp
  | succ k ih =>
    intro u h
    rw [dec_unf]
    by_cases h1 : u < 10
    · rw [if_pos h1]
      simp
    · rw [if_neg h1]
      have := ih (u / 10) (by rw [Nat.pow_succ] at h; omega)
      simp
      omega
theorem pum_dec : ∀ (u : Nat) (r : List UInt8) {M : Nat}, u ≤ M → M ≤ 18446744073709551615 → parseUintM M 0 (decDigits u ++ r) = parseUintM M u r := by
  intro u
  induction u using Nat.strongRecOn with
  | ind u ih =>
    intro r M hu hM
    rw [dec_unf]
    by_cases h : u < 10
    · rw [if_pos h]
      show parseUintM M 0 (UInt8.ofNat (48 + u) :: r) = _
      rw [parseUintM, digit_toNat h, if_pos (by omega), if_neg (by omega), if_neg (by omega)]
      congr 1
      omega
    · rw [if_neg h, List.append_assoc, ih (u / 10) (by omega) _ (by omega) hM]
      show parseUintM M (u / 10) (UInt8.ofNat (48 + u % 10) :: r) = _
      rw [parseUintM, digit_toNat (by omega), if_pos (by omega), if_neg (by omega), if_neg (by omega)]
      congr 1
      omega
theorem pub_dec {u : Nat} (h : u ≤ 18446744073709551615) : parseUintB 64 (decDigits u) = .ok u := by
  have := pum_dec u [] (M := 2 ^ 64 - 1) (by omega) (by omega)
  rw [List.append_nil] at this
  unfold parseUintB
  rw [if_neg (dec_ne u), this]
  rfl
theorem pib_itoa {n : Int} (h : In64 n) : parseIntB 64 (itoa n) = .ok n := by
  unfold In64 at h
  unfold itoa
  by_cases hn : n < 0
  · rw [if_pos hn]
    unfold parseIntB
    simp only [show (45 : UInt8).toNat = 45 from rfl, or_true, if_true, pub_dec (u := n.natAbs) (by omega), not_true_eq_false, false_and, if_false, true_and]
    rw [if_neg (by omega)]
    congr 1
    omega
  · rw [if_neg hn]
    have hne := dec_ne n.toNat
    have hb := dec_bytes n.toNat
    have hp := pub_dec (u := n.toNat) (by omega)
    generalize decDigits n.toNat = l at hne hb hp ⊢
    cases l with
    | nil => exact absurd rfl hne
    | cons c r =>
      have := hb c (by simp)
      unfold parseIntB
      have h1 : ¬ (c.toNat = 43 ∨ c.toNat = 45) := by omega
      have h2 : ¬ c.toNat = 45 := by omega
      dsimp only
      rw [if_neg h1, hp]
      simp only [h2, if_false, not_false_eq_true, true_and, false_and]
      rw [if_neg (by omega)]
      congr 1
      omega
theorem pI_itoa {n : Int} (h : In64 n) : pI (itoa n) = n := by
  unfold pI
  rw [pib_itoa h]
theorem sat_in (l : List UInt8) : In64 (intSat 64 l) := by
  unfold intSat In64
  split <;> omega
theorem pib_in {l : List UInt8} {v : Int} (h : parseIntB 64 l = .ok v) : In64 v := by
  unfold parseIntB at h
  split at h
  · cases h
  · simp only at h
    split at h
    · cases h
    · cases h
    · split at h
      · cases h
      · split at h
        · cases h
        · rename_i g1 g2
          cases h
          unfold In64
          split <;> omega
theorem pI_in (l : List UInt8) : In64 (pI l) := by
  unfold pI
  split
  · rename_i h
    exact pib_in h
  · unfold In64; omega
  · exact sat_in l

/-! ### The first slash -/
/-- The place of the first slash, or the length. -/
def sp : List UInt8 → Nat
  | [] => 0
  | c :: r => if c = 47 then 0 else sp r + 1
theorem sp_le : ∀ l, sp l ≤ l.length
  | [] => Nat.le_refl _
  | c :: r => by
    have := sp_le r
    unfold sp
    split <;> simp <;> omega
theorem sp_at : ∀ {l : List UInt8}, sp l < l.length → l[sp l]? = some 47
  | [], h => absurd h (by simp)
  | c :: r, h => by
    unfold sp at h ⊢
    by_cases hc : c = 47
    · subst hc; simp
    · rw [if_neg hc] at h ⊢
      simpa using sp_at (l := r) (by simpa using h)
theorem sp_before : ∀ {l : List UInt8} {i : Nat}, i < sp l → l[i]? ≠ some 47
  | [], i, h => absurd h (by simp [sp])
  | c :: r, i, h => by
    unfold sp at h
    by_cases hc : c = 47
    · rw [if_pos hc] at h; omega
    · rw [if_neg hc] at h
      cases i with
      | zero => simpa using hc
      | succ i => simpa using sp_before (l := r) (i := i) (by omega)
theorem sp_app {a b : List UInt8} (h : ∀ c ∈ a, c ≠ 47) : sp (a ++ b) = a.length + sp b := by
  induction a with
  | nil => simp
  | cons c r ih =>
    rw [List.cons_append, sp, if_neg (h c (by simp)), ih fun c hc => h c (by simp [hc])]
    simp
    omega
theorem index_sl : ∀ l : List UInt8, index l [47] = if sp l < l.length then (sp l : Int) else -1
  | [] => by simp [index, sp]
  | c :: r => by
    have ih := index_sl r
    unfold index sp
    by_cases hc : c = 47
    · subst hc; simp
    · have h1 : ([47] : List UInt8).isPrefixOf (c :: r) = false := by
        simp [List.isPrefixOf]
        exact fun h => hc h.symm
      rw [h1, ih, if_neg hc]
      by_cases h2 : sp r < r.length
      · have h3 : ((sp r : Int) == -1) = false := by rw [beq_eq_false_iff_ne]; omega
        simp [h2, h3]
      · simp [h2]
theorem cut_sl (l : List UInt8) : cut l [47] = if sp l < l.length then (l.take (sp l), l.drop (sp l + 1), true) else (l, [], false) := by
  unfold cut
  rw [index_sl]
  by_cases h : sp l < l.length
  · simp [h]
  · simp [h]

/-- Numerator and denominator that a text has. -/
def psN (l : List UInt8) : Int := pI (l.take (sp l))
def psD (l : List UInt8) : Int := if sp l < l.length then pI (l.drop (sp l + 1)) else 1
theorem psN_in (l : List UInt8) : In64 (psN l) := pI_in _
theorem psD_in (l : List UInt8) : In64 (psD l) := by
  unfold psD
  split
  · exact pI_in _
  · unfold In64; omega
/-- The text of a fraction. -/
def txt (n d : Int) : List UInt8 := if d = 1 then itoa n else itoa n ++ 47 :: itoa d
theorem itoa_bytes {n : Int} : ∀ c ∈ itoa n, c ≠ 47 := by
  intro c hc h
  subst h
  unfold itoa at hc
  split at hc
  · rcases List.mem_cons.1 hc with h | h
    · cases h
    · have := dec_bytes _ _ h
      simp at this
  · have := dec_bytes _ _ hc
    simp at this
theorem sp_itoa (n : Int) : sp (itoa n) = (itoa n).length := by
  have := sp_app (b := []) (itoa_bytes (n := n))
  simpa [sp] using this
theorem sp_frac (n d : Int) : sp (itoa n ++ 47 :: itoa d) = (itoa n).length := by
  have := sp_app (b := 47 :: itoa d) (itoa_bytes (n := n))
  simpa [sp] using this
theorem psN_txt {n d : Int} (h : In64 n) : psN (txt n d) = n := by
  unfold psN txt
  split
  · rw [sp_itoa, List.take_length]
    exact pI_itoa h
  · rw [sp_frac, List.take_left]
    exact pI_itoa h
theorem psD_txt {n d : Int} (h : In64 d) : psD (txt n d) = d := by
  unfold psD txt
  split
  · rename_i h1
    rw [sp_itoa, if_neg (by omega)]
    exact h1.symm
  · rw [sp_frac, if_pos (by simp)]
    have : (itoa n ++ 47 :: itoa d).drop ((itoa n).length + 1) = itoa d := by
      rw [← List.drop_drop, List.drop_left]
      rfl
    rw [this]
    exact pI_itoa h
theorem itoa_len {n : Int} (h : n.natAbs < 1000000000000000000) : (itoa n).length ≤ 19 := by
  unfold itoa
  split
  · have := dec_len 17 n.natAbs (by omega)
    simp
    omega
  · have := dec_len 17 n.toNat (by omega)
    omega
theorem itoa_len64 {n : Int} (h : In64 n) : (itoa n).length ≤ 20 := by
  unfold In64 at h
  unfold itoa
  split
  · have := dec_len 18 n.natAbs (by omega)
    simp
    omega
  · have := dec_len 18 n.toNat (by omega)
    omega
theorem txt_len {n d : Int} (h : validF n d = true) : (txt n d).length ≤ 40 := by
  have := validF_t h
  have h1 := itoa_len (n := n) this.2.2.1
  have h2 := itoa_len (n := d) (by omega)
  unfold txt
  split
  · omega
  · simp
    omega
end Go.Proofs.YtdjnnbjpaohaiaaDoor
