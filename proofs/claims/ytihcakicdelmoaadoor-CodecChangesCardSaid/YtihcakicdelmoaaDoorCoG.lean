/- Plain mathematics of the digest: different numbers have different digits; a step of the digest loses nothing. No program in sight. -/
import Derived.Test.YtihcakicdelmoaaDoorCoA
namespace Go.Proofs.YtihcakicdelmoaaDoor
open Go.RowKit

theorem dg_inj : ∀ {a b : Nat}, a < 16 → b < 16 → dg a = dg b → a = b := by
  have : ∀ a : Fin 16, ∀ b : Fin 16, dg a.1 = dg b.1 → a = b := by decide
  intro a b ha hb h
  exact congrArg Fin.val (this ⟨a, ha⟩ ⟨b, hb⟩ h)
theorem hexN_inj : ∀ n {a b : Nat}, a < 16 ^ n → b < 16 ^ n → hexN n a = hexN n b → a = b
  | 0, a, b, ha, hb, _ => by simp at ha hb; omega
  | n + 1, a, b, ha, hb, h => by
    have h' : hexN n (a / 16) ++ [dg (a % 16)] = hexN n (b / 16) ++ [dg (b % 16)] := h
    have hl : (hexN n (a / 16)).length = (hexN n (b / 16)).length := by rw [hexN_length, hexN_length]
    obtain ⟨h1, h2⟩ := List.append_inj h' hl
    have e1 := hexN_inj n (Nat.div_lt_of_lt_mul (by rw [Nat.pow_succ] at ha; omega)) (Nat.div_lt_of_lt_mul (by rw [Nat.pow_succ] at hb; omega)) h1
    have e2 := dg_inj (Nat.mod_lt a (by omega)) (Nat.mod_lt b (by omega)) (by simpa using h2)
    omega
theorem strOf_inj {a b : List UInt8} (h : strOf a = strOf b) : a = b := by
  have := congrArg (fun s => s.data.toList) h
  simpa [strOf] using this

theorem wrapU (x : Int) : IntKind.u64.wrap x = x % 18446744073709551616 := by
  simp only [IntKind.wrap, IntKind.bits, IntKind.signed]
  simp
theorem xorN (a b : Nat) (ha : a < 18446744073709551616) (hb : b < 18446744073709551616) : bits .xor .u64 (a : Int) (b : Int) = ((a ^^^ b : Nat) : Int) := by
  have hx : a ^^^ b < 2 ^ 64 := Nat.xor_lt_two_pow (by omega) (by omega)
  have h1 : (BitVec.ofInt 64 (a : Int)).toNat = a := by
    rw [BitVec.ofInt_natCast, BitVec.toNat_ofNat]; exact Nat.mod_eq_of_lt (by omega)
  have h2 : (BitVec.ofInt 64 (b : Int)).toNat = b := by
    rw [BitVec.ofInt_natCast, BitVec.toNat_ofNat]; exact Nat.mod_eq_of_lt (by omega)
  show IntKind.u64.wrap ((BitVec.ofInt 64 (a : Int) ^^^ BitVec.ofInt 64 (b : Int)).toNat : Int) = _
  rw [BitVec.toNat_xor, h1, h2, IntKind.wrap_u64]
  omega
/-- The rotation, as a number. -/
def rotQ (h : Nat) : Nat := 128 * (h % 144115188075855872) + h / 144115188075855872
theorem rotQ_lt {h : Nat} (hh : h < 18446744073709551616) : rotQ h < 18446744073709551616 := by unfold rotQ; omega
theorem rotQ_inj {h h' : Nat} (hh : h < 18446744073709551616) (hh' : h' < 18446744073709551616) (e : rotQ h = rotQ h') : h = h' := by
  have a1 : h / 144115188075855872 < 128 := by clear e; omega
  have a2 : h' / 144115188075855872 < 128 := by clear e; omega
  unfold rotQ at e
  rw [← Nat.div_add_mod h 144115188075855872, ← Nat.div_add_mod h' 144115188075855872]
  clear hh hh'
  generalize h / 144115188075855872 = q at *
  generalize h' / 144115188075855872 = q' at *
  generalize h % 144115188075855872 = r at *
  generalize h' % 144115188075855872 = r' at *
  have : r = r' ∧ q = q' := by omega
  rw [this.1, this.2]
theorem rotN (h : Nat) (hh : h < 18446744073709551616) : rotI (h : Int) = ((rotQ h : Nat) : Int) := by
  unfold rotI rotQ
  rw [wrapU, show ((h : Int) * 128 % 18446744073709551616) = ((128 * (h % 144115188075855872) : Nat) : Int) by omega, show ((h : Int) / 144115188075855872) = ((h / 144115188075855872 : Nat) : Int) by omega, bits_or_u64_nat _ _ (by omega) (by omega)]
  congr 1
  exact (Nat.two_pow_add_eq_or_of_lt (i := 7) (by omega) _).symm
theorem xor_same {a b c : Nat} (h : a ^^^ c = b ^^^ c) : a = b := by
  have := congrArg (· ^^^ c) h
  simpa [Nat.xor_assoc] using this
theorem mul_same {x y : Int} (hx0 : 0 ≤ x) (hx : x < 18446744073709551616) (hy0 : 0 ≤ y) (hy : y < 18446744073709551616) (h : x * 18397679294719823053 % 18446744073709551616 = y * 18397679294719823053 % 18446744073709551616) : x = y := by
  have e : ∀ z : Int, 0 ≤ z → z < 18446744073709551616 → (z * 18397679294719823053 % 18446744073709551616) * 5725274745694666757 % 18446744073709551616 = z := by
    intro z h0 h1
    rw [Int.mul_emod, Int.emod_emod, ← Int.mul_emod, Int.mul_assoc]
    rw [show (18397679294719823053 : Int) * 5725274745694666757 = 18446744073709551616 * 5710046619856821070 + 1 by decide, Int.mul_add, Int.mul_one, Int.mul_left_comm, Int.add_comm, Int.add_mul_emod_self_left]
    exact Int.emod_eq_of_lt h0 h1
  rw [← e x hx0 hx, ← e y hy0 hy, h]
/-- A step loses nothing of the number, and nothing of the byte. -/
theorem digStep_same {h h' b b' : Nat} (hh : h < 18446744073709551616) (hh' : h' < 18446744073709551616) (hb : b < 256) (hb' : b' < 256) (e : digStep (h : Int) (b : Int) = digStep (h' : Int) (b' : Int)) :
    rotQ h ^^^ b = rotQ h' ^^^ b' := by
  have q1 := rotQ_lt hh
  have q2 := rotQ_lt hh'
  unfold digStep at e
  rw [rotN h hh, rotN h' hh', wrapU (b : Int), wrapU (b' : Int), Int.emod_eq_of_lt (by omega) (by omega), Int.emod_eq_of_lt (by omega) (by omega), xorN _ _ (by omega) (by omega), xorN _ _ (by omega) (by omega), wrapU, wrapU] at e
  have r1 : rotQ h ^^^ b < 2 ^ 64 := Nat.xor_lt_two_pow (by clear e; omega) (by clear e; omega)
  have r2 : rotQ h' ^^^ b' < 2 ^ 64 := Nat.xor_lt_two_pow (by clear e; omega) (by clear e; omega)
  generalize rotQ h ^^^ b = x at *
  generalize rotQ h' ^^^ b' = y at *
  have := mul_same (x := (x : Int)) (y := (y : Int)) (by clear e; omega) (by clear e; omega) (by clear e; omega) (by clear e; omega) e
  clear e
  omega
theorem digStep_h {h h' b : Nat} (hh : h < 18446744073709551616) (hh' : h' < 18446744073709551616) (hb : b < 256) (e : digStep (h : Int) (b : Int) = digStep (h' : Int) (b : Int)) : h = h' := by
  exact rotQ_inj hh hh' (xor_same (digStep_same hh hh' hb hb e))
theorem digStep_b {h b b' : Nat} (hh : h < 18446744073709551616) (hb : b < 256) (hb' : b' < 256) (e : digStep (h : Int) (b : Int) = digStep (h : Int) (b' : Int)) : b = b' := by
  have := digStep_same hh hh hb hb' e
  rw [Nat.xor_comm _ b, Nat.xor_comm _ b'] at this
  exact xor_same this
/-- The last mixing loses nothing. -/
theorem mix_same {h h' : Nat} (hh : h < 18446744073709551616) (hh' : h' < 18446744073709551616) (e : bits .xor .u64 (h : Int) ((h : Int) / 4294967296) = bits .xor .u64 (h' : Int) ((h' : Int) / 4294967296)) : h = h' := by
  rw [show ((h : Int) / 4294967296) = ((h / 4294967296 : Nat) : Int) by omega, show ((h' : Int) / 4294967296) = ((h' / 4294967296 : Nat) : Int) by omega, xorN _ _ (by omega) (by omega), xorN _ _ (by omega) (by omega)] at e
  have e' : h ^^^ (h / 4294967296) = h' ^^^ (h' / 4294967296) := by omega
  have top : h / 4294967296 = h' / 4294967296 := by
    have := congrArg (· >>> 32) e'
    simp only [Nat.shiftRight_xor_distrib] at this
    simp only [Nat.shiftRight_eq_div_pow] at this
    have z1 : h / 4294967296 / 2 ^ 32 = 0 := by omega
    have z2 : h' / 4294967296 / 2 ^ 32 = 0 := by omega
    rw [z1, z2] at this
    simpa using this
  rw [top] at e'
  exact xor_same e'

/-- One byte turned: the digests differ. -/
theorem digAt_nat (s : ByteArray) (k : Nat) : ∃ n : Nat, digAt s k = (n : Int) ∧ n < 18446744073709551616 := by
  have := digAt_range s k
  exact ⟨(digAt s k).toNat, by omega, by omega⟩
theorem digAt_same {s s' : ByteArray} (hsz : s'.size = s.size) (at' : Nat) (hsame : ∀ i (h : i < s.size), i ≠ at' → s'[i]'(by omega) = s[i]'h) : ∀ k, k ≤ at' → k ≤ s.size → digAt s' k = digAt s k
  | 0, _, _ => rfl
  | k + 1, h1, h2 => by
    rw [digAt_next s' k (by omega), digAt_next s k (by omega), digAt_same hsz at' hsame k (by omega) (by omega), hsame k (by omega) (by omega)]
theorem digAt_ne {s s' : ByteArray} (hsz : s'.size = s.size) (at' : Nat) (hat : at' < s.size) (hne : s'[at']'(by omega) ≠ s[at']'hat) (hsame : ∀ i (h : i < s.size), i ≠ at' → s'[i]'(by omega) = s[i]'h) : ∀ k, at' < k → k ≤ s.size → digAt s' k ≠ digAt s k
  | 0, h1, _ => absurd h1 (Nat.not_lt_zero _)
  | k + 1, h1, h2 => by
    intro e
    rw [digAt_next s' k (by omega), digAt_next s k (by omega)] at e
    obtain ⟨n, hn, hn1⟩ := digAt_nat s k
    obtain ⟨n', hn', hn1'⟩ := digAt_nat s' k
    by_cases hk : k = at'
    · subst hk
      rw [digAt_same hsz k hsame k (Nat.le_refl _) (by omega), hn] at e
      have := digStep_b hn1 (s'[k]'(by omega)).toNat_lt (s[k]'hat).toNat_lt e
      exact hne (UInt8.toNat_inj.1 this)
    · have ih := digAt_ne hsz at' hat hne hsame k (by omega) (by omega)
      rw [hsame k (by omega) hk, hn, hn'] at e
      have := digStep_h hn1' hn1 (s[k]'(by omega)).toNat_lt e
      exact ih (by rw [hn, hn', this])
theorem digest_ne {s s' : ByteArray} (hsz : s'.size = s.size) (at' : Nat) (hat : at' < s.size) (hne : s'[at']'(by omega) ≠ s[at']'hat) (hsame : ∀ i (h : i < s.size), i ≠ at' → s'[i]'(by omega) = s[i]'h) :
    strOf (hexN 16 (hashD s').toNat) ≠ strOf (hexN 16 (hashD s).toNat) := by
  intro e
  have hd := digAt_ne hsz at' hat hne hsame s.size hat (Nat.le_refl _)
  have r1 := xor_range (digAt s s.size) (digAt s s.size / 4294967296)
  have r2 := xor_range (digAt s' s'.size) (digAt s' s'.size / 4294967296)
  have h := hexN_inj 16 (by unfold hashD; omega) (by unfold hashD; omega) (strOf_inj e)
  have h' : hashD s' = hashD s := by unfold hashD at h ⊢; omega
  unfold hashD at h'
  rw [hsz] at h'
  obtain ⟨n, hn, hn1⟩ := digAt_nat s s.size
  obtain ⟨n', hn', hn1'⟩ := digAt_nat s' s.size
  rw [hn, hn'] at h'
  exact hd (by rw [hn, hn', mix_same hn1' hn1 h'])
end Go.Proofs.YtihcakicdelmoaaDoor
