/- Digest of both: the loops. -/
import Derived.Test.YtihcakicdelmoaaDoorProg
import Derived.WalkKit
import Derived.WalkSpells
import Derived.WalkLawsBesides
import Derived.BigQuiet
import Derived.Lib.Hide
import Derived.Deep.QuietTactic
import Derived.Deep.RegionHeld3
import Derived.Laws.Shifts
import Derived.Laws.Bits64b
namespace Go.Proofs.YtihcakicdelmoaaDoor
open Go.RowKit

theorem u64_range (x : Int) : 0 ≤ IntKind.u64.wrap x ∧ IntKind.u64.wrap x ≤ 18446744073709551615 := by
  simp only [IntKind.wrap, IntKind.bits, IntKind.signed]
  simp
  omega

theorem xor_range (a b : Int) : 0 ≤ bits BinOp.xor IntKind.u64 a b ∧ bits BinOp.xor IntKind.u64 a b ≤ 18446744073709551615 := by
  unfold bits
  exact u64_range _

/-- The hexadecimal digits. -/
def dgs : List UInt8 := [48, 49, 50, 51, 52, 53, 54, 55, 56, 57, 97, 98, 99, 100, 101, 102]
def dg (n : Nat) : UInt8 := dgs.getD n 0
theorem dg_extract (n : Nat) (h : n < 16) : ByteArray.extract { data := #[48, 49, 50, 51, 52, 53, 54, 55, 56, 57, 97, 98, 99, 100, 101, 102] } n (n + 1) = { data := #[dg n] } := by
  have : ∀ n : Fin 16, ByteArray.extract { data := #[48, 49, 50, 51, 52, 53, 54, 55, 56, 57, 97, 98, 99, 100, 101, 102] } n.1 (n.1 + 1) = { data := #[dg n.1] } := by decide
  exact this ⟨n, h⟩
theorem and15 (x : Int) (h0 : 0 ≤ x) (h1 : x ≤ 18446744073709551615) : bits BinOp.and IntKind.u64 x 15 = ((x.toNat % 16 : Nat) : Int) := by
  have := bits_and_u64_nat x.toNat 15 (by omega) (by omega)
  rw [Int.toNat_of_nonneg h0] at this
  have e : x.toNat &&& 15 = x.toNat % 16 := Nat.and_two_pow_sub_one_eq_mod x.toNat 4
  rw [← e]
  exact this
theorem nib (x : Int) (h0 : 0 ≤ x) (h1 : x ≤ 18446744073709551615) (m : Nat) : bits BinOp.and IntKind.u64 (x / 2 ^ (4 * m)) 15 = ((x.toNat / 16 ^ m % 16 : Nat) : Int) := by
  obtain ⟨n, rfl⟩ : ∃ n : Nat, x = n := ⟨x.toNat, by omega⟩
  have e0 : (2 : Nat) ^ (4 * m) = 16 ^ m := Nat.pow_mul 2 4 m
  have e : ((n : Int) / 2 ^ (4 * m)) = ((n / 16 ^ m : Nat) : Int) := by
    rw [← e0]
    simp
  have hle : n / 16 ^ m ≤ n := Nat.div_le_self _ _
  rw [show (n : Int).toNat = n from rfl]
  generalize n / 16 ^ m = q at e hle
  rw [e, and15 _ (by omega) (by omega)]
  rfl
/-- n digits of a number, the highest first. -/
def hexN : Nat → Nat → List UInt8
  | 0, _ => []
  | n + 1, h => hexN n (h / 16) ++ [dg (h % 16)]
theorem hexN_length : ∀ n h, (hexN n h).length = n
  | 0, _ => rfl
  | n + 1, h => by simp [hexN, hexN_length n]
def strOf (l : List UInt8) : ByteArray := ⟨l.toArray⟩

/-- One turn of the digest's number, and the number behind k bytes. -/
def rotI (h : Int) : Int := bits BinOp.or IntKind.u64 (IntKind.u64.wrap (h * 128)) (h / 144115188075855872)
def digStep (h b : Int) : Int := IntKind.u64.wrap (bits BinOp.xor IntKind.u64 (rotI h) (IntKind.u64.wrap b) * 18397679294719823053)
def digAt (s : ByteArray) : Nat → Int
  | 0 => 11400714819323198485
  | k + 1 => digStep (digAt s k) (if h : k < s.size then (s[k]'h).toNat else 0)
/-- The number of the digest. -/
def hashD (s : ByteArray) : Int := bits BinOp.xor IntKind.u64 (digAt s s.size) (digAt s s.size / 4294967296)
theorem strOf_snoc (l : List UInt8) (b : UInt8) : strOf l ++ { data := #[b] } = strOf (l ++ [b]) := by
  apply ByteArray.ext
  simp [strOf]
theorem below_dr {Z : Nat} {w w' : World} (h : Below Z w w') (n : Nat) : Below Z w (w'.drewN n) := ⟨h.os, h.tape, h.output, h.size, h.block⟩
theorem digAt_next (s : ByteArray) (k : Nat) (h : k < s.size) : digAt s (k + 1) = digStep (digAt s k) ((s[k]'h).toNat : Nat) := by
  show digStep _ _ = _
  rw [dif_pos h]
theorem digAt_range (s : ByteArray) : ∀ k, 0 ≤ digAt s k ∧ digAt s k ≤ 18446744073709551615
  | 0 => by constructor <;> (show _ ≤ _; unfold digAt; decide)
  | _ + 1 => u64_range _

set_option maxRecDepth 20000 in
set_option maxHeartbeats 2000000 in
theorem num_any (n : Int) (w : World) : Calls Tryd.prog 29 #[.int .i64 n] w fun e w' => e = .returned (.agg #[.int .i64 1, .int .i64 n, .string ByteArray.empty, .slice none 0 0]) ∧ Below w.heap.size w w' := by
  go_enter Tryd.func29, Tryd.ntmps29
  go_wp2_with fail
  exact bodyPost_ret (v := .agg #[.int .i64 1, .int .i64 n, .string ByteArray.empty, .slice none 0 0]) (by simp [results, Tryd.results29, go_sem]; rfl) rfl ⟨rfl, (Below.refl _ _).alloc (Nat.le_refl _) _⟩

set_option maxRecDepth 20000 in
set_option maxHeartbeats 2000000 in
theorem rot_any (h : Int) (w : World) : Calls Tryd.prog 48 #[.int .u64 h, .int .i64 7] w fun e w' => e = .returned (.int .u64 (rotI h)) ∧ Below w.heap.size w w' := by
  have hb : bits BinOp.and IntKind.u64 7 63 = 7 := by decide
  go_enter Tryd.func48, Tryd.ntmps48
  go_wp2_with fail
  go_ret
  exact ⟨rfl, Below.refl _ _⟩

set_option maxRecDepth 20000 in
set_option maxHeartbeats 2000000 in
theorem rdig_any (s : ByteArray) (hs : s.size ≤ 1000000000) (w : World) : Calls Tryd.prog 27 #[.string s] w fun e w' => e = .returned (.string (strOf (hexN 16 (hashD s).toNat))) ∧ Below w.heap.size w w' := by
  go_enter Tryd.func27, Tryd.ntmps27
  go_wp2_with fail
  go_loopw [3, 4] (fun x i wr => ∃ k : Nat, k ≤ s.size ∧ i = .int .i64 k ∧ x = .int .u64 (digAt s k) ∧ Below w.heap.size w wr) (fun _ i _ => s.size - (intOf i).toNat)
  case atStart => exact ⟨0, Nat.zero_le _, rfl, rfl, Below.refl _ _⟩
  case round =>
    obtain ⟨k, hk, rfl, rfl, hbw⟩ := hrel
    by_cases hlt : k < s.size
    · have i0 : (0 : Int) ≤ (k : Int) := by omega
      have i1 : (k : Int) < (s.size : Int) := by omega
      have HN := Lib.hid (digAt_next s k hlt)
      generalize digAt s k = h at HN ⊢
      go_wp2_with fail
      go_roundw
      case rel => exact ⟨k + 1, by omega, by go_num, by rw [HN.out]; rfl, hbw⟩
      case measure => simp [intOf]; omega
    · have hkn : k = s.size := by omega
      subst hkn
      have HR := Lib.hid (digAt_range s s.size)
      have HH : Hid (hashD s = bits BinOp.xor IntKind.u64 (digAt s s.size) (digAt s s.size / 4294967296)) := rfl
      generalize digAt s s.size = h at HR HH ⊢
      go_wp2_with fail
      have HX := Lib.hid (xor_range h (h / 4294967296))
      generalize bits BinOp.xor IntKind.u64 h (h / 4294967296) = H at HX HH ⊢
      go_loopw [5, 6] (fun x i wr => ∃ j : Nat, j ≤ 16 ∧ i = .int .i64 (60 - 4 * (j : Int)) ∧ x = .string (strOf (hexN j (H.toNat / 16 ^ (16 - j)))) ∧ Below w.heap.size w wr) (fun _ i _ => (intOf i + 4).toNat)
      case atStart => exact ⟨0, Nat.zero_le _, rfl, rfl, hbw⟩
      case round =>
        clear hbw
        obtain ⟨j, hj, rfl, rfl, hbw⟩ := hrel
        by_cases hlt : j < 16
        · have i0 : (0 : Int) ≤ 60 - 4 * (j : Int) := by omega
          have i1 : 60 - 4 * (j : Int) ≤ 60 := by omega
          have hsz : (strOf (hexN j (H.toNat / 16 ^ (16 - j)))).size = j := by show (hexN j _).toArray.size = j; simp [hexN_length]
          have HJ : Hid (hexN (j + 1) (H.toNat / 16 ^ (16 - (j + 1))) = hexN j (H.toNat / 16 ^ (16 - j)) ++ [dg (H.toNat / 16 ^ (15 - j) % 16)]) := by
            unfold Hid
            show hexN j (_ / 16) ++ [dg (_ % 16)] = _
            rw [Nat.div_div_eq_div_mul, ← Nat.pow_succ, show (16 - (j + 1)).succ = 16 - j by omega, show 16 - (j + 1) = 15 - j by omega]
          have hd : bits BinOp.and IntKind.u64 (H / 2 ^ (60 - 4 * (j : Int)).toNat) 15 = ((H.toNat / 16 ^ (15 - j) % 16 : Nat) : Int) := by rw [show (60 - 4 * (j : Int)).toNat = 4 * (15 - j) by omega]; exact nib H HX.out.1 HX.out.2 (15 - j)
          have d1 := Nat.mod_lt (H.toNat / 16 ^ (15 - j)) (show 16 > 0 by omega)
          generalize hexN j (H.toNat / 16 ^ (16 - j)) = L at HJ hsz ⊢
          generalize H.toNat / 16 ^ (15 - j) % 16 = d at HJ hd d1
          have HI := Lib.hid (show 60 - 4 * ((j + 1 : Nat) : Int) = 60 - 4 * (j : Int) - 4 by omega)
          generalize 60 - 4 * (j : Int) = i at i0 i1 hd HI ⊢
          generalize hdd : (d : Int) = D at hd
          have hx : ByteArray.extract { data := #[48, 49, 50, 51, 52, 53, 54, 55, 56, 57, 97, 98, 99, 100, 101, 102] } D.toNat (D + 1).toNat = { data := #[dg d] } := by
            rw [show D.toNat = d by omega, show (D + 1).toNat = d + 1 by omega]
            exact dg_extract d d1
          have d0 : 0 ≤ D := by omega
          have d1' : D < 16 := by omega
          clear hdd d1
          have hw : IntKind.u64.wrap (D + 1) = D + 1 := IntWalk.u64_in _ (by omega)
          have d2 : D ≤ D + 1 := by omega
          have d3 : D + 1 ≤ 16 := by omega
          have d4 : 0 ≤ D + 1 := by omega
          go_wp2_with fail
          go_quiet (fail)
          clear hx hd hw
          go_wp2_with fail
          go_roundw
          case rel => exact ⟨j + 1, by omega, by rw [HI.out], by rw [HJ.out]; exact congrArg Value.string (strOf_snoc L (dg d)), below_dr hbw _⟩
          case measure => simp [intOf]; omega
        · obtain rfl : j = 16 := by omega
          rw [show (60 - 4 * ((16 : Nat) : Int)) = -4 by omega]
          go_wp2_with fail
          go_ret
          exact ⟨by rw [HH.out]; simp, hbw⟩
end Go.Proofs.YtihcakicdelmoaaDoor
