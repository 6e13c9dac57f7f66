/- Layer 4 (fraction): the reference's division of numbers of 128 bits, bit by bit. -/
import Derived.Test.YtdjnnbjpaohaiaaDoorFrG
import Derived.Test.YtdjnnbjpaohaiaaDoorFrM
import Derived.Test.YtdjnnbjpaohaiaaDoorLpA
namespace Go.Proofs.YtdjnnbjpaohaiaaDoor
open Go.RowKit Go.Ev
set_option maxRecDepth 100000

theorem pow_pos' (n : Nat) : (0 : Int) < 2 ^ n := Int.pow_pos (by decide)
theorem bit_hi {x : Int} {i : Nat} (x0 : 0 ≤ x) (x1 : x < 340282366920938463463374607431768211456) (hi : 64 ≤ i) : hiW x / 2 ^ (i - 64) = x / 2 ^ i := by
  have e : hiW x = x / 18446744073709551616 := by unfold hiW; omega
  have : (2 : Int) ^ i = 18446744073709551616 * 2 ^ (i - 64) := by
    conv => lhs; rw [show i = 64 + (i - 64) by omega, Int.pow_add]
    rfl
  rw [e, this, Int.ediv_ediv_of_nonneg (by decide)]
theorem bit_lo {x : Int} {i : Nat} (hi : i < 64) : loW x / 2 ^ i % 2 = x / 2 ^ i % 2 := by
  have e : x = 2 ^ i * (2 * (2 ^ (63 - i) * (x / 18446744073709551616))) + loW x := by
    have : (2 : Int) ^ i * (2 * (2 ^ (63 - i) * (x / 18446744073709551616))) = 18446744073709551616 * (x / 18446744073709551616) := by
      have h : (2 : Int) ^ i * 2 ^ (63 - i) = 9223372036854775808 := by
        rw [← Int.pow_add, show i + (63 - i) = 63 by omega]; rfl
      have : (2 : Int) ^ i * (2 * (2 ^ (63 - i) * (x / 18446744073709551616))) = 2 * ((2 ^ i * 2 ^ (63 - i)) * (x / 18446744073709551616)) := by grind
      rw [this, h]; omega
    rw [this]; unfold loW; omega
  conv => rhs; rw [e]
  rw [Int.mul_add_ediv_left _ _ (Int.ne_of_gt (pow_pos' i))]
  omega
theorem and_one {a : Int} (a0 : 0 ≤ a) (a1 : a < 18446744073709551616) : bits .and .u64 a 1 = a % 2 := and_mask 1 a0 a1 (by decide)
theorem ediv_in {a b : Int} (a0 : 0 ≤ a) (a1 : a < 18446744073709551616) (hb : 0 < b) : 0 ≤ a / b ∧ a / b < 18446744073709551616 :=
  ⟨Int.ediv_nonneg a0 (by omega), by have := Int.ediv_le_self b a0; omega⟩

set_option maxHeartbeats 1000000 in
theorem rBit_any (x : Int) (p : Bool) (i : Int) (i0 : 0 ≤ i) (i1 : i ≤ 127) (x0 : 0 ≤ x) (x1 : x < 340282366920938463463374607431768211456) (w : World) :
    Calls Tryd.prog 79 #[wide3 x p, .int .i64 i] w fun e w' => e = .returned (.int .u64 (x / 2 ^ i.toNat % 2)) ∧ Below w.heap.size w w' := by
  unfold wide3
  obtain ⟨h0, h1⟩ := hiW_in x
  obtain ⟨l0, l1⟩ := loW_in x
  by_cases h : 64 ≤ i
  · obtain ⟨r0, r1⟩ := ediv_in h0 h1 (pow_pos' (i - 64).toNat)
    have e1 := and_one r0 r1
    have e2 : hiW x / 2 ^ (i - 64).toNat = x / 2 ^ i.toNat := by rw [show (i - 64).toNat = i.toNat - 64 by omega]; exact bit_hi x0 x1 (by omega)
    rw [e2] at e1
    have E1 := Lib.hid e1
    have E2 := Lib.hid e2
    clear e1 e2 r0 r1 x0 x1 h0 h1 l0 l1
    go_enter Tryd.func79, Tryd.ntmps79
    go_wp2_with fail
    go_ret
    exact ⟨by rw [E2.out, E1.out]; rfl, (Below.refl _ _).alloc (Nat.le_refl _) _⟩
  · have h' : (64 ≤ i) = False := by simp; omega
    obtain ⟨r0, r1⟩ := ediv_in l0 l1 (pow_pos' i.toNat)
    have e1 := and_one r0 r1
    rw [bit_lo (by omega)] at e1
    have E1 := Lib.hid e1
    clear e1 r0 r1 x0 x1 h0 h1 l0 l1
    go_enter Tryd.func79, Tryd.ntmps79
    go_wp2_with fail
    go_ret
    exact ⟨by rw [E1.out]; rfl, (Below.refl _ _).alloc (Nat.le_refl _) _⟩

/-! ### The division -/
theorem shl_hi (z b : Int) (b0 : 0 ≤ b) (b1 : b ≤ 1) : (hiW z * 2) % 18446744073709551616 + loW z / 9223372036854775808 = hiW (2 * z + b) := by unfold hiW loW; omega
theorem shl_lo (z b : Int) (b0 : 0 ≤ b) (b1 : b ≤ 1) : (loW z * 2) % 18446744073709551616 + b = loW (2 * z + b) := by unfold loW; omega
theorem hi_one (z : Int) : hiW (2 * z) = hiW (2 * z + 1) := by unfold hiW; omega
abbrev dvSym (x y q r i b m : Int) : Tm → Sym
  | .v 0 => intSym .u64 (hiW x)
  | .v 1 => intSym .u64 (loW x)
  | .v 2 => intSym .u64 (hiW y)
  | .v 3 => intSym .u64 (loW y)
  | .v 4 => intSym .u64 (hiW q)
  | .v 5 => intSym .u64 (loW q)
  | .v 6 => intSym .u64 (hiW r)
  | .v 7 => intSym .u64 (loW r)
  | .v 8 => intSym .i64 i
  | .v 10 => intSym .u64 ((hiW r * 2) % 18446744073709551616)
  | .v 11 => intSym .u64 (loW r / 9223372036854775808)
  | .v 12 => intSym .u64 (hiW (2 * r + b))
  | .v 13 => intSym .u64 ((loW r * 2) % 18446744073709551616)
  | .v 14 => intSym .u64 b
  | .v 15 => intSym .u64 (loW (2 * r + b))
  | .v 16 => intSym .u64 ((hiW q * 2) % 18446744073709551616)
  | .v 17 => intSym .u64 (loW q / 9223372036854775808)
  | .v 18 => intSym .u64 (hiW m)
  | .v 19 => intSym .u64 (loW (2 * q))
  | .v 20 => intSym .u64 (hiW (2 * r + b - y))
  | .v 21 => intSym .u64 (loW (2 * r + b - y))
  | .v 22 => intSym .u64 (loW (2 * q + 1))
  | .v 23 => intSym .i64 (i - 1)
  | _ => intSym .i64 0
abbrev dvCalls (p q t : Bool) : List KCall :=
  [(79, [.agg [.sy 0, .sy 1, .clo (.bool p)], .sy 8], .sy 14),
   (73, [.agg [.sy 2, .sy 3, .clo (.bool q)], .agg [.sy 12, .sy 15, .clo (.bool false)]], .clo (.bool t))]
abbrev dvPlus : List KCall := [(55, [.agg [.sy 12, .sy 15, .clo (.bool false)], .agg [.sy 2, .sy 3, .clo (.bool true)]], .agg [.sy 20, .sy 21, .clo (.bool false)])]
abbrev dvOps : List KOp :=
  [(.bin .geq 3, [.sy 8, .clo (.int .i64 0)], .clo (.bool true)),
   (.bin .shl 45, [.sy 6, .clo (.int .u64 1)], .sy 10), (.bin .shr 45, [.sy 7, .clo (.int .u64 63)], .sy 11), (.bin .or 45, [.sy 10, .sy 11], .sy 12),
   (.bin .shl 45, [.sy 7, .clo (.int .u64 1)], .sy 13), (.bin .or 45, [.sy 13, .sy 14], .sy 15),
   (.bin .shl 45, [.sy 4, .clo (.int .u64 1)], .sy 16), (.bin .shr 45, [.sy 5, .clo (.int .u64 63)], .sy 17), (.bin .or 45, [.sy 16, .sy 17], .sy 18),
   (.bin .shl 45, [.sy 5, .clo (.int .u64 1)], .sy 19), (.bin .or 45, [.sy 19, .clo (.int .u64 1)], .sy 22), (.bin .sub 3, [.sy 8, .clo (.int .i64 1)], .sy 23)]
theorem shl1 (a : Int) : IntKind.u64.wrap (a * 2 ^ min (1 : Int).toNat IntKind.u64.bits) = a * 2 % 18446744073709551616 := by rw [IntKind.wrap_u64]; rfl
theorem shr63 (a : Int) : a / 2 ^ min (63 : Int).toNat IntKind.u64.bits = a / 9223372036854775808 := rfl
theorem dv_ops {x y q r i b m : Int} (b0 : 0 ≤ b) (b1 : b ≤ 1) (m0 : 2 * q ≤ m) (m1 : m ≤ 2 * q + 1) (i0 : 0 ≤ i) (i1 : i ≤ 127) : ∀ x' ∈ dvOps, OpIs Tryd.prog (dvSym x y q r i b m) x' := by
  obtain ⟨r0, r1⟩ := hiW_in r
  obtain ⟨r2, r3⟩ := loW_in r
  obtain ⟨q0, q1⟩ := hiW_in q
  obtain ⟨q2, q3⟩ := loW_in q
  have s1 := shl_hi r b b0 b1
  have s2 := shl_lo r b b0 b1
  have s3 := shl_hi q (m - 2 * q) (by omega) (by omega)
  rw [show 2 * q + (m - 2 * q) = m by omega] at s3
  have s4 := shl_lo q 0 (by decide) (by decide)
  have s5 := shl_lo q 1 (by decide) (by decide)
  intro x' hx
  simp only [dvOps, List.mem_cons, List.not_mem_nil, or_false] at hx
  rcases hx with rfl | rfl | rfl | rfl | rfl | rfl | rfl | rfl | rfl | rfl | rfl | rfl
  · exact ⟨[.int .i64 i, .int .i64 0], .bool true, rfl, rfl, tells_geq (by simpa using i0)⟩
  · exact ⟨[.int .u64 (hiW r), .int .u64 1], _, rfl, rfl, tells_shl (by decide) (shl1 _)⟩
  · exact ⟨[.int .u64 (loW r), .int .u64 63], _, rfl, rfl, tells_shr (by decide) (shr63 _)⟩
  · exact ⟨[.int .u64 _, .int .u64 _], _, rfl, rfl, tells_or (by rw [or_apart 1 (by omega) (by omega) (by omega) (by omega) (by omega) (by omega)]; exact s1)⟩
  · exact ⟨[.int .u64 (loW r), .int .u64 1], _, rfl, rfl, tells_shl (by decide) (shl1 _)⟩
  · exact ⟨[.int .u64 _, .int .u64 _], _, rfl, rfl, tells_or (by rw [or_apart 1 (by omega) (by omega) (by omega) (by omega) (by omega) (by omega)]; exact s2)⟩
  · exact ⟨[.int .u64 (hiW q), .int .u64 1], _, rfl, rfl, tells_shl (by decide) (shl1 _)⟩
  · exact ⟨[.int .u64 (loW q), .int .u64 63], _, rfl, rfl, tells_shr (by decide) (shr63 _)⟩
  · exact ⟨[.int .u64 _, .int .u64 _], _, rfl, rfl, tells_or (by rw [or_apart 1 (by omega) (by omega) (by omega) (by omega) (by omega) (by omega)]; exact s3)⟩
  · exact ⟨[.int .u64 (loW q), .int .u64 1], .int .u64 (loW (2 * q)), rfl, rfl, tells_shl (by decide) (by rw [shl1]; simpa using s4)⟩
  · exact ⟨[.int .u64 (loW (2 * q)), .int .u64 1], _, rfl, rfl, tells_or (by rw [or_apart 1 (loW_in _).1 (loW_in _).2 (by decide) (by decide) (by unfold loW; omega) (by decide)]; unfold loW; omega)⟩
  · exact ⟨[.int .i64 i, .int .i64 1], _, rfl, rfl, tells_sub (by rw [IntKind.wrap_i64]; omega)⟩
theorem dv_calls {x y q r i b m : Int} {p s t : Bool} (x0 : 0 ≤ x) (x1 : x < 340282366920938463463374607431768211456) (y0 : 0 < y) (y1 : y < 170141183460469231731687303715884105728) (r0 : 0 ≤ r) (r1 : r < y) (b0 : 0 ≤ b) (b1 : b ≤ 1) (i0 : 0 ≤ i) (i1 : i ≤ 127)
    (hb : b = x / 2 ^ i.toNat % 2) (ht : decide (2 * r + b < y) = t) : ∀ x' ∈ dvCalls p s t, CallIs Tryd.prog (dvSym x y q r i b m) x' := by
  intro x' hx
  simp only [dvCalls, List.mem_cons, List.not_mem_nil, or_false] at hx
  rcases hx with rfl | rfl
  · exact ⟨[wide3 x p, .int .i64 i], .int .u64 b, rfl, rfl, fun w => by rw [hb]; exact rBit_any x p i i0 i1 x0 x1 w⟩
  · exact ⟨[wide3 y s, wide3 (2 * r + b) false], .bool t, rfl, rfl, fun w => (above_any y (2 * r + b) s false (by omega) (by omega) (by omega) (by omega) t ht w).mono fun e w' ⟨h1, c1, c2, h2⟩ => ⟨h1, by rw [h2]; exact ((Below.refl _ _).alloc (Nat.le_refl _) _).alloc (by simp) _⟩⟩
theorem dv_plus {x y q r i b m : Int} (y0 : 0 < y) (y1 : y < 170141183460469231731687303715884105728) (_ : 0 ≤ r) (r1 : r < y) (b0 : 0 ≤ b) (b1 : b ≤ 1) (ht : ¬ 2 * r + b < y) : ∀ x' ∈ dvPlus, CallIs Tryd.prog (dvSym x y q r i b m) x' := by
  intro x' hx
  simp only [dvPlus, List.mem_cons, List.not_mem_nil, or_false] at hx
  subst hx
  exact ⟨[wide3 (2 * r + b) false, wide3 y true], wide3 (2 * r + b - y) false, rfl, rfl, fun w => rPlus_less (2 * r + b) y false true rfl ht (by omega) (by omega) (by omega) (by omega) w⟩
theorem two128 : (2 : Int) ^ 128 = 340282366920938463463374607431768211456 := by decide
/-- A step of the division. -/
theorem dv_step {A y : Int} (y0 : 0 < y) :
    (2 * (A / 2 % y) + A % 2 < y → A / y = 2 * (A / 2 / y) ∧ A % y = 2 * (A / 2 % y) + A % 2) ∧ (¬ 2 * (A / 2 % y) + A % 2 < y → A / y = 2 * (A / 2 / y) + 1 ∧ A % y = 2 * (A / 2 % y) + A % 2 - y) := by
  have h1 := Int.mul_ediv_add_emod (A / 2) y
  have h2 := Int.emod_nonneg (A / 2) (Int.ne_of_gt y0)
  have h3 := Int.emod_lt_of_pos (A / 2) y0
  have h4 := Int.mul_ediv_add_emod A 2
  have h5 := Int.emod_nonneg A (b := 2) (by decide)
  have h6 := Int.emod_lt_of_pos A (b := 2) (by decide)
  constructor
  · intro h
    refine (Int.ediv_emod_unique y0).2 ⟨?_, by omega, h⟩
    rw [show y * (2 * (A / 2 / y)) = 2 * (y * (A / 2 / y)) by grind]; omega
  · intro h
    refine (Int.ediv_emod_unique y0).2 ⟨?_, by omega, by omega⟩
    rw [show y * (2 * (A / 2 / y) + 1) = 2 * (y * (A / 2 / y)) + y by grind]; omega
theorem pow_half (x : Int) (k : Nat) : x / 2 ^ (k + 1) = x / 2 ^ k / 2 := by
  rw [Int.pow_succ, ← Int.ediv_ediv_of_nonneg (Int.le_of_lt (pow_pos' k))]
abbrev dvT (i : CV) : List (Nat × CV) := [(2, .ptr 0 0), (3, .ptr 1 0), (4, .ptr 2 0), (5, .ptr 3 0), (6, .ptr 4 0), (7, .ptr 5 0), (8, i)]
abbrev blkW (a b : CV) (p : Bool) : Blk := ⟨[a, b, .clo (.bool p)], 50, none⟩
abbrev blk0 : Blk := blkW (.clo (.int .u64 0)) (.clo (.int .u64 0)) false
abbrev dvB (p q : Bool) (a b c d : CV) : List Blk := [blkW (.sy 0) (.sy 1) p, blkW (.sy 2) (.sy 3) q, blk0, blk0, blkW a b false, blkW c d false]
abbrev cellW (B : Nat) (z : Int) (p : Bool) : Nat × TypeId × List Value := (B, 50, [.int .u64 (hiW z), .int .u64 (loW z), .bool p])
abbrev ptrV (b : Nat) : Value := .pointer (some ⟨b, 0, none⟩)
abbrev valW (z : Int) (p : Bool) : TypeId × List Value := (50, [.int .u64 (hiW z), .int .u64 (loW z), .bool p])
abbrev val0 : TypeId × List Value := (50, [.int .u64 0, .int .u64 0, .bool false])
abbrev dv0 (x y : Int) (p q : Bool) : List (TypeId × List Value) := [valW x p, valW y q, val0, val0, val0, val0]
/-- The frame and the blocks of the division. -/
abbrev DvSt (B : Nat) (x y q r i : Int) (p s : Bool) : Act → World → Prop :=
  Fs 58 [(2, ptrV B), (3, ptrV (B + 1)), (4, ptrV (B + 2)), (5, ptrV (B + 3)), (6, ptrV (B + 4)), (7, ptrV (B + 5)), (8, .int .i64 i)]
    [cellW B x p, cellW (B + 1) y s, cellW (B + 2) 0 false, cellW (B + 3) 0 false, cellW (B + 4) q false, cellW (B + 5) r false]

set_option maxHeartbeats 1000000 in
theorem rDivide_any (x y : Int) (p q : Bool) (x0 : 0 ≤ x) (x1 : x < 340282366920938463463374607431768211456) (y0 : 0 < y) (y1 : y < 170141183460469231731687303715884105728) (w : World) :
    Calls Tryd.prog 65 #[wide3 x p, wide3 y q] w fun e w' => e = .returned (.tuple #[wide3 (x / y) false, wide3 (x % y) false]) ∧ Below w.heap.size w w' := by
  unfold wide3
  go_enter Tryd.func65, Tryd.ntmps65
  go_wp2_with fail
  rename_i Q' K hK
  refine wp_loop (fun a w' => ∃ k : Nat, k ≤ 128 ∧ DvSt w.heap.size x y (x / 2 ^ k / y) (x / 2 ^ k % y) ((k : Int) - 1) p q a w' ∧ Below w.heap.size w w') (fun a _ => (intOf (a.tmps.getD 8 undef) + 1).toNat) ?_ ?_
  · have e0 : x / 2 ^ 128 = 0 := Int.ediv_eq_zero_of_lt x0 (by rw [two128]; exact x1)
    have e1 : x / 2 ^ 128 / y = 0 := by rw [e0, Int.zero_ediv]
    have e2 : x / 2 ^ 128 % y = 0 := by rw [e0, Int.zero_emod]
    refine ⟨128, Nat.le_refl _, ⟨by simp, rfl, ?_, ?_⟩, ?_⟩
    · repeat' (first | exact List.forall_mem_nil _ | refine List.forall_mem_cons.2 ⟨rfl, ?_⟩)
    · rw [e1, e2]
      exact blks_allocs (dv0 x y p q) w
    · exact below_allocs (dv0 x y p q) (Below.refl _ w)
  · rintro a w' ⟨k, hk, hs, hb⟩
    have hnd : [w.heap.size, w.heap.size + 1, w.heap.size + 2, w.heap.size + 3, w.heap.size + 4, w.heap.size + 5].Nodup := by simp
    have hge : ∀ b ∈ [w.heap.size, w.heap.size + 1, w.heap.size + 2, w.heap.size + 3, w.heap.size + 4, w.heap.size + 5], w.heap.size ≤ b := by
      intro b hb; simp only [List.mem_cons, List.not_mem_nil, or_false] at hb; omega
    cases k with
    | zero =>
      rw [Int.pow_zero, Int.ediv_one] at hs
      refine code_fs (by kernel_rfl) (dvSym x y (x / y) (x % y) (((0 : Nat) : Int) - 1) 0 0) [] [(.bin .geq 3, [.sy 8, .clo (.int .i64 0)], .clo (.bool false))] (fun _ h => by cases h) ?_ 300 (dvT (.sy 8)) (dvB p q (.sy 4) (.sy 5) (.sy 6) (.sy 7)) (.exit 0) (dvT (.sy 8)) (memOf 0 (dvB p q (.sy 4) (.sy 5) (.sy 6) (.sy 7)))
        [w.heap.size, w.heap.size + 1, w.heap.size + 2, w.heap.size + 3, w.heap.size + 4, w.heap.size + 5] (fun u => by cases p <;> cases q <;> kernel_rfl) (by simp) hnd rfl rfl rfl rfl rfl hs ?_
      · intro z hz
        simp only [List.mem_cons, List.not_mem_nil, or_false] at hz
        subst hz
        exact ⟨[.int .i64 _, .int .i64 0], .bool false, rfl, rfl, tells_geq (by decide)⟩
      · intro a' w2 hs2 hn2
        have hb2 := hn2.below hb hge
        show K a' w2
        refine hK a' w2 ?_
        refine code_fs (by kernel_rfl) (dvSym x y (x / y) (x % y) (((0 : Nat) : Int) - 1) 0 0) [] [] (fun _ h => by cases h) (fun _ h => by cases h) 300 (dvT (.sy 8)) (dvB p q (.sy 4) (.sy 5) (.sy 6) (.sy 7)) .ret [(4, .ptr 2 0), (5, .ptr 3 0)] [(2, blkW (.sy 4) (.sy 5) false), (3, blkW (.sy 6) (.sy 7) false)]
          [w.heap.size, w.heap.size + 1, w.heap.size + 2, w.heap.size + 3, w.heap.size + 4, w.heap.size + 5] (fun u => by cases p <;> cases q <;> kernel_rfl) (by simp) hnd rfl rfl rfl rfl rfl hs2 ?_
        intro a3 w3 hs3 hn3
        have hb3 := hn3.below hb2 hge
        have h4 : a3.tmps.getD 4 undef = ptrV (w.heap.size + 2) := hs3.tmps (4, ptrV (w.heap.size + 2)) List.mem_cons_self
        have h5 : a3.tmps.getD 5 undef = ptrV (w.heap.size + 3) := hs3.tmps (5, ptrV (w.heap.size + 3)) (List.mem_cons_of_mem _ List.mem_cons_self)
        have h6 : w3.heap[w.heap.size + 2]? = some (.cells #[.int .u64 (hiW (x / y)), .int .u64 (loW (x / y)), .bool false] 50 (0, 0)) := hs3.blks (cellW (w.heap.size + 2) (x / y) false) List.mem_cons_self
        have h7 : w3.heap[w.heap.size + 3]? = some (.cells #[.int .u64 (hiW (x % y)), .int .u64 (loW (x % y)), .bool false] 50 (0, 0)) := hs3.blks (cellW (w.heap.size + 3) (x % y) false) (List.mem_cons_of_mem _ List.mem_cons_self)
        have h8 := hs3.defers
        clear hs3 hs2 hn2 hn3 hs
        rw [Array.getD_eq_getD_getElem?] at h4 h5
        show bodyPost Tryd.prog Tryd.f65 _ Exit.ret a3 w3
        have c1 := cell_at (i := 0) h6 rfl
        have c2 := cell_at (i := 1) h6 rfl
        have c3 := cell_at (i := 2) h6 rfl
        have c4 := cell_at (i := 0) h7 rfl
        have c5 := cell_at (i := 1) h7 rfl
        have c6 := cell_at (i := 2) h7 rfl
        simp [bodyPost, results, Tryd.results65, go_sem, h4, h5, c1, c2, c3, c4, c5, c6, h8]
        exact hb3
    | succ k =>
      have hi : ((k + 1 : Nat) : Int) - 1 = (k : Int) := by omega
      rw [hi, pow_half] at hs
      have hA := dv_step (A := x / 2 ^ k) y0
      have r0 := Int.emod_nonneg (x / 2 ^ k / 2) (Int.ne_of_gt y0)
      have r1 := Int.emod_lt_of_pos (x / 2 ^ k / 2) y0
      have b0 := Int.emod_nonneg (x / 2 ^ k) (b := 2) (by decide)
      have b1 : x / 2 ^ k % 2 ≤ 1 := by have := Int.emod_lt_of_pos (x / 2 ^ k) (b := 2) (by decide); omega
      have hbk : x / 2 ^ k % 2 = x / 2 ^ (k : Int).toNat % 2 := by rw [Int.toNat_natCast]
      generalize hAx : x / 2 ^ k = A at *
      generalize hq : A / 2 / y = Q at *
      generalize hr : A / 2 % y = R at *
      generalize hbb : A % 2 = b at *
      by_cases hlt : 2 * R + b < y
      · obtain ⟨g1, g2⟩ := hA.1 hlt
        refine code_fs (by kernel_rfl) (dvSym x y Q R k b (2 * Q)) (dvCalls p q true) dvOps (dv_calls x0 x1 y0 y1 r0 r1 b0 b1 (by omega) (by omega) hbk (by simpa using hlt)) (dv_ops b0 b1 (by omega) (by omega) (by omega) (by omega)) 300 (dvT (.sy 8)) (dvB p q (.sy 4) (.sy 5) (.sy 6) (.sy 7)) .normal (dvT (.sy 23)) (memOf 0 (dvB p q (.sy 18) (.sy 19) (.sy 12) (.sy 15)))
          [w.heap.size, w.heap.size + 1, w.heap.size + 2, w.heap.size + 3, w.heap.size + 4, w.heap.size + 5] (fun u => by cases p <;> cases q <;> kernel_rfl) (by simp) hnd rfl rfl rfl rfl rfl hs ?_
        intro a' w2 hs2 hn2
        refine ⟨⟨k, by omega, by rw [hAx, g1, g2]; exact hs2, hn2.below hb hge⟩, ?_⟩
        have h8 : a'.tmps.getD 8 undef = .int .i64 ((k : Int) - 1) := hs2.tmps (8, .int .i64 ((k : Int) - 1)) (List.mem_of_getElem? (i := 6) rfl)
        have h8' : a.tmps.getD 8 undef = .int .i64 (k : Int) := hs.tmps (8, .int .i64 (k : Int)) (List.mem_of_getElem? (i := 6) rfl)
        rw [h8, h8']
        simp only [intOf]; omega
      · obtain ⟨g1, g2⟩ := hA.2 hlt
        refine code_fs (by kernel_rfl) (dvSym x y Q R k b (2 * Q + 1)) (dvCalls p q false ++ dvPlus) dvOps (fun z hz => (List.mem_append.1 hz).elim (dv_calls x0 x1 y0 y1 r0 r1 b0 b1 (by omega) (by omega) hbk (by simpa using hlt) z) (dv_plus y0 y1 r0 r1 b0 b1 hlt z)) (dv_ops b0 b1 (by omega) (by omega) (by omega) (by omega)) 300 (dvT (.sy 8)) (dvB p q (.sy 4) (.sy 5) (.sy 6) (.sy 7)) .normal (dvT (.sy 23)) (memOf 0 (dvB p q (.sy 18) (.sy 22) (.sy 20) (.sy 21)))
          [w.heap.size, w.heap.size + 1, w.heap.size + 2, w.heap.size + 3, w.heap.size + 4, w.heap.size + 5] (fun u => by cases p <;> cases q <;> kernel_rfl) (by simp) hnd rfl rfl rfl rfl rfl hs ?_
        intro a' w2 hs2 hn2
        refine ⟨⟨k, by omega, by rw [hAx, g1, g2]; exact hs2, hn2.below hb hge⟩, ?_⟩
        have h8 : a'.tmps.getD 8 undef = .int .i64 ((k : Int) - 1) := hs2.tmps (8, .int .i64 ((k : Int) - 1)) (List.mem_of_getElem? (i := 6) rfl)
        have h8' : a.tmps.getD 8 undef = .int .i64 (k : Int) := hs.tmps (8, .int .i64 (k : Int)) (List.mem_of_getElem? (i := 6) rfl)
        rw [h8, h8']
        simp only [intOf]; omega
end Go.Proofs.YtdjnnbjpaohaiaaDoor
