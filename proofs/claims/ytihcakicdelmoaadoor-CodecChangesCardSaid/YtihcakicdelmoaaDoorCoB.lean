/- FormatUint to the base 16. -/
import Derived.Test.YtihcakicdelmoaaDoorCoA
import Derived.Laws.IdiomStrings
namespace Go.Proofs.YtihcakicdelmoaaDoor
open Go.RowKit

/-- The one cell of the library's table that is read. -/
def HasTab (w : World) : Prop := w.cell? ⟨3, 15, none⟩ = some (.int .u8 4)
theorem HasTab.lt {w : World} (h : HasTab w) : 3 < w.heap.size := World.block_lt_of_cell? w _ h
theorem HasTab.below {w w' : World} {B : Nat} (h : HasTab w) (hb : Below B w w') (hB : 3 < B) : HasTab w' := (hb.cell (p := ⟨3, 15, none⟩) hB).trans h

set_option maxRecDepth 20000 in
set_option maxHeartbeats 2000000 in
theorem pow2_16 (w : World) : Calls Tryd.prog 90 #[.int .i64 16] w fun e w' => e = .returned (.bool true) ∧ Below w.heap.size w w' := by
  have hb : bits BinOp.and IntKind.i64 16 15 = 0 := by decide
  go_enter Tryd.func90, Tryd.ntmps90
  go_wp2_with fail
  go_ret
  exact ⟨rfl, Below.refl _ _⟩

set_option maxRecDepth 20000 in
set_option maxHeartbeats 2000000 in
theorem tz64_16 (w : World) (hT : HasTab w) : Calls Tryd.prog 95 #[.int .u64 16] w fun e w' => e = .returned (.int .i64 4) ∧ Below w.heap.size w w' := by
  have hlt := hT.lt
  unfold HasTab at hT
  have hb : bits BinOp.and IntKind.u64 16 (IntKind.u64.wrap (-16)) = 16 := by decide
  have hw : IntKind.u64.wrap (16 * 285870213051353865) = 4573923408821661840 := by decide
  go_enter Tryd.func95, Tryd.ntmps95
  go_wp2_with fail
  go_ret
  exact ⟨rfl, Below.refl _ _⟩

set_option maxRecDepth 20000 in
set_option maxHeartbeats 2000000 in
theorem tz_16 (w : World) (hT : HasTab w) : Calls Tryd.prog 91 #[.int .u64 16] w fun e w' => e = .returned (.int .i64 4) ∧ Below w.heap.size w w' := by
  have H := Lib.hid (tz64_16 w hT)
  go_enter Tryd.func91, Tryd.ntmps91
  go_wp2_with fail
  refine H.out.mono ?_
  rintro e w1 ⟨rfl, hb⟩
  go_wp2_with fail
  go_ret
  exact ⟨rfl, hb⟩

theorem ha65 : Tryd.prog.underlying 139 = some (.array (Tryd.prog.arrayLen 139) (Tryd.prog.elem 139)) := by kernel_rfl
theorem hl65 : Tryd.prog.arrayLen 139 = 65 := by kernel_rfl
theorem hs65 (W : World) : (sizeOf (Tryd.prog.elem 139)).run Tryd.prog W = .ok 1 W := by kernel_rfl
theorem slice65 (b t : Nat) (ht : t ≤ 15) (W : World) : Sem.run Tryd.prog (Instr.sliceAt 139 (.pointer (some ⟨b, 0, none⟩)) (some (.int .i64 (65 - (t : Int) - 1))) none none) W = .ok (.slice (some ⟨b, 65 - t - 1, none⟩) (t + 1) (t + 1)) W := by
  have h := run_sliceAt_array_l (P := Tryd.prog) W 139 ⟨b, 0, none⟩ ha65 .i64 (65 - (t : Int) - 1) (by omega) (by rw [hl65]; omega)
  rw [hs65, hl65] at h
  have e1 : (65 - (t : Int) - 1).toNat = 65 - t - 1 := by omega
  have e2 : slicedAt ⟨b, 0, none⟩ (65 - (t : Int) - 1).toNat 65 65 1 = .slice (some ⟨b, 65 - t - 1, none⟩) (t + 1) (t + 1) := by
    unfold slicedAt
    rw [e1, if_neg (by omega), Nat.mul_one, show 65 - (65 - t - 1) = t + 1 by omega]
    simp [Addr.add_lit]
  have h2 : (Result.ok 1 W).andThen (fun s w => Result.ok (slicedAt ⟨b, 0, none⟩ (65 - (t : Int) - 1).toNat 65 65 s) w) = Result.ok (.slice (some ⟨b, 65 - t - 1, none⟩) (t + 1) (t + 1)) W := by
    show Result.ok (slicedAt _ _ 65 65 1) W = _
    rw [e2]
  exact h.trans h2
theorem hexN_cons : ∀ t h, hexN (t + 1) h = dg (h / 16 ^ t % 16) :: hexN t h
  | 0, h => by simp [hexN]
  | t + 1, h => by
    have ih := hexN_cons t (h / 16)
    show hexN (t + 1) (h / 16) ++ [dg (h % 16)] = _
    rw [ih, Nat.div_div_eq_div_mul, show 16 * 16 ^ t = 16 ^ (t + 1) by rw [Nat.pow_succ, Nat.mul_comm]]
    rfl
theorem hexN_pad : ∀ k m h, h < 16 ^ m → hexN (k + m) h = List.replicate k 48 ++ hexN m h
  | 0, m, h, _ => by simp
  | k + 1, m, h, hh => by
    rw [show k + 1 + m = k + m + 1 by omega, hexN_cons, hexN_pad k m h hh, Nat.div_eq_of_lt (Nat.lt_of_lt_of_le hh (Nat.pow_le_pow_right (by omega) (by omega)))]
    rfl
def encB (b : UInt8) : Value := .int .u8 (b.toNat : Int)
theorem digits_step {cur : Array Value} {t : Nat} {L : List UInt8} (hcs : cur.size = 65) (ht : t ≤ 15) (hcd : cur.toList.drop (65 - t) = L.map encB) (b : UInt8) :
    (cur.setIfInBounds (65 - t - 1) (encB b)).toList.drop (65 - (t + 1)) = (b :: L).map encB := by
  rw [Array.toList_setIfInBounds, show 65 - (t + 1) = 65 - t - 1 by omega, List.drop_set, if_neg (by omega), Nat.sub_self, List.map_cons, ← hcd]
  have hl : 65 - t - 1 < cur.toList.length := by simp [hcs]; omega
  rw [List.drop_eq_getElem_cons hl, show 65 - t - 1 + 1 = 65 - t by omega]
  rfl
theorem convert_back {W : World} {g t : Nat} {cur : Array Value} {ty : TypeId} {L : List UInt8} (hblk : W.heap[g]? = some (.cells cur ty (0, 0))) (hL : L.length = t + 1) (hcd : cur.toList.drop (65 - (t + 1)) = L.map encB) :
    Sem.run Tryd.prog (convert 56 9 (.slice (some ⟨g, 65 - t - 1, none⟩) (t + 1) (t + 1))) W = .ok (.string (strOf L)) W := by
  have h := run_convert_bytes_back (P := Tryd.prog) W 56 9 5 ⟨g, 65 - t - 1, none⟩ (t + 1) L Tryd.underlying56 Tryd.underlying5 Tryd.underlying9 (fun j hj => by
    rw [Addr.add_lit, cell_of_row W g _ cur _ _ hblk]
    have e : (cur.toList.drop (65 - (t + 1)))[j]? = (L.map encB)[j]? := by rw [hcd]
    rw [List.getElem?_drop, List.getElem?_map, List.getElem?_eq_getElem hj] at e
    rw [← Array.getElem?_toList, show 65 - t - 1 + j = 65 - (t + 1) + j by omega, e]
    rfl)
  rw [hL] at h
  exact h
theorem idx36 (n : Nat) (h : n < 16) (p : n < ByteArray.size { data := #[48, 49, 50, 51, 52, 53, 54, 55, 56, 57, 97, 98, 99, 100, 101, 102, 103, 104, 105, 106, 107, 108, 109, 110, 111, 112, 113, 114, 115, 116, 117, 118, 119, 120, 121, 122] }) :
    ({ data := #[48, 49, 50, 51, 52, 53, 54, 55, 56, 57, 97, 98, 99, 100, 101, 102, 103, 104, 105, 106, 107, 108, 109, 110, 111, 112, 113, 114, 115, 116, 117, 118, 119, 120, 121, 122] } : ByteArray)[n]'p = dg n := by
  match n, h with
  | 0, _ => rfl
  | 1, _ => rfl
  | 2, _ => rfl
  | 3, _ => rfl
  | 4, _ => rfl
  | 5, _ => rfl
  | 6, _ => rfl
  | 7, _ => rfl
  | 8, _ => rfl
  | 9, _ => rfl
  | 10, _ => rfl
  | 11, _ => rfl
  | 12, _ => rfl
  | 13, _ => rfl
  | 14, _ => rfl
  | 15, _ => rfl
  | n + 16, h => exact absurd h (by omega)
theorem sixteen (h t : Nat) (hh : h ≤ 18446744073709551615) (ht : t ≤ 15) : h / 16 ^ t ≤ 18446744073709551615 ∧ (16 ≤ h / 16 ^ t → t + 1 ≤ 15) := by
  refine ⟨Nat.le_trans (Nat.div_le_self _ _) hh, fun h16 => ?_⟩
  rcases Nat.lt_or_ge t 15 with h1 | h1
  · omega
  · obtain rfl : t = 15 := by omega
    have : h / 16 ^ 15 < 16 := Nat.div_lt_of_lt_mul (by omega)
    omega

set_option maxRecDepth 20000 in
set_option maxHeartbeats 2000000 in
theorem fmtBits_any (h : Int) (h0 : 0 ≤ h) (h1 : h ≤ 18446744073709551615) (w : World) (hT : HasTab w) : Calls Tryd.prog 81 #[.slice none 0 0, .int .u64 h, .int .i64 16, .bool false, .bool false] w fun e w' => (∃ t : Nat, t ≤ 15 ∧ h.toNat < 16 ^ (t + 1) ∧ e = .returned (.tuple #[.slice none 0 0, .string (strOf (hexN (t + 1) h.toNat))])) ∧ Below w.heap.size w w' := by
  go_enter Tryd.func81, Tryd.ntmps81
  go_wp2_with fail
  refine (pow2_16 _).mono ?_
  rintro e w1 ⟨rfl, hb1⟩
  go_wp2_with fail
  refine (tz_16 _ (hT.below (((Below.refl _ _).alloc (Nat.le_refl _) _).trans (hb1.mono (by simp))) hT.lt)).mono ?_
  rintro e w2 ⟨rfl, hb2⟩
  go_wp2_with fail
  have hblk0 : w2.heap[w.heap.size]? = some (.cells Tryd.zeroCells139 139 (0, 0)) :=
    (hb2.block w.heap.size (Nat.lt_of_lt_of_le (Nat.lt_of_lt_of_eq (Nat.lt_succ_self _) (Array.size_push ..).symm) hb1.size)).trans ((hb1.block w.heap.size (Nat.lt_of_lt_of_eq (Nat.lt_succ_self _) (Array.size_push ..).symm)).trans (heap_alloc_new w _))
  have hbw0 : Below w.heap.size w w2 := ((Below.refl _ _).alloc (Nat.le_refl _) _).trans ((hb1.mono (Nat.le_of_lt (Nat.lt_of_lt_of_eq (Nat.lt_succ_self _) (Array.size_push ..).symm))).trans (hb2.mono (Nat.le_trans (Nat.le_of_lt (Nat.lt_of_lt_of_eq (Nat.lt_succ_self _) (Array.size_push ..).symm)) hb1.size)))
  go_loopw [1, 13] (fun u i wr => ∃ (t n : Nat) (cur : Array Value), t ≤ 15 ∧ u = .int .u64 (n : Int) ∧ n = h.toNat / 16 ^ t ∧ i = .int .i64 (65 - (t : Int)) ∧ cur.size = 65 ∧ cur.toList.drop (65 - t) = (hexN t h.toNat).map encB ∧ wr.heap[w.heap.size]? = some (.cells cur 139 (0, 0)) ∧ Below w.heap.size w wr) (fun _ i _ => (intOf i).toNat)
  case atStart => exact ⟨0, h.toNat, _, by omega, by rw [Int.toNat_of_nonneg h0], by simp, rfl, by kernel_rfl, by kernel_rfl, hblk0, hbw0⟩
  case round =>
    obtain ⟨t, n, cur, ht, rfl, hn, rfl, hcs, hcd, hblk, hbw⟩ := hrel
    have hc : wr.cell? ⟨w.heap.size, 65 - t - 1, none⟩ = some (cur[65 - t - 1]'(by omega)) := by
      rw [cell_of_row wr _ _ cur _ _ hblk]
      simp
    have hf : wr.frozen? ⟨w.heap.size, 65 - t - 1, none⟩ = false := by simp [World.frozen?, hblk]
    have hbs : w.heap.size < wr.heap.size := (Array.getElem?_eq_some_iff.1 hblk).1
    have h16 := sixteen h.toNat t (by omega) ht
    rw [← hn] at h16
    have HN := Lib.hid hn
    have HX := Lib.hid (hexN_cons t h.toNat)
    rw [← hn] at HX
    have HCD := Lib.hid hcd
    have HB := Lib.hid hblk
    have i0 : (0 : Int) ≤ 65 - (t : Int) - 1 := by omega
    have i1 : 65 - (t : Int) - 1 < 65 := by omega
    clear hn hcd hblk hb1 hb2 hblk0 hbw0
    obtain ⟨hn1, hn2⟩ := h16
    by_cases hlt : 16 ≤ n
    · have hn3 := hn2 hlt
      have hb := and15 (n : Int) (by omega) (by omega)
      rw [Int.toNat_natCast] at hb
      have d1 := Nat.mod_lt n (show 16 > 0 by omega)
      have i2 : (16 : Int) ≤ (n : Int) := by omega
      generalize n % 16 = d at hb d1 HX
      have i3 : (d : Int) < 36 := by omega
      have i4 : d < 36 := by omega
      have hix := idx36 d d1
      clear hn2
      go_wp2_with fail
      refine ⟨⟨t + 1, n / 16, _, hn3, rfl, ?_, by rw [show 65 - (t : Int) - 1 = 65 - ((t + 1 : Nat) : Int) by omega], ?_, ?_, heap_setCell_same wr _ _ _ _ _ HB.out, hbw.setCell (Nat.le_refl _) _⟩, ?_⟩
      · rw [HN.out, Nat.div_div_eq_div_mul, Nat.pow_succ]
      · simpa using hcs
      · rw [HX.out]; exact digits_step hcs ht HCD.out (dg d)
      · simp [intOf]; omega
    · have hlt' : decide ((n : Int) ≥ 16) = false := by simp; omega
      have i2 : (n : Int) < 16 := by omega
      have i4 : n < 36 := by omega
      have hix := idx36 n (by omega)
      have hsl := fun W => slice65 w.heap.size t ht W
      rw [Nat.mod_eq_of_lt (by omega)] at HX
      have hblk1 := heap_setCell_same wr w.heap.size (65 - t - 1) cur 139 (encB (dg n)) HB.out
      have hcv := convert_back hblk1 (L := dg n :: hexN t h.toNat) (by simp [hexN_length]) (digits_step hcs ht HCD.out (dg n))
      unfold encB at hcv
      clear hblk1
      have HT := Lib.hid ht
      have HLT : Hid (h.toNat < 16 ^ (t + 1)) := by
        unfold Hid
        rw [Nat.pow_succ, Nat.mul_comm]
        exact (Nat.div_lt_iff_lt_mul (Nat.pow_pos (by omega))).1 (by rw [← HN.out]; omega)
      go_wp2_with fail
      go_ret2
      exact ⟨⟨t, HT.out, by have := (Int.toNat_lt h0).1 HLT.out; simpa using this, by rw [HX.out]; rfl⟩, hbw.setCell (Nat.le_refl _) _⟩

set_option maxRecDepth 20000 in
set_option maxHeartbeats 2000000 in
theorem ifmt_any (h : Int) (h0 : 0 ≤ h) (h1 : h ≤ 18446744073709551615) (w : World) (hT : HasTab w) : Calls Tryd.prog 68 #[.int .u64 h, .int .i64 16] w fun e w' => (∃ t : Nat, t ≤ 15 ∧ h.toNat < 16 ^ (t + 1) ∧ e = .returned (.string (strOf (hexN (t + 1) h.toNat)))) ∧ Below w.heap.size w w' := by
  have H := Lib.hid (fmtBits_any h h0 h1 w hT)
  go_enter Tryd.func68, Tryd.ntmps68
  go_wp2_with fail
  refine H.out.mono ?_
  rintro e w1 ⟨⟨t, ht, hlt, rfl⟩, hb⟩
  have HT := Lib.hid ht
  have HLT := Lib.hid hlt
  clear ht hlt
  go_wp2_with fail
  go_ret
  exact ⟨⟨t, HT.out, HLT.out, rfl⟩, hb⟩
set_option maxRecDepth 20000 in
set_option maxHeartbeats 2000000 in
theorem fmt_any (h : Int) (h0 : 0 ≤ h) (h1 : h ≤ 18446744073709551615) (w : World) (hT : HasTab w) : Calls Tryd.prog 49 #[.int .u64 h, .int .i64 16] w fun e w' => (∃ t : Nat, t ≤ 15 ∧ h.toNat < 16 ^ (t + 1) ∧ e = .returned (.string (strOf (hexN (t + 1) h.toNat)))) ∧ Below w.heap.size w w' := by
  have H := Lib.hid (ifmt_any h h0 h1 w hT)
  go_enter Tryd.func49, Tryd.ntmps49
  go_wp2_with fail
  refine H.out.mono ?_
  rintro e w1 ⟨⟨t, ht, hlt, rfl⟩, hb⟩
  have HT := Lib.hid ht
  have HLT := Lib.hid hlt
  clear ht hlt
  go_wp2_with fail
  go_ret
  exact ⟨⟨t, HT.out, HLT.out, rfl⟩, hb⟩
end Go.Proofs.YtihcakicdelmoaaDoor
