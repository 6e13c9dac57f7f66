/- ends of the reference. -/
import Derived.Test.YtbhkbhaepefdgaaDoorSqD
import Derived.Test.YtbhkbhaepefdgaaDoorSqA
import Derived.Deep.RegionHeld3
namespace Go.Proofs.YtbhkbhaepefdgaaDoor
open Go.RowKit

theorem e2 {w0 w1 w2 : World} {p q : Addr} {a b : Value} (hp : p.block < w0.heap.size) (hq : q.block < w0.heap.size) (h : w1.cell? p = some a ∧ w1.cell? q = some b ∧ Below w0.heap.size w0 w1) (hb : Below w1.heap.size w1 w2) :
    w2.cell? p = some a ∧ w2.cell? q = some b ∧ Below w0.heap.size w0 w2 := by
  have hs := h.2.2.size
  exact ⟨(hb.cell (by omega)).trans h.1, (hb.cell (by omega)).trans h.2.1, h.2.2.trans (hb.mono hs)⟩
theorem e2d {w0 w1 : World} {p q : Addr} {a b : Value} (h : w1.cell? p = some a ∧ w1.cell? q = some b ∧ Below w0.heap.size w0 w1) :
    w1.drew.cell? p = some a ∧ w1.drew.cell? q = some b ∧ Below w0.heap.size w0 w1.drew := ⟨h.1, h.2.1, h.2.2.drew⟩
theorem endsL_len (xs : List Iv) (k : Nat) (h : k ≤ xs.length) : (endsL (xs.take k)).length ≤ 2 * k ∧ Incr (endsL (xs.take k)) := by
  have hl : (xs.take k).length = k := by rw [List.length_take]; omega
  obtain ⟨h1, _, h3⟩ := endsL_good k (xs.take k) hl
  exact ⟨h3, h1⟩

set_option maxRecDepth 20000 in
set_option maxHeartbeats 2000000 in
theorem ends_any (xs : List Iv) (v : Value) (B : Nat) (w : World) (hL : SliceIv w B v xs) (hB : B ≤ w.heap.size) (hm : xs.length ≤ 100000) (hO : OkL xs) :
    Calls Tryd.prog 86 #[v] w fun e w' => ∃ u, e = .returned u ∧ SliceN w' w'.heap.size u (endsL xs) ∧ Below w.heap.size w w' := by
  obtain ⟨A, c, rfl, _, hL⟩ := hL
  have HL := Lib.hid hL
  have HO := Lib.hid hO
  clear hL hO
  go_enter Tryd.func86, Tryd.ntmps86
  go_wp2_with fail
  go_loopw [3, 4] (fun o i wr => ∃ k : Nat, k ≤ xs.length ∧ i = .int .i64 k ∧ SliceN wr wr.heap.size o (endsL (xs.take k)) ∧ Below w.heap.size w wr) (fun _ i _ => xs.length - (intOf i).toNat)
  case atStart => exact ⟨0, Nat.zero_le _, rfl, OwnN.slice (World.ownsRow_made w #[] 0 (Nat.le_refl _) (by unfold maxLen; omega) rfl : OwnN (w.alloc (.cells #[] 3)) w.heap.size (.slice (some ⟨w.heap.size, 0, none⟩) 0 0) []), (Below.refl _ _).alloc (Nat.le_refl _) _⟩
  case round =>
    obtain ⟨k, hk, rfl, hs, hbw⟩ := hrel
    by_cases hlt : k < xs.length
    · obtain ⟨g, o, rfl, hg, hcell⟩ := (HL.out.below hbw hB) (by omega)
      obtain ⟨c1, c2⟩ := hcell k hlt
      clear hcell
      have HJ : Hid (endsL (xs.take (k + 1)) = insL (insL (endsL (xs.take k)) (xs.getD k (0, 0)).1) ((xs.getD k (0, 0)).2 + 1)) := by unfold Hid; rw [take_snoc' xs k hlt, endsL_snoc]
      have hx := HO.out (xs.getD k (0, 0)) (getD_memIv hlt)
      obtain ⟨hzl, hzi⟩ := endsL_len xs k hk
      generalize xs.getD k (0, 0) = a at c1 c2 HJ hx
      obtain ⟨a1, a2⟩ := a
      simp only at c1 c2 HJ hx
      obtain ⟨x1, x2, x3⟩ := hx
      generalize endsL (xs.take k) = Z at hs hzl hzi HJ
      have hz1 := (insL_good a1 hzi).2.2
      have HI := Lib.hid hzi
      have HS := Lib.hid hs
      clear hs hzi
      have i1 : (0 : Int) ≤ (k : Int) := by omega
      have i2 : (k : Int) < (xs.length : Int) := by omega
      have i3 : IntKind.i64.wrap (a2 + 1) = a2 + 1 := IntWalk.i64_in _ (by omega)
      have hgw : g < wr.heap.size := by have := hbw.size; omega
      have HS1 : Hid (wr.cell? ⟨g, o + k * 2, none⟩ = some (.int .i64 a1) ∧ wr.cell? ⟨g, o + k * 2 + 1, none⟩ = some (.int .i64 a2) ∧ Below wr.heap.size wr wr) := ⟨c1, c2, Below.refl _ _⟩
      have H1 := Lib.hid (fun (v : Value) (hv : SliceN wr wr.heap.size v Z) (W : World) (h : W.cell? ⟨g, o + k * 2, none⟩ = some (.int .i64 a1) ∧ W.cell? ⟨g, o + k * 2 + 1, none⟩ = some (.int .i64 a2) ∧ Below wr.heap.size wr W) => putN_any Z a1 v wr.heap.size W (hv.below h.2.2 (Nat.le_refl _)) h.2.2.size (by omega))
      have H2 := Lib.hid (fun (W : World) (u : Value) (h : SliceN W W.heap.size u (insL Z a1)) => putN_any (insL Z a1) (a2 + 1) u W.heap.size W h (Nat.le_refl _) (by omega))
      go_wp2_with fail
      go_region_held3 (fun w' => w'.cell? ⟨g, o + k * 2, none⟩ = some (.int .i64 a1) ∧ w'.cell? ⟨g, o + k * 2 + 1, none⟩ = some (.int .i64 a2) ∧ Below wr.heap.size wr w')
        ((first | exact e2d HS1.out | exact e2 (p := ⟨g, _, none⟩) (q := ⟨g, _, none⟩) hgw hgw (by assumption) hb2 | exact e2 (p := ⟨g, _, none⟩) (q := ⟨g, _, none⟩) hgw hgw (e2d HS1.out) hb1 | fail))
        (first | (go_at_call 110; refine (H2.out _ u1 hs1).mono ?_; rintro e w2 ⟨u2, rfl, hs2, hb2⟩) | (go_at_call 110; refine (H1.out _ HS.out _ (by assumption)).mono ?_; rintro e w1 ⟨u1, rfl, hs1, hb1⟩))
      rename_i hH
      have HS2 := Lib.hid hs2
      clear hs1 hs2 hb1 hb2
      obtain ⟨_, _, hbb⟩ := hH
      clear i3
      go_wp2
      go_roundw
      case rel => exact ⟨k + 1, by omega, by go_num, by rw [HJ.out]; exact HS2.out, hbw.trans (hbb.mono hbw.size)⟩
      case measure => simp [intOf]; omega
    · have hkn : k = xs.length := by omega
      subst hkn
      rw [List.take_length] at hs
      have HS := Lib.hid hs
      clear hs
      go_wp2_with fail
      go_ret
      exact ⟨_, rfl, HS.out, hbw⟩
end Go.Proofs.YtbhkbhaepefdgaaDoor
