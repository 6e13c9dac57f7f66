/- The walk of SpanSound. -/
import Derived.Test.YtbhkbhaepefdgaaSpO
import Derived.Deep.RegionHeld3
namespace Go.Proofs.Ytbhkbhaepefdgaa
open Go.RowKit

/-- The numbers zs lie at the address A, below block B. -/
def LiesN (w : World) (B : Nat) (A : Option Addr) (zs : List Int) : Prop :=
  0 < zs.length → ∃ g o, A = some ⟨g, o, none⟩ ∧ g < B ∧ ∀ k, k < zs.length → w.cell? ⟨g, o + k, none⟩ = some (.int .i64 (zs.getD k 0))
theorem LiesN.below {w w' : World} {B B' : Nat} {A : Option Addr} {zs : List Int} (h : LiesN w B A zs) (hb : Below B' w w') (hB : B ≤ B') : LiesN w' B A zs := fun hn => by
  obtain ⟨g, o, hA, hg, hc⟩ := h hn
  exact ⟨g, o, hA, hg, fun k hk => (hb.cell (p := ⟨g, _, none⟩) (by show g < B'; omega)).trans (hc k hk)⟩

set_option maxHeartbeats 2000000 in
theorem spanSound_long (v : Value) (xs : List Iv) (B : Nat) (A2 : Option Addr) (c2 : Nat) (zs : List Int) (w : World) (hx : SliceIv w B v xs) (hlen : 30 < xs.length ∨ (xs.length ≤ 30 ∧ zs.length < xs.length)) :
    Calls Try.prog 5 #[v, .slice A2 zs.length c2] w fun e w' => e = .returned (.bool true) ∧ Below w.heap.size w w' := by
  obtain ⟨A, c, rfl, _, _⟩ := hx
  rcases hlen with hl | ⟨hl, hl2⟩
  · have hl' : (30 : Int) < (xs.length : Int) := by omega
    go_enter Try.func5, Try.ntmps5
    go_wp2_with fail
    refine (awake_any _).mono ?_
    rintro e w1 ⟨rfl, hb⟩
    go_wp2_with fail
    go_ret
    exact ⟨rfl, hb⟩
  · have hl' : ¬ (30 : Int) < (xs.length : Int) := by omega
    have hl2' : (zs.length : Int) < (xs.length : Int) := by omega
    go_enter Try.func5, Try.ntmps5
    go_wp2_with fail
    refine (awake_any _).mono ?_
    rintro e w1 ⟨rfl, hb⟩
    go_wp2_with fail
    go_ret
    exact ⟨rfl, hb⟩

theorem sumRes_err {xs : List Iv} (h : errAll xs ≠ 0) : sumRes xs = ((0, 0), errAll xs) := if_neg h
theorem sumRes_zero {xs : List Iv} (h : (sumRes xs).2 ≠ 0) : (sumRes xs).1 = (0, 0) := by
  unfold sumRes at h ⊢
  by_cases he : errAll xs = 0
  · rw [if_pos he] at h ⊢
    unfold resIv at h ⊢
    by_cases hb : bad (sumL xs) = true
    · rw [if_pos hb]
    · rw [if_neg hb] at h
      exact absurd rfl h
  · rw [if_neg he]

set_option maxHeartbeats 2000000 in
theorem spanSound_err (v : Value) (xs : List Iv) (B : Nat) (A2 : Option Addr) (c2 : Nat) (zs : List Int) (w : World) (hx : SliceIv w B v xs) (hB : B ≤ w.heap.size) (hl : xs.length ≤ 30) (hl2 : xs.length ≤ zs.length) (he : (sumRes xs).2 ≠ 0) :
    Calls Try.prog 5 #[v, .slice A2 zs.length c2] w fun e w' => e = .returned (.bool true) ∧ Below w.heap.size w w' := by
  have HX := Lib.hid hx
  have hS := fun W h hB => sum_any v xs B W h hB (by omega)
  rw [sumRes_zero he] at hS
  have hne : ((sumRes xs).2 != 0) = true := by simp [he]
  clear he
  generalize (sumRes xs).2 = r3 at hS hne
  have HS := Lib.hid hS
  clear hS
  have heq := fun (W : World) => eqIv0 0 0 0 0 W
  rw [show decide ((0 : Int) = 0 ∧ (0 : Int) = 0) = true by decide] at heq
  have HQ := Lib.hid heq
  clear heq
  obtain ⟨A, c, rfl, _, _⟩ := hx
  have hl' : ¬ (30 : Int) < (xs.length : Int) := by omega
  have hl2' : ¬ (zs.length : Int) < (xs.length : Int) := by omega
  go_enter Try.func5, Try.ntmps5
  go_wp2_with fail
  refine (awake_any _).mono ?_
  rintro e w1 ⟨rfl, hb⟩
  go_wp2_with fail
  refine (HS.out _ (HX.out.below hb hB) (by have := hb.size; omega)).mono ?_
  rintro e w2 ⟨rfl, hb2⟩
  have hb2' : Below w.heap.size w w2 := hb.trans (hb2.mono hb.size)
  have h11 := HQ.out
  go_wp2_with fail
  go_ret
  exact ⟨rfl, hb2'.alloc hb2'.size _⟩
theorem sumRes_ok {xs : List Iv} (h : (sumRes xs).2 = 0) : errAll xs = 0 ∧ sumRes xs = (sumL xs, 0) := by
  unfold sumRes at h ⊢
  by_cases he : errAll xs = 0
  · rw [if_pos he] at h ⊢
    unfold resIv at h ⊢
    by_cases hb : bad (sumL xs) = true
    · rw [if_pos hb] at h
      exact absurd h (by decide)
    · rw [if_neg hb]
      exact ⟨he, rfl⟩
  · rw [if_neg he] at h
    exact absurd h he

theorem keep3 {w w1 w2 : World} {p q r : Addr} {x y z : Value} (hp : p.block < w.heap.size) (hq : q.block < w.heap.size) (hr : r.block < w.heap.size) (h : w1.cell? p = some x ∧ w1.cell? q = some y ∧ w1.cell? r = some z ∧ Below w.heap.size w w1) (hb : Below w1.heap.size w1 w2) :
    w2.cell? p = some x ∧ w2.cell? q = some y ∧ w2.cell? r = some z ∧ Below w.heap.size w w2 := by
  obtain ⟨h1, h2, h3, h4⟩ := h
  have hs := h4.size
  exact ⟨(hb.cell (by omega)).trans h1, (hb.cell (by omega)).trans h2, (hb.cell (by omega)).trans h3, h4.trans (hb.mono hs)⟩
theorem keep3d {w w1 : World} {p q r : Addr} {x y z : Value} (h : w1.cell? p = some x ∧ w1.cell? q = some y ∧ w1.cell? r = some z ∧ Below w.heap.size w w1) :
    w1.drew.cell? p = some x ∧ w1.drew.cell? q = some y ∧ w1.drew.cell? r = some z ∧ Below w.heap.size w w1.drew := ⟨h.1, h.2.1, h.2.2.1, h.2.2.2.drew⟩

/-- What a choice picks of an interval. -/
def pick (a1 a2 z : Int) : Int := z % 18446744073709551616 % (a2 - a1 + 1)
theorem pick_bound (a1 a2 z : Int) (h : a1 ≤ a2) : 0 ≤ pick a1 a2 z ∧ pick a1 a2 z ≤ a2 - a1 := by
  unfold pick
  have h1 := Int.emod_nonneg (z % 18446744073709551616) (b := a2 - a1 + 1) (by omega)
  have h2 := Int.emod_lt_of_pos (z % 18446744073709551616) (b := a2 - a1 + 1) (by omega)
  omega

set_option maxHeartbeats 2000000 in
theorem spanSound_ok (v : Value) (xs : List Iv) (B : Nat) (A2 : Option Addr) (c2 : Nat) (zs : List Int) (w : World) (hx : SliceIv w B v xs) (hz : LiesN w B A2 zs) (hB : B ≤ w.heap.size) (hl : xs.length ≤ 30) (hl2 : xs.length ≤ zs.length) (he : (sumRes xs).2 = 0) :
    Calls Try.prog 5 #[v, .slice A2 zs.length c2] w fun e w' => e = .returned (.bool true) ∧ Below w.heap.size w w' := by
  have HX := Lib.hid hx
  have HZ := Lib.hid hz
  obtain ⟨herr, hsr⟩ := sumRes_ok he
  have hS := fun W h hB => sum_any v xs B W h hB (by omega)
  rw [hsr] at hS
  have HS := Lib.hid hS
  have HE := Lib.hid herr
  have HK := Lib.hid (errAll_zero.1 herr)
  clear hS hsr he herr
  obtain ⟨A, c, rfl, _, hLies⟩ := hx
  have HL := Lib.hid hLies
  clear hLies hz
  have hl' : ¬ (30 : Int) < (xs.length : Int) := by omega
  have hl2' : ¬ (zs.length : Int) < (xs.length : Int) := by omega
  go_enter Try.func5, Try.ntmps5
  go_wp2_with fail
  refine (awake_any _).mono ?_
  rintro e w1 ⟨rfl, hb⟩
  go_wp2_with fail
  refine (HS.out _ (HX.out.below hb hB) (by have := hb.size; omega)).mono ?_
  rintro e w2 ⟨rfl, hb2⟩
  have hb2' : Below w.heap.size w w2 := hb.trans (hb2.mono hb.size)
  simp only
  go_wp2_with fail
  refine (lists_any _ _ xs [] B _ (HX.out.below (hb2'.alloc hb2'.size _) hB) (nil_slice _ _) (by have := hb2'.size; simp; omega) (by omega) (by simp)).mono ?_
  rw [List.append_nil, HE.out]
  rintro e w3 ⟨rfl, hb3⟩
  have hb3' : Below w.heap.size w w3 := (hb2'.alloc hb2'.size _).trans (hb3.mono (by have := hb2'.size; simp; omega))
  have hr0 : w3.heap[w2.heap.size]? = some (.cells #[.int .i64 (sumL xs).1, .int .i64 (sumL xs).2] 23 (0, 0)) := (hb3.block w2.heap.size (by simp)).trans (heap_alloc_new w2 _)
  have HR0 := Lib.hid hr0
  have hz3 : w2.heap.size < w3.heap.size := (Array.getElem?_eq_some_iff.1 hr0).1
  clear hr0
  go_wp2_with fail
  have HL3 := Lib.hid (HL.out.below hb3' hB)
  have HZ3 := Lib.hid (HZ.out.below hb3' hB)
  go_loopw [7, 8, 9, 10] (fun s l h i wr => ∃ (k : Nat) (m : Int), k ≤ xs.length ∧ i = .int .i64 k ∧ s = .int .i64 m ∧ l = .int .i64 (sumL (xs.take k)).1 ∧ h = .int .i64 (sumL (xs.take k)).2 ∧ (sumL (xs.take k)).1 ≤ m ∧ m ≤ (sumL (xs.take k)).2 ∧ Below w3.heap.size w3 wr) (fun _ _ _ i _ => xs.length - (intOf i).toNat)
  case atStart => exact ⟨0, 0, Nat.zero_le _, rfl, rfl, rfl, rfl, Int.le_refl _, Int.le_refl _, Below.refl _ _⟩
  case round =>
    obtain ⟨k, m, hk, rfl, rfl, rfl, rfl, hm1, hm2, hbw⟩ := hrel
    by_cases hlt : k < xs.length
    · obtain ⟨g, o, rfl, hg, hcell⟩ := (HL3.out.below hbw (by have := hb3'.size; omega)) (by omega)
      obtain ⟨c1, c2⟩ := hcell k hlt
      obtain ⟨g2, o2, rfl, hg2, hcell2⟩ := (HZ3.out.below hbw (by have := hb3'.size; omega)) (by omega)
      have c3 := hcell2 k (by omega)
      clear hcell hcell2
      obtain ⟨a1, a2, s1, s2, e1, e2, e3, q1, q2, q3, q4, q5, q6, q7⟩ := sum_step HK.out (by omega) hlt
      rw [e1] at c1 c2
      rw [e2] at hm1 hm2
      rw [e2]
      simp only at hm1 hm2 c1 c2 ⊢
      generalize zs.getD k 0 = z at c3
      have HE3 := Lib.hid e3
      clear e1 e2 e3
      have hlen : Hid (lenIv a1 a2 = a2 - a1 + 1) := if_pos (errAll_zero.2 (fun x hx => by rw [List.mem_singleton] at hx; subst hx; exact ⟨q1, q2, q3⟩))
      have hcl := fun W => refLength_any a1 a2 W
      rw [hlen.out] at hcl
      obtain ⟨L, hL⟩ : ∃ L, L = a2 - a1 + 1 := ⟨_, rfl⟩
      rw [← hL] at hcl
      have HCL := Lib.hid hcl
      have HLL := Lib.hid hL
      have hL1 : 1 ≤ L := by omega
      have hL2 : L ≤ 2000000000001 := by omega
      clear hcl hlen hL
      obtain ⟨u, hu, hu0, hu2⟩ : ∃ u : Int, IntKind.u64.wrap z = u ∧ 0 ≤ u ∧ u ≤ 18446744073709551615 := ⟨_, rfl, by simp only [IntKind.wrap, IntKind.bits, IntKind.signed]; simp; omega, by simp only [IntKind.wrap, IntKind.bits, IntKind.signed]; simp; omega⟩
      obtain ⟨t, ht, ht0, ht1⟩ : ∃ t : Int, u.tmod L = t ∧ 0 ≤ t ∧ t < L := ⟨_, rfl, by rw [IntWalk.rem_in _ _ hu0]; exact Int.emod_nonneg _ (by omega), by rw [IntWalk.rem_in _ _ hu0]; exact Int.emod_lt_of_pos _ (by omega)⟩
      have k1 : IntKind.u64.wrap L = L := IntWalk.u64_in _ (by omega)
      have k2 : IntKind.u64.wrap t = t := IntWalk.u64_in _ (by omega)
      have k3 : IntKind.i64.wrap t = t := IntWalk.i64_in _ (by omega)
      have k4 : IntKind.i64.wrap (a1 + t) = a1 + t := IntWalk.i64_in _ (by omega)
      have k5 : IntKind.i64.wrap (m + (a1 + t)) = m + (a1 + t) := IntWalk.i64_in _ (by omega)
      have k6 : (L == 0) = false := by rw [beq_eq_false_iff_ne]; omega
      have k7 : ¬ L = 0 := by omega
      have k8 : u % L = t := by rw [← ht, IntWalk.rem_in _ _ hu0]
      have i0 : (0 : Int) ≤ (k : Int) := by omega
      have i1 : (k : Int) < (xs.length : Int) := by omega
      have i2 : (k : Int) < (zs.length : Int) := by omega
      have hS : wr.cell? ⟨g, o + k * 2, none⟩ = some (.int .i64 a1) ∧ wr.cell? ⟨g, o + k * 2 + 1, none⟩ = some (.int .i64 a2) ∧ wr.cell? ⟨g2, o2 + k, none⟩ = some (.int .i64 z) ∧ Below w3.heap.size w3 wr := ⟨c1, c2, c3, hbw⟩
      have HS1 := Lib.hid hS
      clear hS
      have hgw : g < w3.heap.size := by have := hb3'.size; omega
      have hgw2 : g2 < w3.heap.size := by have := hb3'.size; omega
      go_wp2_with fail
      go_region_held3 (fun w' => w'.cell? ⟨g, o + k * 2, none⟩ = some (.int .i64 a1) ∧ w'.cell? ⟨g, o + k * 2 + 1, none⟩ = some (.int .i64 a2) ∧ w'.cell? ⟨g2, o2 + k, none⟩ = some (.int .i64 z) ∧ Below w3.heap.size w3 w')
        ((first | exact keep3d HS1.out | exact keep3 (p := ⟨g, _, none⟩) (q := ⟨g, _, none⟩) (r := ⟨g2, _, none⟩) hgw hgw hgw2 (by assumption) (by assumption)))
        (first | (go_at_call 14; refine (HCL.out _).mono ?_; rintro e w' ⟨rfl, hbb⟩))
      rename_i hHeld
      obtain ⟨d1, d2, _, hbw'⟩ := hHeld
      clear hu ht k1 k2 k3 k4 k5 k6 k7 k8 hbb
      go_wp2_with fail
      go_roundw
      case rel =>
        refine ⟨k + 1, m + (a1 + t), by omega, by go_num, rfl, by rw [HE3.out], by rw [HE3.out], ?_, ?_, hbw'⟩
        · rw [HE3.out]; show s1 + a1 ≤ m + (a1 + t); omega
        · rw [HE3.out]; show m + (a1 + t) ≤ s2 + a2; have := HLL.out; omega
      case measure => simp [intOf]; omega
    · have hkn : k = xs.length := by omega
      subst hkn
      rw [List.take_length] at hm1 hm2 ⊢
      obtain ⟨s1, hs1⟩ : ∃ s, s = (sumL xs).1 := ⟨_, rfl⟩
      obtain ⟨s2, hs2⟩ : ∃ s, s = (sumL xs).2 := ⟨_, rfl⟩
      have hr1 := (hbw.block w2.heap.size hz3).trans HR0.out
      rw [← hs1, ← hs2] at hr1 ⊢
      rw [← hs1] at hm1
      rw [← hs2] at hm2
      obtain ⟨p1, p2, p3, p4⟩ := own2 hr1
      have hin : Hid (inIv s1 s2 m = true) := by unfold Hid inIv; simp [hm1, hm2]
      have hct := fun W => contains_any s1 s2 m W
      rw [hin.out] at hct
      have HCT := Lib.hid hct
      have hgz : w2.heap.size < wr.heap.size := by have := hbw.size; omega
      clear hct hin hr1 hs1 hs2
      go_wp2_with fail
      refine (HCT.out _).mono ?_
      rintro e w4 ⟨rfl, hb4⟩
      have g1 := (hb4.cell (p := ⟨w2.heap.size, 0, none⟩) hgz).trans p1
      have g2 := (hb4.cell (p := ⟨w2.heap.size, 1, none⟩) hgz).trans p2
      go_wp2_with fail
      go_ret
      exact ⟨rfl, hb3'.trans ((hbw.trans (hb4.mono hbw.size)).mono hb3'.size)⟩
theorem spanSound_any (v : Value) (xs : List Iv) (B : Nat) (A2 : Option Addr) (c2 : Nat) (zs : List Int) (w : World) (hx : SliceIv w B v xs) (hz : LiesN w B A2 zs) (hB : B ≤ w.heap.size) :
    Calls Try.prog 5 #[v, .slice A2 zs.length c2] w fun e w' => e = .returned (.bool true) ∧ Below w.heap.size w w' := by
  by_cases h1 : xs.length ≤ 30 ∧ xs.length ≤ zs.length
  · by_cases he : (sumRes xs).2 = 0
    · exact spanSound_ok v xs B A2 c2 zs w hx hz hB h1.1 h1.2 he
    · exact spanSound_err v xs B A2 c2 zs w hx hB h1.1 h1.2 he
  · exact spanSound_long v xs B A2 c2 zs w hx (by omega)
end Go.Proofs.Ytbhkbhaepefdgaa
