/- Count, Add. -/
import Derived.Test.YtbhkbhaepefdgaaDoorSpI
namespace Go.Proofs.YtbhkbhaepefdgaaDoor
open Go.RowKit

theorem countL_bound (zs : List Iv) (h : OkL zs) : 0 ≤ countL zs ∧ countL zs ≤ (zs.length : Int) * 2000000000001 := by
  rcases list_snoc zs with rfl | ⟨ys, y, rfl⟩
  · simp [countL]
  · have ih := countL_bound ys (fun x hx => h x (by simp [hx]))
    have := h y (by simp)
    rw [countL_snoc, List.length_append, List.length_singleton]
    omega
termination_by zs.length
decreasing_by simp_all

theorem own_form {w : World} {base : Nat} {v : Value} {xs : List Iv} (h : OwnIv w base v xs) : ∃ A c, v = .slice A xs.length c ∧ Lies w w.heap.size A xs := by
  obtain ⟨A, c, hv, _, hL⟩ := OwnIv.slice h
  exact ⟨A, c, hv, hL⟩

set_option maxHeartbeats 1000000 in
theorem count_ok (v : Value) (xs : List Iv) (B : Nat) (w : World) (hx : SliceIv w B v xs) (hB : B ≤ w.heap.size) (h1 : xs.length ≤ 10000) (he : errAll xs = 0) :
    Calls Tryd.prog 25 #[v] w fun e w' => ∃ zs, e = .returned (.tuple #[.int .i64 (countL zs), .int .i64 0]) ∧ NF zs ∧ (∀ n, memL n zs ↔ memL n xs) ∧ Below w.heap.size w w' := by
  have HX := Lib.hid hx
  have HE := Lib.hid he
  have HK := Lib.hid (errAll_zero.1 he)
  clear he
  obtain ⟨A, c, rfl, _, _⟩ := hx
  go_enter Tryd.func25, Tryd.ntmps25
  go_wp2_with fail
  refine (checkLists_any [(_, xs)] _ _ (w.heap.size + 1) _ (LiesLL.one HX.out hB _ _ rfl) (by simp) (by simp) (by rw [catL_one]; omega) (by simpa using h1)).mono ?_
  rw [catL_one, HE.out]
  rintro e w1 ⟨rfl, hb1⟩
  have hb1' : Below w.heap.size w w1 := ((Below.refl _ _).alloc (Nat.le_refl _) _).trans (hb1.mono (by simp))
  go_wp2_with fail
  refine (normal_any [(_, xs)] _ _ (w1.heap.size + 1) _ (LiesLL.one (HX.out.below hb1' hB) (by have := hb1'.size; omega) _ _ rfl) (by simp) (by simp) (by rw [catL_one]; omega) (by rw [catL_one]; exact HK.out)).mono ?_
  rw [catL_one]
  rintro e w2 ⟨u, zs, rfl, n1, n2, n3, hown, hb2⟩
  have hb2' : Below w.heap.size w w2 := (hb1'.alloc hb1'.size _).trans (hb2.mono (by have := hb1'.size; simp; omega))
  have HZ := Lib.hid (n1.ok n2 HK.out)
  have HN := Lib.hid (And.intro n1 n2)
  have hzl : zs.length ≤ 10000 := by omega
  obtain ⟨A2, cc, rfl, hlz⟩ := own_form hown
  have HL := Lib.hid hlz
  clear hown n1 n2 hlz
  go_wp2_with fail
  go_loopw [5, 18] (fun n i wr => ∃ k : Nat, k ≤ zs.length ∧ i = .int .i64 k ∧ n = .int .i64 (countL (zs.take k)) ∧ Below w2.heap.size w2 wr) (fun _ i _ => zs.length - (intOf i).toNat)
  case atStart => exact ⟨0, Nat.zero_le _, rfl, rfl, Below.refl _ _⟩
  case round =>
    obtain ⟨k, hk, rfl, rfl, hbw⟩ := hrel
    by_cases hlt : k < zs.length
    · obtain ⟨g, o, rfl, hg, hcell⟩ := (HL.out.below hbw (Nat.le_refl _)) (by omega)
      obtain ⟨c1, c2⟩ := hcell k hlt
      clear hcell
      have hb := countL_bound (zs.take k) (fun x hx => HZ.out x (List.mem_of_mem_take hx))
      have hkl : ((zs.take k).length : Int) ≤ 10000 := by have := List.length_take_le k zs; omega
      have HC : Hid (countL (zs.take (k + 1)) = countL (zs.take k) + ((zs.getD k (0, 0)).2 - (zs.getD k (0, 0)).1 + 1)) := by unfold Hid; rw [take_snoc' zs k hlt, countL_snoc]
      have hx := HZ.out (zs.getD k (0, 0)) (by rw [List.getD_eq_getElem?_getD, List.getElem?_eq_getElem hlt]; exact List.getElem_mem hlt)
      generalize zs.getD k (0, 0) = a at c1 c2 HC hx
      obtain ⟨a1, a2⟩ := a
      simp only at c1 c2 HC hx
      obtain ⟨x1, x2, x3⟩ := hx
      have Hlen : Hid (lenIv a1 a2 = a2 - a1 + 1) := if_pos (errAll_zero.2 (fun x hx => by rw [List.mem_singleton] at hx; subst hx; exact ⟨x1, x2, x3⟩))
      obtain ⟨m, hm⟩ : ∃ m, m = countL (zs.take k) := ⟨_, rfl⟩
      rw [← hm] at hb HC ⊢
      have HM := Lib.hid hm
      clear hm
      have hb0 : 0 ≤ m := hb.1
      have hb3 : m ≤ 20000000000010000 := by omega
      clear hb
      go_wp2_with fail
      refine (length_any a1 a2 _).mono ?_
      rw [Hlen.out]
      rintro e w3 ⟨rfl, hb4⟩
      go_wp2_with fail
      go_roundw
      case rel => exact ⟨k + 1, by omega, by go_num, by rw [HC.out], (hbw.alloc hbw.size _).trans (hb4.mono (by have := hbw.size; simp; omega))⟩
      case measure => simp [intOf]; omega
    · have hkn : k = zs.length := by omega
      subst hkn
      rw [List.take_length]
      go_wp2_with fail
      go_ret2
      exact ⟨zs, rfl, HN.out.1, HN.out.2, hb2'.trans (hbw.mono hb2'.size)⟩

def resIv (s : Iv) : Iv × Int := if bad s = true then ((0, 0), 6) else (s, 0)
theorem inRange_res (a b : Int) (w : World) :
    Calls Tryd.prog 47 #[.agg #[.int .i64 a, .int .i64 b]] w fun e w' => e = .returned (.tuple #[.agg #[.int .i64 (resIv (a, b)).1.1, .int .i64 (resIv (a, b)).1.2], .int .i64 (resIv (a, b)).2]) ∧ Below w.heap.size w w' := by
  unfold resIv
  cases h : bad (a, b) with
  | true => exact inRange_bad a b h w
  | false => exact inRange_ok a b h w
theorem result_res (a b : Int) (w : World) :
    Calls Tryd.prog 51 #[.agg #[.int .i64 a, .int .i64 b]] w fun e w' => e = .returned (.tuple #[.agg #[.int .i64 (resIv (a, b)).1.1, .int .i64 (resIv (a, b)).1.2], .int .i64 (resIv (a, b)).2]) ∧ Below w.heap.size w w' := by
  unfold resIv
  cases h : bad (a, b) with
  | true => exact result_bad a b h w
  | false => exact result_ok a b h w

set_option maxHeartbeats 1000000 in
theorem add_ok (a b c d : Int) (w : World) (he : errAll [(a, b), (c, d)] = 0) :
    Calls Tryd.prog 13 #[.agg #[.int .i64 a, .int .i64 b], .agg #[.int .i64 c, .int .i64 d]] w fun e w' =>
      e = .returned (.tuple #[.agg #[.int .i64 (resIv (a + c, b + d)).1.1, .int .i64 (resIv (a + c, b + d)).1.2], .int .i64 (resIv (a + c, b + d)).2]) ∧ Below w.heap.size w w' := by
  have HE := Lib.hid he
  obtain ⟨x1, x2, x3⟩ := errAll_zero.1 he (a, b) (by simp)
  obtain ⟨y1, y2, y3⟩ := errAll_zero.1 he (c, d) (by simp)
  simp only at x1 x2 x3 y1 y2 y3
  clear he
  have HR := fun W => inRange_res (a + c) (b + d) W
  obtain ⟨r1, hr1⟩ : ∃ r, r = (resIv (a + c, b + d)).1.1 := ⟨_, rfl⟩
  obtain ⟨r2, hr2⟩ : ∃ r, r = (resIv (a + c, b + d)).1.2 := ⟨_, rfl⟩
  obtain ⟨r3, hr3⟩ : ∃ r, r = (resIv (a + c, b + d)).2 := ⟨_, rfl⟩
  rw [← hr1, ← hr2, ← hr3] at HR ⊢
  clear hr1 hr2 hr3
  have H := Lib.hid HR
  clear HR
  go_enter Tryd.func13, Tryd.ntmps13
  go_wp2_with fail
  refine (checkAll_any [(a, b), (c, d)] _ _ (w.heap.size + 1 + 1 + 1 + 1) _ (lies_two (((w.alloc _).alloc _).alloc _) (a, b) (c, d) _ _ (by simp)) (by simp) (by simp)).mono ?_
  rw [HE.out]
  rintro e w1 ⟨rfl, hb1⟩
  obtain ⟨hc1, hf1⟩ := bcell hb1
  have hz1 : w.heap.size + 3 < w1.heap.size := by have := hb1.size; simp at this; omega
  have hb1' : Below w.heap.size w w1 := (((((Below.refl _ _).alloc (Nat.le_refl _) _).alloc (by simp) _).alloc (by simp; omega) _).alloc (by simp; omega) _).trans (hb1.mono (by simp; omega))
  go_wp2_with fail
  refine (H.out _).mono ?_
  rintro e w2 ⟨rfl, hb2⟩
  have hc2 : ∀ o, w2.cell? ⟨w.heap.size + 2, o, none⟩ = w1.cell? ⟨w.heap.size + 2, o, none⟩ := fun o => hb2.cell (p := ⟨w.heap.size + 2, o, none⟩) (by show w.heap.size + 2 < _; omega)
  have hf2 : ∀ o, w2.frozen? ⟨w.heap.size + 2, o, none⟩ = w1.frozen? ⟨w.heap.size + 2, o, none⟩ := fun o => hb2.frozen (p := ⟨w.heap.size + 2, o, none⟩) (by show w.heap.size + 2 < _; omega)
  have hz2 : w.heap.size + 3 < w2.heap.size := by have := hb2.size; omega
  go_wp2_with fail
  exact bodyPost_ret (v := .tuple #[.agg #[.int .i64 r1, .int .i64 r2], .int .i64 r3]) (by simp [results, Tryd.results13, go_sem, hc2, hc1]) rfl ⟨rfl, ((hb1'.trans (hb2.mono hb1'.size)).setCell (by show w.heap.size ≤ w.heap.size + 1 + 1; omega) _).setCell (by show w.heap.size ≤ w.heap.size + 1 + 1; omega) _⟩
end Go.Proofs.YtbhkbhaepefdgaaDoor
