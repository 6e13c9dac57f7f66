/- Set of the reference; Count of both. -/
import Derived.Test.YtbhkbhaepefdgaaDoorSqF
import Derived.Test.YtbhkbhaepefdgaaDoorSqG
namespace Go.Proofs.YtbhkbhaepefdgaaDoor
open Go.RowKit

theorem formL_ok {kind : Int} {xs ys : List Iv} (hk : kind = 1 ∨ kind = 2 ∨ kind = 3) (hx : OkL xs) (hy : OkL ys) : OkL (formL kind xs ys) := by
  obtain ⟨n1, n2, _⟩ := formL_good (a := xs) (b := ys) hk
  have some : ∀ n, memL n (formL kind xs ys) → memL n xs ∨ memL n ys := fun n hn => by
    have h := (n2 n).1 hn
    unfold inKind at h
    rw [← memB_iff, ← memB_iff]
    cases a : memB n xs with
    | true => exact .inl rfl
    | false =>
      cases b : memB n ys with
      | true => exact .inr rfl
      | false => rw [a, b, keepB_ff hk] at h; cases h
  intro z hz
  have hv := n1.1 z hz
  have r : ∀ n, memL n xs ∨ memL n ys → -1000000000000 ≤ n ∧ n ≤ 1000000000000 := by
    rintro n (⟨x, h, h1, h2⟩ | ⟨x, h, h1, h2⟩)
    · have := hx x h; omega
    · have := hy x h; omega
  have a := r z.1 (some z.1 ⟨z, hz, Int.le_refl _, hv⟩)
  have b := r z.2 (some z.2 ⟨z, hz, hv, Int.le_refl _⟩)
  omega

set_option maxHeartbeats 2000000 in
theorem set_any (xs ys : List Iv) (kind : Int) (v u : Value) (B : Nat) (w : World) (hx : SliceIv w B v xs) (hy : SliceIv w B u ys) (hB : B ≤ w.heap.size) (h1 : xs.length ≤ 200) (h2 : ys.length ≤ 200) (hk : kind = 1 ∨ kind = 2 ∨ kind = 3) :
    Calls Tryd.prog 26 #[v, u, .int .i64 kind] w fun e w' => ∃ r zs er, e = .returned (.tuple #[r, .int .i64 er]) ∧ IsSet kind xs ys er zs ∧ SliceIv w' w'.heap.size r zs ∧ Below w.heap.size w w' := by
  have HX := Lib.hid hx
  have HY := Lib.hid hy
  have HL := Lib.hid (lists_any v u xs ys B w hx hy hB (by omega) (by omega))
  by_cases he : errAll (xs ++ ys) = 0
  · have HE := Lib.hid he
    have HK := Lib.hid (errAll_zero.1 he)
    rw [he] at HL
    clear he
    obtain ⟨A, c, rfl, _, _⟩ := hx
    obtain ⟨A', c', rfl, _, _⟩ := hy
    go_enter Tryd.func26, Tryd.ntmps26
    go_wp2_with fail
    refine HL.out.mono ?_
    rintro e w1 ⟨rfl, hb1⟩
    go_wp2_with fail
    refine (form_any xs ys kind _ _ B _ (HX.out.below hb1 hB) (HY.out.below hb1 hB) (by have := hb1.size; omega) (by omega) (by omega) (fun x hx => HK.out x (List.mem_append_left _ hx)) (fun x hx => HK.out x (List.mem_append_right _ hx)) hk).mono ?_
    rintro e w2 ⟨r, rfl, hown, hb2⟩
    have HO := Lib.hid (OwnIv.slice hown)
    obtain ⟨q1, q2, q3⟩ := formL_good (a := xs) (b := ys) hk
    have HN : Hid (IsSet kind xs ys 0 (formL kind xs ys)) := ⟨HE.out.symm, by omega, formL_ok hk (fun x hx => HK.out x (List.mem_append_left _ hx)) (fun x hx => HK.out x (List.mem_append_right _ hx)), fun h => absurd rfl h, fun _ => ⟨q1, q2⟩⟩
    clear hown q1 q2
    go_wp2_with fail
    go_ret2
    exact ⟨r, _, 0, rfl, HN.out, HO.out, hb1.trans (hb2.mono hb1.size)⟩
  · have hne : (errAll (xs ++ ys) != 0) = true := by simp [he]
    have HN : Hid (IsSet kind xs ys (errAll (xs ++ ys)) []) := ⟨rfl, by simp, OkL_nil, fun _ => rfl, fun h => absurd h he⟩
    clear he
    obtain ⟨x, hxe⟩ : ∃ x, x = errAll (xs ++ ys) := ⟨_, rfl⟩
    rw [← hxe] at hne HN HL
    clear hxe
    obtain ⟨A, c, rfl, _, _⟩ := hx
    obtain ⟨A', c', rfl, _, _⟩ := hy
    go_enter Tryd.func26, Tryd.ntmps26
    go_wp2_with fail
    refine HL.out.mono ?_
    rintro e w1 ⟨rfl, hb1⟩
    go_wp2_with fail
    go_ret2
    exact ⟨_, [], x, rfl, HN.out, ⟨none, 0, rfl, fun _ => rfl, fun h => absurd h (Nat.not_lt_zero _)⟩, hb1⟩
end Go.Proofs.YtbhkbhaepefdgaaDoor
