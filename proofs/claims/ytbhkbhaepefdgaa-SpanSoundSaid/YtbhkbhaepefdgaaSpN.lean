/- Sum of both. -/
import Derived.Test.YtbhkbhaepefdgaaSpK
import Derived.BigRegion
namespace Go.Proofs.Ytbhkbhaepefdgaa
open Go.RowKit

theorem sumL_bound (zs : List Iv) (h : OkL zs) : -((zs.length : Int) * 1000000000000) ≤ (sumL zs).1 ∧ (sumL zs).1 ≤ (zs.length : Int) * 1000000000000 ∧ -((zs.length : Int) * 1000000000000) ≤ (sumL zs).2 ∧ (sumL zs).2 ≤ (zs.length : Int) * 1000000000000 := by
  rcases list_snoc zs with rfl | ⟨ys, y, rfl⟩
  · simp [sumL]
  · have ih := sumL_bound ys (fun x hx => h x (by simp [hx]))
    have := h y (by simp)
    rw [sumL_snoc, List.length_append, List.length_singleton]
    simp only
    omega
termination_by zs.length
decreasing_by simp_all

/-- What Sum gives. -/
def sumRes (xs : List Iv) : Iv × Int := if errAll xs = 0 then resIv (sumL xs) else ((0, 0), errAll xs)

/-- A struct that the call keeps in block g. -/
theorem own2 {w : World} {g : Nat} {t : TypeId} {p q : Value} (h : w.heap[g]? = some (.cells #[p, q] t (0, 0))) : w.cell? ⟨g, 0, none⟩ = some p ∧ w.cell? ⟨g, 1, none⟩ = some q ∧ w.frozen? ⟨g, 0, none⟩ = false ∧ w.frozen? ⟨g, 1, none⟩ = false :=
  ⟨cell_of_row w g 0 _ t (0, 0) h, cell_of_row w g 1 _ t (0, 0) h, by simp [World.frozen?, h], by simp [World.frozen?, h]⟩

theorem set2 {w : World} {g : Nat} {t : TypeId} {p q : Value} (h : w.heap[g]? = some (.cells #[p, q] t (0, 0))) (p' q' : Value) : ((w.setCell ⟨g, 0, none⟩ p').setCell ⟨g, 1, none⟩ q').heap[g]? = some (.cells #[p', q'] t (0, 0)) :=
  heap_setCell_same _ g 1 _ t q' (heap_setCell_same w g 0 _ t p' h)

theorem sum_step {xs : List Iv} (hok : OkL xs) (hl : xs.length ≤ 10000) {k : Nat} (hlt : k < xs.length) :
    ∃ a1 a2 s1 s2 : Int, xs.getD k (0, 0) = (a1, a2) ∧ sumL (xs.take k) = (s1, s2) ∧ sumL (xs.take (k + 1)) = (s1 + a1, s2 + a2) ∧ -1000000000000 ≤ a1 ∧ a1 ≤ a2 ∧ a2 ≤ 1000000000000 ∧ -10000000000000000 ≤ s1 ∧ s1 ≤ 10000000000000000 ∧ -10000000000000000 ≤ s2 ∧ s2 ≤ 10000000000000000 := by
  have hx := hok (xs.getD k (0, 0)) (by rw [List.getD_eq_getElem?_getD, List.getElem?_eq_getElem hlt]; exact List.getElem_mem hlt)
  have hb := sumL_bound (xs.take k) (fun x hx => hok x (List.mem_of_mem_take hx))
  have hkl : ((xs.take k).length : Int) ≤ 10000 := by have := List.length_take_le k xs; simp; omega
  refine ⟨(xs.getD k (0, 0)).1, (xs.getD k (0, 0)).2, (sumL (xs.take k)).1, (sumL (xs.take k)).2, rfl, rfl, ?_, hx.1, hx.2.1, hx.2.2, ?_⟩
  · rw [take_snoc' xs k hlt, sumL_snoc]
  · omega

set_option maxHeartbeats 2000000 in
theorem sum_ok (v : Value) (xs : List Iv) (B : Nat) (w : World) (hx : SliceIv w B v xs) (hB : B ≤ w.heap.size) (h1 : xs.length ≤ 10000) (he : errAll xs = 0) :
    Calls Try.prog 15 #[v] w fun e w' => e = .returned (.tuple #[.agg #[.int .i64 (sumRes xs).1.1, .int .i64 (sumRes xs).1.2], .int .i64 (sumRes xs).2]) ∧ Below w.heap.size w w' := by
  have HX := Lib.hid hx
  have HE := Lib.hid he
  have HK := Lib.hid (errAll_zero.1 he)
  have HR : Hid (sumRes xs = resIv (sumL xs)) := if_pos he
  rw [HR.out]
  clear he
  have hres := fun W => inRange_res (sumL xs).1 (sumL xs).2 W
  rw [show ((sumL xs).1, (sumL xs).2) = sumL xs from rfl] at hres
  obtain ⟨r1, hr1⟩ : ∃ r, r = (resIv (sumL xs)).1.1 := ⟨_, rfl⟩
  obtain ⟨r2, hr2⟩ : ∃ r, r = (resIv (sumL xs)).1.2 := ⟨_, rfl⟩
  obtain ⟨r3, hr3⟩ : ∃ r, r = (resIv (sumL xs)).2 := ⟨_, rfl⟩
  rw [← hr1, ← hr2, ← hr3] at hres ⊢
  have HRES := Lib.hid hres
  clear hr1 hr2 hr3 HR hres
  obtain ⟨A, c, rfl, _, hLies⟩ := hx
  have HL := Lib.hid hLies
  clear hLies
  go_enter Try.func15, Try.ntmps15
  go_wp2_with fail
  refine (checkLists_any [(_, xs)] _ _ (w.heap.size + 1 + 1) _ (LiesLL.one (HX.out.below ((Below.refl _ _).alloc (Nat.le_refl _) _) hB) (by simp; omega) _ _ (by simp)) (by simp) (by simp) (by rw [catL_one]; omega) (by simpa using h1)).mono ?_
  rw [catL_one, HE.out]
  rintro e w1 ⟨rfl, hb1⟩
  have hb1' : Below w.heap.size w w1 := (((Below.refl _ _).alloc (Nat.le_refl _) _).alloc (by simp) _).trans (hb1.mono (by simp; omega))
  have hz1 : w.heap.size + 1 < w1.heap.size := by have := hb1.size; simp at this; omega
  have hr0 : w1.heap[w.heap.size]? = some (.cells #[.int .i64 0, .int .i64 0] 23 (0, 0)) := by
    rw [hb1.block w.heap.size (by simp; omega), heap_alloc_old _ _ (by simp)]
    exact heap_alloc_new w _
  have HR0 := Lib.hid hr0
  clear hr0 hb1
  have HL1 := Lib.hid (HL.out.below hb1' hB)
  go_wp2_with fail
  go_loopw [17] (fun i wr => ∃ k : Nat, k ≤ xs.length ∧ i = .int .i64 k ∧ Below w1.heap.size w1 wr ∧ Hid (w1.heap.size < wr.heap.size) ∧ Hid (wr.heap[w1.heap.size]? = some (.cells #[.int .i64 (sumL (xs.take k)).1, .int .i64 (sumL (xs.take k)).2] 23 (0, 0)))) (fun i _ => xs.length - (intOf i).toNat)
  case atStart => exact ⟨0, Nat.zero_le _, rfl, (Below.refl _ _).alloc (Nat.le_refl _) _, by unfold Hid; simp, heap_alloc_new w1 _⟩
  case round =>
    obtain ⟨k, hk, rfl, hbw, Hz, Hr⟩ := hrel
    by_cases hlt : k < xs.length
    · obtain ⟨g, o, rfl, hg, hcell⟩ := (HL1.out.below hbw (by omega)) (by omega)
      obtain ⟨c1, c2⟩ := hcell k hlt
      clear hcell
      obtain ⟨a1, a2, s1, s2, e1, e2, e3, q1, q2, q3, q4, q5, q6, q7⟩ := sum_step HK.out h1 hlt
      rw [e1] at c1 c2
      have hr := Hr.out
      rw [e2] at hr
      obtain ⟨o1, o2, o3, o4⟩ := own2 hr
      have HE3 := Lib.hid e3
      have HRR := Lib.hid hr
      have hgz := Hz.out
      clear e1 e2 e3 hr Hr
      have hne : g ≠ w1.heap.size := by omega
      go_wp2_with fail
      go_roundw
      case rel =>
        refine ⟨k + 1, by omega, by go_num, ((hbw.setCell (p := ⟨_, _, none⟩) (Nat.le_refl _) _).setCell (p := ⟨_, _, none⟩) (Nat.le_refl _) _).alloc (by simp; omega) _, by unfold Hid; simp; omega, ?_⟩
        rw [HE3.out]
        exact (heap_alloc_old _ _ (by simpa using hgz)).trans (set2 HRR.out _ _)
      case measure => simp [intOf]; omega
    · have hkn : k = xs.length := by omega
      subst hkn
      rw [List.take_length] at Hr
      obtain ⟨o1, o2, o3, o4⟩ := own2 Hr.out
      go_wp2_with fail
      refine (HRES.out _).mono ?_
      rintro e w2 ⟨rfl, hb2⟩
      have hb3 : Below w1.heap.size w1 w2 := hbw.trans (hb2.mono hbw.size)
      obtain ⟨p1, p2, p3, p4⟩ := own2 ((hb3.block w.heap.size (by omega)).trans HR0.out)
      go_wp2_with fail
      exact bodyPost_ret (v := .tuple #[.agg #[.int .i64 r1, .int .i64 r2], .int .i64 r3]) (by simp [results, Try.results15, go_sem, p1, p2]) rfl ⟨rfl, ((hb1'.trans (hb3.mono hb1'.size)).setCell (Nat.le_refl _) _).setCell (Nat.le_refl _) _⟩
end Go.Proofs.Ytbhkbhaepefdgaa
