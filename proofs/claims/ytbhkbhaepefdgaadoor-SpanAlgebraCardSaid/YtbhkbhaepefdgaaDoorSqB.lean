/- gaps. -/
import Derived.Test.YtbhkbhaepefdgaaDoorSpN
import Derived.Test.YtbhkbhaepefdgaaDoorSpX
namespace Go.Proofs.YtbhkbhaepefdgaaDoor
open Go.RowKit

theorem NF_take {xs : List Iv} (h : NF xs) (k : Nat) : NF (xs.take k) := ⟨fun x hx => h.1 x (List.mem_of_mem_take hx), h.2.sublist (List.take_sublist k xs)⟩
theorem OkL_take {xs : List Iv} (h : OkL xs) (k : Nat) : OkL (xs.take k) := fun x hx => h x (List.mem_of_mem_take hx)
theorem getD_okIv {xs : List Iv} {k : Nat} (hO : OkL xs) (h : k < xs.length) : -1000000000000 ≤ (xs.getD k (0, 0)).1 ∧ (xs.getD k (0, 0)).1 ≤ (xs.getD k (0, 0)).2 ∧ (xs.getD k (0, 0)).2 ≤ 1000000000000 :=
  hO _ (by rw [List.getD_eq_getElem?_getD, List.getElem?_eq_getElem h]; exact List.getElem_mem h)
theorem gapSt_len {xs : List Iv} (hN : NF xs) (hO : OkL xs) (k : Nat) : (gapSt (xs.take k)).1.length ≤ k := by
  obtain ⟨_, _, _, _, _, _, _, h⟩ := gapSt_good _ (xs.take k) rfl (NF_take hN k) (OkL_take hO k)
  have := List.length_take_le k xs
  omega

set_option maxHeartbeats 2000000 in
theorem gaps_any (xs : List Iv) (v : Value) (B : Nat) (w : World) (hL : SliceIv w B v xs) (hB : B ≤ w.heap.size) (hm : xs.length ≤ 1000000) (hO : OkL xs) (hN : NF xs) :
    Calls Tryd.prog 55 #[v] w fun e w' => ∃ u, e = .returned u ∧ OwnIv w' w.heap.size u (gapsL xs) ∧ Below w.heap.size w w' := by
  obtain ⟨A, c, rfl, _, hL⟩ := hL
  have HL := Lib.hid hL
  have HO := Lib.hid hO
  have HN := Lib.hid hN
  clear hL hO hN
  go_enter Tryd.func55, Tryd.ntmps55
  go_wp2_with fail
  go_loopw [3, 4, 9] (fun o nx i wr => ∃ k : Nat, k ≤ xs.length ∧ i = .int .i64 k ∧ nx = .int .i64 (gapSt (xs.take k)).2 ∧ OwnIv wr w.heap.size o (gapSt (xs.take k)).1 ∧ Below w.heap.size w wr) (fun _ _ i _ => xs.length - (intOf i).toNat)
  case atStart => exact ⟨0, Nat.zero_le _, rfl, rfl, World.ownsRow_nil _ _ _ _, Below.refl _ _⟩
  case round =>
    obtain ⟨k, hk, rfl, rfl, hown, hbw⟩ := hrel
    have hgl := gapSt_len HN.out HO.out k
    by_cases hlt : k < xs.length
    · obtain ⟨g, o, rfl, hg, hcell⟩ := (HL.out.below hbw hB) (by omega)
      obtain ⟨c1, c2⟩ := hcell k hlt
      clear hcell
      have HJ : Hid (gapSt (xs.take (k + 1)) = gapStep (gapSt (xs.take k)) (xs.getD k (0, 0))) := by unfold Hid; rw [take_snoc' xs k hlt, gapSt_snoc]
      have hx := getD_okIv HO.out hlt
      generalize xs.getD k (0, 0) = a at c1 c2 HJ hx
      obtain ⟨a1, a2⟩ := a
      simp only at c1 c2 hx
      obtain ⟨x1, x2, x3⟩ := hx
      generalize gapSt (xs.take k) = s at hown hgl HJ
      obtain ⟨out, nx⟩ := s
      simp only at hown hgl
      have HG := Lib.hid hown
      clear hown
      by_cases hj : nx < a1
      · have HJ' : Hid (gapSt (xs.take (k + 1)) = (out ++ [(nx, a1 - 1)], a2 + 1)) := by unfold Hid; rw [HJ.out]; unfold gapStep; rw [if_pos hj]
        clear HJ
        go_wp2_with (at_builtin; refine wpList_append_iv rfl (.tmp 17) (.tmp 23) rfl w.heap.size _ out rfl ?d1 (wr.heap.size + 1 + 1) (.slice (some ⟨wr.heap.size + 1, 0, none⟩) 1 1) [(nx, a1 - 1)] rfl ?d2 ?d3 ?d4 ?_)
        case d1 => exact (HG.out.alloc _).alloc _
        case d2 => exact slice_one (wr.alloc _) nx (a1 - 1) _ _ (by simp)
        case d3 => simp; omega
        case d4 => have := hbw.size; simp; omega
        intro v' w3 hown' hgr
        have HO' := Lib.hid hown'
        have Hg := Lib.hid hgr
        have hc3 : w3.heap[wr.heap.size]? = some (.cells #[.int .i64 a1, .int .i64 a2] 23 (0, 0)) :=
          (hgr.block wr.heap.size (by simp; omega) (fun e => by have := (HG.out.lt _ e.symm).2; omega)).trans ((((Below.refl (wr.heap.size + 1) _).alloc (by simp) _).block wr.heap.size (by omega)).trans (heap_alloc_new wr _))
        obtain ⟨e1, e2, _, _⟩ := own2 hc3
        have e3 := (Array.getElem?_eq_some_iff.1 hc3).1
        clear hown' hgr hc3
        go_wp2
        go_roundw
        case rel => exact ⟨k + 1, by omega, by go_num, by rw [HJ'.out], by rw [HJ'.out]; exact HO'.out, ((hbw.alloc hbw.size _).alloc (by have := hbw.size; simp; omega) _).grown Hg.out (by have := hbw.size; simp; omega) fun k hk => (HG.out.lt k hk).1⟩
        case measure => simp [intOf]; omega
      · have HJ' : Hid (gapSt (xs.take (k + 1)) = (out, a2 + 1)) := by unfold Hid; rw [HJ.out]; unfold gapStep; rw [if_neg hj]
        clear HJ
        have hj' : decide (nx < a1) = false := by simpa using hj
        go_wp2
        go_roundw
        case rel => exact ⟨k + 1, by omega, by go_num, by rw [HJ'.out], by rw [HJ'.out]; exact HG.out.alloc _, hbw.alloc hbw.size _⟩
        case measure => simp [intOf]; omega
    · have hkn : k = xs.length := by omega
      subst hkn
      rw [List.take_length] at hown hgl
      rw [List.take_length]
      obtain ⟨_, _, g3, g4, _⟩ := gapSt_good _ xs rfl HN.out HO.out
      have HR : Hid (gapsL xs = if (gapSt xs).2 ≤ 1000000000000 then (gapSt xs).1 ++ [((gapSt xs).2, 1000000000000)] else (gapSt xs).1) := rfl
      generalize gapSt xs = s at hown hgl HR g3 g4
      obtain ⟨out, nx⟩ := s
      simp only at hown hgl g3 g4
      have HG := Lib.hid hown
      clear hown
      by_cases hj : nx ≤ 1000000000000
      · have HJ' : Hid (gapsL xs = out ++ [(nx, 1000000000000)]) := by unfold Hid; rw [HR.out, if_pos hj]
        clear HR
        go_wp2_with (at_builtin; refine wpList_append_iv rfl (.tmp 31) (.tmp 34) rfl w.heap.size _ out rfl ?d1 (wr.heap.size + 1) (.slice (some ⟨wr.heap.size, 0, none⟩) 1 1) [(nx, 1000000000000)] rfl ?d2 ?d3 ?d4 ?_)
        case d1 => exact HG.out.alloc _
        case d2 => exact slice_one wr nx 1000000000000 _ _ rfl
        case d3 => simp; omega
        case d4 => have := hbw.size; simp; omega
        intro v' w3 hown' hgr
        have HO' := Lib.hid hown'
        have Hg := Lib.hid hgr
        clear hown' hgr
        go_wp2
        go_ret
        exact ⟨_, rfl, by rw [HJ'.out]; exact HO'.out, (hbw.alloc hbw.size _).grown Hg.out (by have := hbw.size; simp; omega) fun k hk => (HG.out.lt k hk).1⟩
      · have HJ' : Hid (gapsL xs = out) := by unfold Hid; rw [HR.out, if_neg hj]
        clear HR
        have hj' : decide (nx ≤ 1000000000000) = false := by simpa using hj
        go_wp2
        go_ret
        exact ⟨_, rfl, by rw [HJ'.out]; exact HG.out, hbw⟩
end Go.Proofs.YtbhkbhaepefdgaaDoor
