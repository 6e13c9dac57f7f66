/- span.normal: the normal form of the numbers of lists. -/
import Derived.Test.YtbhkbhaepefdgaaDoorSpG
namespace Go.Proofs.YtbhkbhaepefdgaaDoor
open Go.RowKit

theorem cellsIv_set (o : List Iv) (l : Iv) (u : Int) : (cellsIv (o ++ [l])).set (o.length * 2 + 1) (.int .i64 u) = cellsIv (o ++ [(l.1, u)]) := by
  rw [cellsIv_append, cellsIv_append, List.set_append_right _ _ (by rw [cellsIv_length]; omega), cellsIv_length, show o.length * 2 + 1 - o.length * 2 = 1 by omega]
  rfl

theorem own_set {w : World} {base g cap : Nat} {o : List Iv} {l : Iv} (h : OwnIv w base (.slice (some ⟨g, 0, none⟩) (o.length + 1) cap) (o ++ [l])) (u : Int) :
    OwnIv (w.setCell ⟨g, o.length * 2 + 1, none⟩ (.int .i64 u)) base (.slice (some ⟨g, 0, none⟩) (o.length + 1) cap) (o ++ [(l.1, u)]) := by
  unfold OwnIv at h ⊢
  rw [List.length_append, List.length_singleton] at h ⊢
  have := (h.stored (o.length * 2 + 1) (.int .i64 u)).1
  rwa [cellsIv_set] at this

theorem own_last {w : World} {base : Nat} {v : Value} {o : List Iv} {l : Iv} (h : OwnIv w base v (o ++ [l])) :
    ∃ g cap, v = .slice (some ⟨g, 0, none⟩) (o.length + 1) cap ∧ base ≤ g ∧ g < w.heap.size ∧ w.cell? ⟨g, o.length * 2 + 1, none⟩ = some (.int .i64 l.2) ∧ w.frozen? ⟨g, o.length * 2 + 1, none⟩ = false := by
  rcases h.2 with ⟨_, hn⟩ | ⟨g, cap, cur, rfl, hb, hg, _, _, _, ht⟩
  · simp at hn
  · have hc := (cellsIv_get (o ++ [l]) o.length (by simp)).2
    rw [← ht, List.getElem?_take, if_pos (by simp; omega)] at hc
    refine ⟨g, cap, by simp, hb, (Array.getElem?_eq_some_iff.1 hg).1, ?_, by simp [World.frozen?, hg]⟩
    rw [cell_of_row w g _ cur _ _ hg]
    simpa [List.getD] using hc

theorem own_grow {w w' : World} {base : Nat} {v : Value} {xs : List Iv} (h : OwnIv w base v xs) (hb : Below w.heap.size w w') : OwnIv w' base v xs := by
  refine ⟨h.1, ?_⟩
  rcases h.2 with hn | ⟨g, cap, cur, hv, hbg, hg, rest⟩
  · exact .inl hn
  · exact .inr ⟨g, cap, cur, hv, hbg, (hb.block g (Array.getElem?_eq_some_iff.1 hg).1).trans hg, rest⟩

theorem joined_take (ys : List Iv) (k : Nat) (h : k < ys.length) : joined (ys.take (k + 1)) = putIv (joined (ys.take k)) (ys.getD k (0, 0)) := by
  rw [take_snoc' ys k h, joined_snoc]
theorem joined_take_len (ys : List Iv) (k : Nat) (h : k ≤ ys.length) : (joined (ys.take k)).length ≤ k := by
  have := joined_len k (ys.take k) (by simp; omega)
  exact this

theorem sorted_take {ys : List Iv} (hs : ys.Pairwise fun x y => x.1 ≤ y.1) (hv : ∀ x ∈ ys, x.1 ≤ x.2) (k : Nat) :
    NF (joined (ys.take k)) ∧ (∀ n, memL n (joined (ys.take k)) ↔ memL n (ys.take k)) :=
  have h := joined_good _ (ys.take k) rfl (fun x hx => hv x (List.mem_of_mem_take hx)) (hs.sublist (List.take_sublist k ys))
  ⟨h.1, h.2.1⟩
theorem ok_take {ys zs : List Iv} (hp : ys.Perm zs) (hz : OkL zs) (k : Nat) : OkL (ys.take k) := fun x hx => hz x (hp.mem_iff.1 (List.mem_of_mem_take hx))
theorem slice_one (w : World) (a b : Int) (t : TypeId) (g : Nat) (hg : w.heap.size = g) : SliceIv (w.alloc (.cells #[.int .i64 a, .int .i64 b] t)) (g + 1) (.slice (some ⟨g, 0, none⟩) 1 1) [(a, b)] :=
  ⟨_, _, rfl, (fun h => by cases h), lies_one w (a, b) t g hg⟩

set_option maxHeartbeats 2000000 in
theorem normal_any (L : List (Value × List Iv)) (A : Option Addr) (c B : Nat) (w : World) (hL : LiesLL w B A L) (hB : B ≤ w.heap.size) (hm : L.length ≤ 1000000) (hbig : (catL L).length ≤ 1000000) (hok : OkL (catL L)) :
    Calls Tryd.prog 53 #[.slice A L.length c] w fun e w' => ∃ v zs, e = .returned v ∧ NF zs ∧ (∀ n, memL n zs ↔ memL n (catL L)) ∧ zs.length ≤ (catL L).length ∧ OwnIv w' w.heap.size v zs ∧ Below w.heap.size w w' := by
  have HK := Lib.hid hok
  clear hok
  go_enter Tryd.func53, Tryd.ntmps53
  go_wp2_with fail
  refine (concat_any L A c B w hL hB hm (by omega)).mono ?_
  rintro e w1 ⟨v0, rfl, hown0, hb0⟩
  have HO0 := Lib.hid hown0
  clear hown0 hL
  go_wp2_with fail
  refine (sort_own (catL L) v0 w.heap.size w1 HO0.out (by omega)).mono ?_
  rintro e w2 ⟨rfl, ys, hperm, hsorted, hsl, hb1⟩
  have hb2 : Below w.heap.size w w2 := hb0.trans hb1
  have HP := Lib.hid hperm
  have HS := Lib.hid hsorted
  have HN := Lib.hid hperm.length_eq
  have hyl : ys.length ≤ 1000000 := by have := hperm.length_eq; omega
  have HL := Lib.hid (hsl.more (B' := w2.heap.size) hb1.size)
  obtain ⟨A1, cc, rfl, _, _⟩ := hsl
  clear hperm hsorted hb0 hb1 HO0
  have hvalid : ∀ x ∈ ys, x.1 ≤ x.2 := fun x hx => (HK.out x (HP.out.mem_iff.1 hx)).2.1
  have HV := Lib.hid hvalid
  clear hvalid
  go_wp2_with fail
  go_loopw [4, 14] (fun v i wr => ∃ k : Nat, k ≤ ys.length ∧ i = .int .i64 k ∧ OwnIv wr w2.heap.size v (joined (ys.take k)) ∧ Below w2.heap.size w2 wr) (fun _ i _ => ys.length - (intOf i).toNat)
  case atStart => exact ⟨0, Nat.zero_le _, rfl, World.ownsRow_nil _ _ _ _, Below.refl _ _⟩
  case round =>
    obtain ⟨k, hk, rfl, hown, hbw⟩ := hrel
    by_cases hlt : k < ys.length
    · obtain ⟨A', c', he, _, hlie⟩ := HL.out.below hbw (Nat.le_refl _)
      injection he with he1 he2 he3
      subst he1 he3
      clear he2
      obtain ⟨g, o, rfl, hg, hcell⟩ := hlie (by omega)
      obtain ⟨c1, c2⟩ := hcell k hlt
      clear hcell hlie
      have HJ := Lib.hid (joined_take ys k hlt)
      have hjl := joined_take_len ys k hk
      obtain ⟨a, ha⟩ : ∃ a, a = ys.getD k (0, 0) := ⟨_, rfl⟩
      rw [← ha] at c1 c2
      have HA := Lib.hid ha
      clear ha
      obtain ⟨a1, a2⟩ := a
      simp only at c1 c2
      have hjok : OkL (joined (ys.take k)) := by
        obtain ⟨g1, g2⟩ := sorted_take HS.out HV.out k
        exact g1.ok g2 (ok_take HP.out HK.out k)
      generalize hout : joined (ys.take k) = out at hown hjl hjok
      have HE := Lib.hid hout
      clear hout
      rcases list_snoc out with rfl | ⟨ou, l, rfl⟩
      · obtain ⟨A3, c3, rfl, _⟩ := OwnIv.slice hown
        have HO := Lib.hid hown
        clear hown
        clear hjok hjl
        rw [List.length_nil] at *
        go_wp2
        go_quiet (fail)
        go_wp2_with (at_builtin; refine wpList_append_iv rfl (.tmp 46) (.tmp 48) rfl w2.heap.size (.slice A3 0 c3) [] rfl ?d1 (wr.heap.size + 1 + 1) (.slice (some ⟨wr.heap.size + 1, 0, none⟩) 1 1) [(a1, a2)] rfl ?d2 ?d3 ?d4 ?_)
        case d1 => exact (HO.out.alloc _).alloc _
        case d2 => exact slice_one (wr.alloc _) a1 a2 _ _ (by simp)
        case d3 => simp
        case d4 => have := hbw.size; simp; omega
        intro v' w3 hown' hgr
        have HO' := Lib.hid hown'
        have Hg := Lib.hid hgr
        clear hown' hgr
        go_wp2
        go_roundw
        case rel => exact ⟨k + 1, by omega, by go_num, by rw [HJ.out, ← HA.out, HE.out]; exact HO'.out, (below_drewN ((hbw.alloc hbw.size _).alloc (by have := hbw.size; simp; omega) _) _).grown Hg.out (by have := hbw.size; simp; omega) fun k hk => (HO.out.lt k hk).1⟩
        case measure => simp [intOf]; omega
      · obtain ⟨og, ocap, rfl, hbg, hglt, hc3, hf3⟩ := own_last hown
        have HO := Lib.hid hown
        clear hown
        obtain ⟨l1, l2⟩ := l
        obtain ⟨n, hn⟩ : ∃ n, n = ou.length := ⟨_, rfl⟩
        rw [← hn] at hc3 hf3 ⊢
        have hnb : n + 1 ≤ 1000000 := by simp at hjl; omega
        have HNN := Lib.hid hn
        clear hn hjl
        have hl := hjok (l1, l2) (by simp)
        obtain ⟨q1, q2, q3⟩ := hl
        simp only at hc3 q1 q2 q3
        clear hjok
        have i0 : (0 : Int) ≤ (n : Int) := by omega
        have i1 : (n : Int) < (n : Int) + 1 := by omega
        have i2 : IntKind.i64.wrap (l2 + 1) = l2 + 1 := IntWalk.i64_in _ (by omega)
        by_cases hj : a1 ≤ l2 + 1
        · go_wp2
          go_quiet (fail)
          clear i2
          go_wp2
          go_region
          go_wp2
          go_roundw
          case rel =>
            refine ⟨k + 1, by omega, by go_num, ?_, ?_⟩
            · rw [HJ.out, ← HA.out, HE.out, putIv_snoc, if_pos hj, HNN.out]
              have h1 : OwnIv ((wr.alloc (.cells #[.int .i64 a1, .int .i64 a2] 23)).drewN (nq + 1)) w2.heap.size (.slice (some ⟨og, 0, none⟩) (ou.length + 1) ocap) (ou ++ [(l1, l2)]) := HO.out.alloc _
              exact own_set h1 (max l2 a2)
            · exact (below_drewN (hbw.alloc hbw.size _) _).setCell hbg _
          case measure => simp [intOf]; omega
        · have hj' : decide (a1 ≤ l2 + 1) = false := by simpa using hj
          go_wp2
          go_quiet (fail)
          clear i2
          go_wp2_with (at_builtin; refine wpList_append_iv rfl (.tmp 46) (.tmp 48) rfl w2.heap.size (.slice (some ⟨og, 0, none⟩) (n + 1) ocap) (ou ++ [(l1, l2)]) rfl ?c1 (wr.heap.size + 1 + 1) (.slice (some ⟨wr.heap.size + 1, 0, none⟩) 1 1) [(a1, a2)] rfl ?c2 ?c3 ?c4 ?_)
          case c1 => rw [HNN.out]; exact (HO.out.alloc _).alloc _
          case c2 => exact slice_one (wr.alloc _) a1 a2 _ _ (by simp)
          case c3 => rw [List.length_append, ← HNN.out]; simp; omega
          case c4 => have := hbw.size; simp; omega
          intro v' w3 hown' hgr
          have HO' := Lib.hid hown'
          have Hg := Lib.hid hgr
          clear hown' hgr
          go_wp2
          go_roundw
          case rel => exact ⟨k + 1, by omega, by go_num, by rw [HJ.out, ← HA.out, HE.out, putIv_snoc, if_neg (by show ¬ a1 ≤ l2 + 1; omega), List.append_assoc]; exact HO'.out, (below_drewN ((hbw.alloc hbw.size _).alloc (by have := hbw.size; simp; omega) _) _).grown Hg.out (by have := hbw.size; simp; omega) fun k hk => by simp [Value.ownBlock] at hk; omega⟩
          case measure => simp [intOf]; omega
    · have hkn : k = ys.length := by omega
      subst hkn
      rw [List.take_length] at hown
      have HO := Lib.hid hown
      clear hown
      go_wp2
      go_ret
      obtain ⟨g1, g2⟩ := sorted_take HS.out HV.out ys.length
      rw [List.take_length] at g1 g2
      refine ⟨_, joined ys, rfl, g1, fun n => (g2 n).trans (memL_perm HP.out n), ?_, ?_, hb2.trans (hbw.mono hb2.size)⟩
      · have := joined_len _ ys rfl
        have := HN.out
        omega
      · have hle := hb2.size
        obtain ⟨h1, h2⟩ := HO.out
        refine ⟨h1, h2.imp id ?_⟩
        rintro ⟨g, cap, cur, e1, e2, e3⟩
        exact ⟨g, cap, cur, e1, by omega, e3⟩
end Go.Proofs.YtbhkbhaepefdgaaDoor
