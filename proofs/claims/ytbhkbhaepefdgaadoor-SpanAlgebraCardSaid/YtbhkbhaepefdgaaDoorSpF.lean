/- slices.Concat at intervals; lists of lists. -/
import Derived.Test.YtbhkbhaepefdgaaDoorSpE
namespace Go.Proofs.YtbhkbhaepefdgaaDoor
open Go.RowKit

/-- The values in the cells of a slice of slices, each reading as a list. -/
def LiesLL (w : World) (B : Nat) (A : Option Addr) (L : List (Value × List Iv)) : Prop :=
  0 < L.length → ∃ g o, A = some ⟨g, o, none⟩ ∧ g < B ∧ ∀ k, k < L.length → w.cell? ⟨g, o + k, none⟩ = some (L.getD k (.slice none 0 0, [])).1 ∧ SliceIv w B (L.getD k (.slice none 0 0, [])).1 (L.getD k (.slice none 0 0, [])).2
def catL (L : List (Value × List Iv)) : List Iv := L.flatMap (·.2)
theorem catL_snoc (L : List (Value × List Iv)) (k : Nat) (h : k < L.length) : catL (L.take (k + 1)) = catL (L.take k) ++ (L.getD k (.slice none 0 0, [])).2 := by
  unfold catL; rw [List.take_succ_eq_append_getElem h, List.flatMap_append]; simp [List.getD, h]
theorem catL_le (L : List (Value × List Iv)) (k : Nat) : (catL (L.take k)).length ≤ (catL L).length := by
  have h : catL L = catL (L.take k) ++ catL (L.drop k) := by unfold catL; rw [← List.flatMap_append, List.take_append_drop]
  rw [h, List.length_append]
  omega

theorem SliceIv.below {w w' : World} {B B' : Nat} {v : Value} {xs : List Iv} (h : SliceIv w B v xs) (hb : Below B' w w') (hB : B ≤ B') : SliceIv w' B v xs := by
  obtain ⟨A, c, hv, hc, hL⟩ := h
  exact ⟨A, c, hv, hc, hL.below hb hB⟩
theorem SliceIv.more {w : World} {B B' : Nat} {v : Value} {xs : List Iv} (h : SliceIv w B v xs) (hB : B ≤ B') : SliceIv w B' v xs := by
  obtain ⟨A, c, hv, hc, hL⟩ := h
  exact ⟨A, c, hv, hc, hL.more hB⟩
theorem LiesLL.below {w w' : World} {B B' : Nat} {A : Option Addr} {L : List (Value × List Iv)} (h : LiesLL w B A L) (hb : Below B' w w') (hB : B ≤ B') : LiesLL w' B A L := fun hn => by
  obtain ⟨g, o, hA, hg, hc⟩ := h hn
  exact ⟨g, o, hA, hg, fun k hk => ⟨(hb.cell (p := ⟨g, _, none⟩) (by show g < B'; omega)).trans (hc k hk).1, (hc k hk).2.below hb hB⟩⟩

set_option maxHeartbeats 1000000 in
theorem concat_any (L : List (Value × List Iv)) (A : Option Addr) (c B : Nat) (w : World) (hL : LiesLL w B A L) (hB : B ≤ w.heap.size) (hm : L.length ≤ 1000000) (hbig : (catL L).length ≤ 1000000000000) :
    Calls Tryd.prog 82 #[.slice A L.length c] w fun e w' => ∃ v, e = .returned v ∧ OwnIv w' w.heap.size v (catL L) ∧ Below w.heap.size w w' := by
  have HL := Lib.hid hL
  clear hL
  go_enter Tryd.func82, Tryd.ntmps82
  go_wp2_with fail
  go_loop [3, 11] (fun n i => ∃ k : Nat, k ≤ L.length ∧ i = .int .i64 k ∧ n = .int .i64 (catL (L.take k)).length) (fun _ i => L.length - (intOf i).toNat)
  case atStart => exact ⟨0, Nat.zero_le _, rfl, rfl⟩
  case round =>
    obtain ⟨k, hk, rfl, rfl⟩ := hrel
    by_cases hlt : k < L.length
    · obtain ⟨g, o, rfl, hg, hcell⟩ := HL.out (by omega)
      obtain ⟨c1, hs⟩ := hcell k hlt
      clear hcell
      have Hc := Lib.hid (catL_snoc L k hlt)
      have hle := catL_le L (k + 1)
      rw [Hc.out, List.length_append] at hle
      obtain ⟨e, he⟩ : ∃ e, e = L.getD k (.slice none 0 0, []) := ⟨_, rfl⟩
      rw [← he] at c1 hs hle
      have HE := Lib.hid he
      clear he
      obtain ⟨v, ys⟩ := e
      simp only at c1 hle hs
      obtain ⟨A', c', rfl, hc', hL'⟩ := hs
      clear hL' hc'
      go_wp2_with fail
      go_round
      case rel => exact ⟨k + 1, by omega, by go_num, by rw [Hc.out, ← HE.out, List.length_append]; go_num⟩
      case measure => simp [intOf]; omega
    · have hkn : k = L.length := by omega
      subst hkn
      rw [List.take_length]
      go_wp2_with fail
      refine (grow_nil _ _ hbig).mono ?_
      rintro e w1 ⟨v, rfl, hown, hb⟩
      go_wp2_with fail
      go_loopw [6, 27] (fun v i wr => ∃ k : Nat, k ≤ L.length ∧ i = .int .i64 k ∧ OwnIv wr w.heap.size v (catL (L.take k)) ∧ Below w.heap.size w wr) (fun _ i _ => L.length - (intOf i).toNat)
      case atStart => exact ⟨0, Nat.zero_le _, rfl, hown, hb⟩
      case round =>
        clear hown hb
        obtain ⟨k, hk, rfl, hown, hbw⟩ := hrel
        by_cases hlt : k < L.length
        · obtain ⟨g, o, rfl, hg, hcell⟩ := (HL.out.below hbw hB) (by omega)
          obtain ⟨c1, hs⟩ := hcell k hlt
          clear hcell
          have Hc := Lib.hid (catL_snoc L k hlt)
          have hle := catL_le L (k + 1)
          rw [Hc.out, List.length_append] at hle
          obtain ⟨e, he⟩ : ∃ e, e = L.getD k (.slice none 0 0, []) := ⟨_, rfl⟩
          rw [← he] at c1 hs hle
          have HE := Lib.hid he
          clear he
          obtain ⟨v1, ys⟩ := e
          simp only at c1 hle hs
          have HS := Lib.hid hs
          obtain ⟨A', c', rfl, _, _⟩ := hs
          have HO := Lib.hid hown
          clear hown
          go_wp2_with (at_builtin; refine wpList_append_iv rfl (.tmp 31) (.tmp 32) rfl w.heap.size _ _ rfl HO.out B _ ys rfl HS.out (by omega) hbw.size ?_)
          intro v' w2 hown' hgr
          have HO' := Lib.hid hown'
          have Hg := Lib.hid hgr
          clear hown' hgr
          go_wp2_with fail
          go_roundw
          case rel => exact ⟨k + 1, by omega, by go_num, by rw [Hc.out, ← HE.out]; exact HO'.out, hbw.grown Hg.out hbw.size fun k hk => (HO.out.lt k hk).1⟩
          case measure => simp [intOf]; omega
        · have hkn : k = L.length := by omega
          subst hkn
          rw [List.take_length] at hown
          have HO := Lib.hid hown
          clear hown
          go_wp2_with fail
          go_ret
          exact ⟨_, rfl, HO.out, hbw⟩
end Go.Proofs.YtbhkbhaepefdgaaDoor
