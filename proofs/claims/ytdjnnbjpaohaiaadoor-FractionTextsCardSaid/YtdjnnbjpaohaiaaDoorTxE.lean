/- Layer 4 (fraction): Parse of the reference. -/
import Derived.Test.YtdjnnbjpaohaiaaDoorTxD
namespace Go.Proofs.YtdjnnbjpaohaiaaDoor
open Go.RowKit Go.Ev
set_option maxRecDepth 100000

def okR (s : List UInt8) : Bool := decide (s.length ≤ 40) && okT s
def rParseV (s : List UInt8) : Value := cond (okR s) (.tuple #[frV (psN s) (psD s), .bool true]) (.tuple #[frV 0 0, .bool false])
theorem str_at (s : List UInt8) (i : Nat) : (⟨s.toArray⟩ : ByteArray)[i]? = s[i]? := by
  rw [← List.getElem?_toArray]
  rfl
theorem str_hi (s : List UInt8) (i : Nat) : (⟨s.toArray⟩ : ByteArray).extract 0 i = ⟨(s.take i).toArray⟩ := by
  apply ByteArray.ext
  simp [ByteArray.data_extract]
theorem str_lo (s : List UInt8) (i : Nat) : (⟨s.toArray⟩ : ByteArray).extract i s.length = ⟨(s.drop i).toArray⟩ := by
  apply ByteArray.ext
  simp [ByteArray.data_extract, List.take_of_length_le]
theorem u8_ne {c : UInt8} (h : c ≠ 47) : ((c.toNat : Int) == 47) = false := by
  rw [beq_eq_false_iff_ne]
  intro hc
  exact h (UInt8.toNat_inj.1 (by rw [show (47 : UInt8).toNat = 47 from rfl]; omega))

theorem set2 {W : World} {b : Nat} {x y : Value} {t : TypeId} (h : W.heap[b]? = some (.cells #[x, y] t (0, 0))) {u v : Value} : ((W.setCell ⟨b, 0, none⟩ u).setCell ⟨b, 1, none⟩ v).heap[b]? = some (.cells #[u, v] t (0, 0)) := by
  simp [World.setCell, Array.getElem?_modify, h]
set_option maxHeartbeats 2000000 in
theorem rParse_any (s : List UInt8) (hs : s.length ≤ 100) (w : World) (hw : TxW w) : Calls Tryd.prog 36 #[strV s] w fun e w' => e = .returned (rParseV s) ∧ Below w.heap.size w w' := by
  have hN := psN_in s
  have hD := psD_in s
  have hl := sp_le s
  have hb0 := al_below w (.cells #[iv 0, iv 0] 23)
  have hw0 := hw.below hb0 hw.1.size
  have hcz := al_at w #[iv 0, iv 0] 23
  obtain ⟨T, hT⟩ : ∃ T : ByteArray, T = ⟨s.toArray⟩ := ⟨_, rfl⟩
  have hsz : T.size = s.length := by rw [hT]; exact str_size s
  have hat : ∀ i : Nat, T[i]? = s[i]? := fun i => by rw [hT]; exact str_at s i
  have hhi : ∀ i : Nat, T.extract 0 i = ⟨(s.take i).toArray⟩ := fun i => by rw [hT]; exact str_hi s i
  have hlo : ∀ i : Nat, T.extract i s.length = ⟨(s.drop i).toArray⟩ := fun i => by rw [hT]; exact str_lo s i
  show Calls Tryd.prog 36 #[.string ⟨s.toArray⟩] w _
  rw [← hT]
  have HT := Lib.hid hT
  clear hT
  by_cases h40 : 40 < s.length
  · have hp : rParseV s = .tuple #[frV 0 0, .bool false] := by unfold rParseV okR; rw [decide_eq_false (by omega)]; rfl
    have h40' : (40 : Int) < s.length := by omega
    have hc0 := cell_at (i := 0) hcz rfl
    have hc1 := cell_at (i := 1) hcz rfl
    go_enter Tryd.func36, Tryd.ntmps36
    go_wp2_with fail
    simp [bodyPost, results, Tryd.results36, go_sem, hp]
    exact hb0
  · have h40' : (s.length : Int) ≤ 40 := by omega
    go_enter Tryd.func36, Tryd.ntmps36
    go_wp2_with fail
    go_loopw [4, 5, 6] (fun a b i wr => ∃ k : Nat, k ≤ sp s ∧ a = .int .i64 s.length ∧ b = .int .i64 1 ∧ i = .int .i64 k ∧ wr = w.alloc (.cells #[iv 0, iv 0] 23)) (fun _ _ i _ => s.length - (intOf i).toNat)
    case atStart => exact ⟨0, Nat.zero_le _, rfl, rfl, rfl, rfl⟩
    case round =>
      obtain ⟨k, hk, rfl, rfl, rfl, rfl⟩ := hrel
      by_cases hlt : k < s.length
      · have i0 : (0 : Int) ≤ (k : Int) := by omega
        have i1 : (k : Int) < (s.length : Int) := by omega
        have i2 : IntKind.i64.wrap ((k : Int) + 1) = (k : Int) + 1 := by rw [IntKind.wrap_i64]; omega
        have hlt' : k < T.size := by omega
        have hidx : T[k]? = some (T[k]'hlt') := by simp [hlt']
        have hc : s[k]? = some (T[k]'hlt') := (hat k).symm.trans hidx
        by_cases hq : k < sp s
        · have hcq := u8_ne (c := T[k]'hlt') (fun h => sp_before hq (by rw [hc, h]))
          go_wp2_with fail
          refine ⟨⟨k + 1, by omega, rfl, rfl, by simp, by trivial⟩, ?_⟩
          simp [intOf]
          omega
        · have hkk : k = sp s := by omega
          have hcq : (((T[k]'hlt').toNat : Int) == 47) = true := by
            have := sp_at (l := s) (by omega)
            rw [← hkk, hc] at this
            rw [Option.some.inj this]
            rfl
          have HK := Lib.hid hkk
          clear hkk hq
          go_wp2_with fail
          refine Calls.mono (pint_any (s.drop (k + 1)) (by rw [List.length_drop]; omega) _ hw0) ?_
          rintro e W1 ⟨⟨E1, rfl⟩, hb1⟩
          have hwA := hw0.below hb1 hw0.1.size
          have hbwA := hb0.trans (hb1.mono (by rw [al_size]; omega))
          have hzA := (hb1.block w.heap.size (by rw [al_size]; omega)).trans hcz
          clear hb1
          go_wp2_with fail
          refine Calls.mono (pint_any (s.take k) (by rw [List.length_take]; omega) _ hwA) ?_
          rintro e W2 ⟨⟨E2, rfl⟩, hb2⟩
          have hw2 := hwA.below hb2 hwA.1.size
          have hbw2 := hbwA.trans (hb2.mono hbwA.size)
          have hltA := (Array.getElem?_eq_some_iff.1 hzA).1
          have hz2 := (hb2.block w.heap.size hltA).trans hzA
          clear hb2
          have hne : pI (s.take k) = psN s := by rw [HK.out]; rfl
          rw [hne]
          have hde : pI (s.drop (k + 1)) = psD s := by rw [HK.out]; unfold psD; rw [if_pos (by rw [← HK.out]; exact hlt)]
          rw [hde]
          generalize hd : psD s = d at hD hde
          generalize hn : psN s = n at hN hne
          have hc0 := cell_at (i := 0) hz2 rfl
          have hc1 := cell_at (i := 1) hz2 rfl
          have hT := HT.out
          clear hat hhi hlo HT hidx hc hcq hlt' hw0 hwA hzA hbwA
          subst hT
          go_wp2_with fail
          have hb3 := al_below W2 (.cells #[iv n, iv d] 23)
          have hw3 := hw2.below hb3 hw2.1.size
          refine Calls.mono (rValid_any n d hN.1 hN.2 hD.1 hD.2 _) ?_
          rintro e W3 ⟨rfl, hb4⟩
          have hw4 := hw3.below hb4 hw3.1.size
          have hz3 := (hb4.block W2.heap.size (by rw [al_size]; omega)).trans (al_at W2 #[iv n, iv d] 23)
          have hlt2 := (Array.getElem?_eq_some_iff.1 hz2).1
          have hlt3 := (Array.getElem?_eq_some_iff.1 hz3).1
          have hbw4 := hbw2.trans ((hb3.trans (hb4.mono (by rw [al_size]; omega))).mono hbw2.size)
          have hz4 := (hb4.block w.heap.size (by rw [al_size]; omega)).trans ((hb3.block _ hlt2).trans hz2)
          clear hb4 hb3 hc0 hc1
          have hpv : rParseV s = cond (validF n d && decide (txt n d = s)) (.tuple #[frV n d, .bool true]) (.tuple #[frV 0 0, .bool false]) := by
            unfold rParseV okR okT
            rw [decide_eq_true (show s.length ≤ 40 by omega), hn, hd]
            rfl
          have hlt4 := (Array.getElem?_eq_some_iff.1 hz4).1
          cases hv : validF n d
          · have hpv' : rParseV s = .tuple #[frV 0 0, .bool false] := by rw [hpv, hv]; rfl
            have hc0 := cell_at (i := 0) hz4 rfl
            have hc1 := cell_at (i := 1) hz4 rfl
            have hf0 : W3.frozen? ⟨w.heap.size, 0, none⟩ = false := by simp [World.frozen?, hz4]
            have hf1 : W3.frozen? ⟨w.heap.size, 1, none⟩ = false := by simp [World.frozen?, hz4]
            have hend := fun a b : Int => set2 hz4 (u := iv a) (v := iv b)
            have hE0 := fun a b => cell_at (i := 0) (hend a b) rfl
            have hE1 := fun a b => cell_at (i := 1) (hend a b) rfl
            have hbe : ∀ a b : Int, Below w.heap.size w ((W3.setCell ⟨w.heap.size, 0, none⟩ (iv a)).setCell ⟨w.heap.size, 1, none⟩ (iv b)) := fun a b => (hbw4.setCell (Nat.le_refl _) _).setCell (Nat.le_refl _) _
            simp only [List.getElem_toArray, List.getElem_cons_zero, List.getElem_cons_succ] at hc0 hc1 hE0 hE1
            clear hend hz4 hz3 hw4
            go_wp2_with fail
            simp [bodyPost, results, Tryd.results36, go_sem, hpv', hE0, hE1]
            exact hbe 0 0
          · have hc0 := cell_at (i := 0) hz3 rfl
            have hc1 := cell_at (i := 1) hz3 rfl
            simp only [List.getElem_toArray, List.getElem_cons_zero, List.getElem_cons_succ] at hc0 hc1
            go_wp2_with fail
            refine Calls.mono (rText_any n d hN hD _ hw4) ?_
            rintro e W4 ⟨rfl, hb5⟩
            have hbw5 := hbw4.trans (hb5.mono hbw4.size)
            have hz5 := (hb5.block w.heap.size hlt4).trans hz4
            have hz6 := (hb5.block W2.heap.size hlt3).trans hz3
            clear hc0 hc1 hb5 hz4 hz3
            have hc0 := cell_at (i := 0) hz6 rfl
            have hc1 := cell_at (i := 1) hz6 rfl
            have hc2 := cell_at (i := 0) hz5 rfl
            have hc3 := cell_at (i := 1) hz5 rfl
            have hf0 : W4.frozen? ⟨w.heap.size, 0, none⟩ = false := by simp [World.frozen?, hz5]
            have hf1 : W4.frozen? ⟨w.heap.size, 1, none⟩ = false := by simp [World.frozen?, hz5]
            have hend := fun a b : Int => set2 hz5 (u := iv a) (v := iv b)
            have hE0 := fun a b => cell_at (i := 0) (hend a b) rfl
            have hE1 := fun a b => cell_at (i := 1) (hend a b) rfl
            have hbe : ∀ a b : Int, Below w.heap.size w ((W4.setCell ⟨w.heap.size, 0, none⟩ (iv a)).setCell ⟨w.heap.size, 1, none⟩ (iv b)) := fun a b => (hbw5.setCell (Nat.le_refl _) _).setCell (Nat.le_refl _) _
            simp only [List.getElem_toArray, List.getElem_cons_zero, List.getElem_cons_succ] at hc0 hc1 hc2 hc3 hE0 hE1
            clear hend hz5 hz6 hw4
            by_cases ht : txt n d = s
            · have hpv' : rParseV s = .tuple #[frV n d, .bool true] := by rw [hpv, hv, decide_eq_true ht]; rfl
              simp only [ht]
              go_wp2_with fail
              simp [bodyPost, results, Tryd.results36, go_sem, hpv', hE0, hE1]
              exact hbe n d
            · have hpv' : rParseV s = .tuple #[frV 0 0, .bool false] := by rw [hpv, hv, decide_eq_false ht]; rfl
              have htb : (txt n d == s) = false := by rw [beq_eq_false_iff_ne]; exact ht
              go_wp2_with fail
              simp [bodyPost, results, Tryd.results36, go_sem, hpv', hE0, hE1]
              exact hbe 0 0
      · have hkn : Hid (sp s = s.length) := Lib.hid (by omega)
        have hwA := hw0
        have hbwA := hb0
        have hzA := hcz
        go_wp2_with fail
        refine Calls.mono (pint_any s (by omega) _ hwA) ?_
        rintro e W2 ⟨⟨E2, rfl⟩, hb2⟩
        have hw2 := hwA.below hb2 hwA.1.size
        have hbw2 := hbwA.trans (hb2.mono hbwA.size)
        have hltA := (Array.getElem?_eq_some_iff.1 hzA).1
        have hz2 := (hb2.block w.heap.size hltA).trans hzA
        clear hb2
        have hne : pI s = psN s := by have := hkn.out; unfold psN; rw [show sp s = s.length by omega, List.take_length]
        rw [hne]
        have hd : psD s = 1 := by have := hkn.out; unfold psD; rw [if_neg (by omega)]
        have h1i : In64 1 := by unfold In64; omega
        generalize hn : psN s = n at hN hne
        have hc0 := cell_at (i := 0) hz2 rfl
        have hc1 := cell_at (i := 1) hz2 rfl
        have hT := HT.out
        clear hat hhi hlo HT hw0 hwA hzA hbwA
        subst hT
        go_wp2_with fail
        have hb3 := al_below W2 (.cells #[iv n, iv 1] 23)
        have hw3 := hw2.below hb3 hw2.1.size
        refine Calls.mono (rValid_any n 1 hN.1 hN.2 h1i.1 h1i.2 _) ?_
        rintro e W3 ⟨rfl, hb4⟩
        have hw4 := hw3.below hb4 hw3.1.size
        have hz3 := (hb4.block W2.heap.size (by rw [al_size]; omega)).trans (al_at W2 #[iv n, iv 1] 23)
        have hlt2 := (Array.getElem?_eq_some_iff.1 hz2).1
        have hlt3 := (Array.getElem?_eq_some_iff.1 hz3).1
        have hbw4 := hbw2.trans ((hb3.trans (hb4.mono (by rw [al_size]; omega))).mono hbw2.size)
        have hz4 := (hb4.block w.heap.size (by rw [al_size]; omega)).trans ((hb3.block _ hlt2).trans hz2)
        clear hb4 hb3 hc0 hc1
        have hpv : rParseV s = cond (validF n 1 && decide (txt n 1 = s)) (.tuple #[frV n 1, .bool true]) (.tuple #[frV 0 0, .bool false]) := by
          unfold rParseV okR okT
          rw [decide_eq_true (show s.length ≤ 40 by omega), hn, hd]
          rfl
        have hlt4 := (Array.getElem?_eq_some_iff.1 hz4).1
        cases hv : validF n 1
        · have hpv' : rParseV s = .tuple #[frV 0 0, .bool false] := by rw [hpv, hv]; rfl
          have hc0 := cell_at (i := 0) hz4 rfl
          have hc1 := cell_at (i := 1) hz4 rfl
          have hf0 : W3.frozen? ⟨w.heap.size, 0, none⟩ = false := by simp [World.frozen?, hz4]
          have hf1 : W3.frozen? ⟨w.heap.size, 1, none⟩ = false := by simp [World.frozen?, hz4]
          have hend := fun a b : Int => set2 hz4 (u := iv a) (v := iv b)
          have hE0 := fun a b => cell_at (i := 0) (hend a b) rfl
          have hE1 := fun a b => cell_at (i := 1) (hend a b) rfl
          have hbe : ∀ a b : Int, Below w.heap.size w ((W3.setCell ⟨w.heap.size, 0, none⟩ (iv a)).setCell ⟨w.heap.size, 1, none⟩ (iv b)) := fun a b => (hbw4.setCell (Nat.le_refl _) _).setCell (Nat.le_refl _) _
          simp only [List.getElem_toArray, List.getElem_cons_zero, List.getElem_cons_succ] at hc0 hc1 hE0 hE1
          clear hend hz4 hz3 hw4
          go_wp2_with fail
          simp [bodyPost, results, Tryd.results36, go_sem, hpv', hE0, hE1]
          exact hbe 0 0
        · have hc0 := cell_at (i := 0) hz3 rfl
          have hc1 := cell_at (i := 1) hz3 rfl
          simp only [List.getElem_toArray, List.getElem_cons_zero, List.getElem_cons_succ] at hc0 hc1
          go_wp2_with fail
          refine Calls.mono (rText_any n 1 hN h1i _ hw4) ?_
          rintro e W4 ⟨rfl, hb5⟩
          have hbw5 := hbw4.trans (hb5.mono hbw4.size)
          have hz5 := (hb5.block w.heap.size hlt4).trans hz4
          have hz6 := (hb5.block W2.heap.size hlt3).trans hz3
          clear hc0 hc1 hb5 hz4 hz3
          have hc0 := cell_at (i := 0) hz6 rfl
          have hc1 := cell_at (i := 1) hz6 rfl
          have hc2 := cell_at (i := 0) hz5 rfl
          have hc3 := cell_at (i := 1) hz5 rfl
          have hf0 : W4.frozen? ⟨w.heap.size, 0, none⟩ = false := by simp [World.frozen?, hz5]
          have hf1 : W4.frozen? ⟨w.heap.size, 1, none⟩ = false := by simp [World.frozen?, hz5]
          have hend := fun a b : Int => set2 hz5 (u := iv a) (v := iv b)
          have hE0 := fun a b => cell_at (i := 0) (hend a b) rfl
          have hE1 := fun a b => cell_at (i := 1) (hend a b) rfl
          have hbe : ∀ a b : Int, Below w.heap.size w ((W4.setCell ⟨w.heap.size, 0, none⟩ (iv a)).setCell ⟨w.heap.size, 1, none⟩ (iv b)) := fun a b => (hbw5.setCell (Nat.le_refl _) _).setCell (Nat.le_refl _) _
          simp only [List.getElem_toArray, List.getElem_cons_zero, List.getElem_cons_succ] at hc0 hc1 hc2 hc3 hE0 hE1
          clear hend hz5 hz6 hw4
          by_cases ht : txt n 1 = s
          · have hpv' : rParseV s = .tuple #[frV n 1, .bool true] := by rw [hpv, hv, decide_eq_true ht]; rfl
            simp only [ht]
            go_wp2_with fail
            simp [bodyPost, results, Tryd.results36, go_sem, hpv', hE0, hE1]
            exact hbe n 1
          · have hpv' : rParseV s = .tuple #[frV 0 0, .bool false] := by rw [hpv, hv, decide_eq_false ht]; rfl
            have htb : (txt n 1 == s) = false := by rw [beq_eq_false_iff_ne]; exact ht
            go_wp2_with fail
            simp [bodyPost, results, Tryd.results36, go_sem, hpv', hE0, hE1]
            exact hbe 0 0
end Go.Proofs.YtdjnnbjpaohaiaaDoor
