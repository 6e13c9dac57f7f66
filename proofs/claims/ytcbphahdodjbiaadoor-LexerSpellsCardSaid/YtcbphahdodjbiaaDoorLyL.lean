/- Layer 9 (lexer): texts of the reference. -/
import Derived.Test.YtcbphahdodjbiaaDoorLyK
namespace Go.Proofs.YtcbphahdodjbiaaDoor
open Go.RowKit Go.Ev
set_option maxRecDepth 100000

theorem sp_at {q : UInt8} : ∀ {l : List UInt8}, sp q l < l.length → l[sp q l]? = some q
  | [], h => absurd h (by simp)
  | c :: r, h => by
    unfold sp at h ⊢
    by_cases hc : c = q
    · subst hc; simp
    · rw [if_neg hc] at h ⊢
      simpa using sp_at (l := r) (by simpa using h)
theorem sp_before {q : UInt8} : ∀ {l : List UInt8} {i : Nat}, i < sp q l → l[i]? ≠ some q
  | [], i, h => absurd h (by simp [sp])
  | c :: r, i, h => by
    unfold sp at h
    by_cases hc : c = q
    · rw [if_pos hc] at h; omega
    · rw [if_neg hc] at h
      cases i with
      | zero => simpa using hc
      | succ i => simpa using sp_before (l := r) (i := i) (by omega)
noncomputable def rTextF (r : List UInt8) : FT := if sp 34 r = r.length then ⟨0, [], 0, sp 34 r + 1, 2⟩ else ⟨3, r.take (sp 34 r), 0, sp 34 r + 2, if labelS ⟨(r.take (sp 34 r)).toArray⟩ = true then 0 else 4⟩
theorem two_cells {W : World} {b : Nat} {x0 x1 x2 x3 : Value} {t : TypeId} (h : W.heap[b]? = some (.cells #[x0, x1, x2, x3] t (0, 0))) (u0 u1 : Value) :
    ((W.setCell ⟨b, 0, none⟩ u0).setCell ⟨b, 1, none⟩ u1).heap[b]? = some (.cells #[u0, u1, x2, x3] t (0, 0)) := by
  simp [World.setCell, Array.getElem?_modify, h]
set_option maxHeartbeats 2000000 in
theorem rText_any (c : UInt8) (r : List UInt8) (hl : (c :: r).length ≤ 1000) (hlt : pLt c.toNat = false) (hdg : pDg c.toNat = false) (h45 : c ≠ 45) (h34 : c = 34) (w : World) : Calls Tryd.prog 14 #[strV (c :: r), iv 0] w fun e w' => e = .returned (rtV (rTextF r)) ∧ Below w.heap.size w w' := by
  have hc45 : ((c.toNat : Int) == 45) = false := by rw [u8_45]; exact decide_eq_false h45
  have hc34 : ((c.toNat : Int) == 34) = true := by rw [u8_34]; exact decide_eq_true h34
  clear h34 h45
  have hsl := sp_le 34 r
  have HB : Hid (∀ i, i < sp 34 r → r[i]? ≠ some 34) := Lib.hid (fun i h => sp_before h)
  have HA : Hid (sp 34 r < r.length → r[sp 34 r]? = some 34) := Lib.hid sp_at
  have HF : Hid (rTextF r = if sp 34 r = r.length then ⟨0, [], 0, sp 34 r + 1, 2⟩ else ⟨3, r.take (sp 34 r), 0, sp 34 r + 2, if labelS ⟨(r.take (sp 34 r)).toArray⟩ = true then 0 else 4⟩) := rfl
  generalize sp 34 r = p at hsl HB HA HF
  have hex : (⟨(c :: r).toArray⟩ : ByteArray).extract 1 (p + 1) = ⟨(r.take p).toArray⟩ := by
    apply ByteArray.ext
    simp [ByteArray.data_extract]
  have hlen : (c :: r).length = r.length + 1 := List.length_cons
  have h0 : (⟨(c :: r).toArray⟩ : ByteArray)[0]'(by rw [str_size]; simp) = c := rfl
  have hp : (0 : Int) < ((c :: r).length : Int) := by rw [List.length_cons]; omega
  have hhi : ∀ i : Nat, (⟨(c :: r).toArray⟩ : ByteArray).extract 0 i = ⟨((c :: r).take i).toArray⟩ := fun i => str_hi (c :: r) i
  have HL : Hid (∀ w, Calls Tryd.prog 26 #[.int .u8 (c.toNat : Int)] w fun e w' => e = .returned (.bool false) ∧ Below w.heap.size w w') := Lib.hid (fun w => by
    have := byte_calls mixed tLt c w
    rw [hlt] at this
    exact this)
  have HD := Lib.hid (fun w => byte_calls mixed tDgR c w)
  have hbb0 := al_below w (.cells #[iv 0, strV [], iv 0, iv 0] 23)
  have hcz0 := al_at w #[iv 0, strV [], iv 0, iv 0] 23
  have hs0 := al_size w (.cells #[iv 0, strV [], iv 0, iv 0] 23)
  generalize hw0e : w.alloc (.cells #[iv 0, strV [], iv 0, iv 0] 23) = w0 at hbb0 hcz0 hs0
  have hbb1 := hbb0.trans ((al_below w0 (.cells #[iv 0, strV [], iv 0, iv 1] 23)).mono hbb0.size)
  have hcz1 := al_at w0 #[iv 0, strV [], iv 0, iv 1] 23
  have hcy1 := (Below.heap_alloc w0 (.cells #[iv 0, strV [], iv 0, iv 1] 23) w.heap.size (by omega)).trans hcz0
  have hs1 := al_size w0 (.cells #[iv 0, strV [], iv 0, iv 1] 23)
  rw [hs0] at hcz1
  subst hw0e
  go_enter Tryd.func14, Tryd.ntmps14
  go_wp2_with fail
  refine Calls.mono (HL.out _) ?_
  rintro e W1 ⟨rfl, hb1⟩
  have hz1 := (hb1.block (w.heap.size + 1) (by rw [hs1, hs0]; omega)).trans hcz1
  have hy1 := (hb1.block w.heap.size (by rw [hs1, hs0]; omega)).trans hcy1
  have hbw1 := hbb1.trans (hb1.mono hbb1.size)
  clear hb1 hcz1 hcy1
  go_wp2_with fail
  refine Calls.mono (HD.out _) ?_
  rintro e W2 ⟨rfl, hb2⟩
  have hz2 := (hb2.block (w.heap.size + 1) (Array.getElem?_eq_some_iff.1 hz1).1).trans hz1
  have hy2 := (hb2.block w.heap.size (Array.getElem?_eq_some_iff.1 hy1).1).trans hy1
  have hbw2 := hbw1.trans (hb2.mono hbw1.size)
  clear hb2 hz1 hy1
  rw [hdg]
  clear hdg hlt
  go_wp2_with fail
  go_loopw [14] (fun i wr => ∃ k : Nat, k ≤ p ∧ i = .int .i64 ((k : Int) + 1) ∧ wr = W2) (fun i _ => r.length + 1 - (intOf i).toNat)
  case atStart => exact ⟨0, Nat.zero_le _, rfl, rfl⟩
  case round =>
    obtain ⟨k, hk, rfl, rfl⟩ := hrel
    have i2 : IntKind.i64.wrap ((k : Int) + 1 + 1) = (k : Int) + 1 + 1 := by rw [IntKind.wrap_i64]; omega
    have i0 : (0 : Int) ≤ (k : Int) + 1 := by omega
    have it : ((k : Int) + 1).toNat = k + 1 := by omega
    by_cases hkl : k < r.length
    · have i1 : (k : Int) + 1 < ((c :: r).length : Int) := by omega
      have i3 : (k : Int) < (r.length : Int) := by omega
      have hix : (⟨(c :: r).toArray⟩ : ByteArray)[k + 1]'(by rw [str_size]; omega) = r[k]'hkl := rfl
      have HC : Hid (r[k]? = some (r[k]'hkl)) := Lib.hid (List.getElem?_eq_getElem hkl)
      generalize r[k]'hkl = d at hix HC
      by_cases hkp : k < p
      · have hd34 : ((d.toNat : Int) == 34) = false := by
          rw [u8_34]
          exact decide_eq_false fun h => HB.out k hkp (by rw [HC.out, h])
        go_wp2_with fail
        refine ⟨⟨k + 1, by omega, by simp, by trivial⟩, ?_⟩
        simp [intOf]
        omega
      · have hpk : p = k := by omega
        subst hpk
        have hd34 : ((d.toNat : Int) == 34) = true := by
          have := HA.out hkl
          rw [HC.out] at this
          cases this
          rfl
        clear hkp
        have hzX := two_cells hz2 (iv 3) (strV (r.take p))
        have hyX := (Below.heap_setCell (wr.setCell ⟨w.heap.size + 1, 0, none⟩ (iv 3)) ⟨w.heap.size + 1, 1, none⟩ (strV (r.take p)) w.heap.size (by show w.heap.size ≠ w.heap.size + 1; omega)).trans ((Below.heap_setCell wr ⟨w.heap.size + 1, 0, none⟩ (iv 3) w.heap.size (by show w.heap.size ≠ w.heap.size + 1; omega)).trans hy2)
        have hbX : Below w.heap.size w ((wr.setCell ⟨w.heap.size + 1, 0, none⟩ (iv 3)).setCell ⟨w.heap.size + 1, 1, none⟩ (strV (r.take p))) := (hbw2.setCell (by show w.heap.size ≤ w.heap.size + 1; omega) _).setCell (by show w.heap.size ≤ w.heap.size + 1; omega) _
        have hc0 := cell_at (i := 0) hz2 rfl
        have hc1 := cell_at (i := 1) hz2 rfl
        have hc2 := cell_at (i := 2) hz2 rfl
        have hc3 := cell_at (i := 3) hz2 rfl
        have hd0 := cell_at (i := 0) hy2 rfl
        have hd1 := cell_at (i := 1) hy2 rfl
        have hd2 := cell_at (i := 2) hy2 rfl
        have hd3 := cell_at (i := 3) hy2 rfl
        obtain ⟨hf0, hf1, hf2, hf3⟩ := four_frozen hz2
        obtain ⟨hg0, hg1, hg2, hg3⟩ := four_frozen hy2
        simp only [List.getElem_toArray, List.getElem_cons_zero, List.getElem_cons_succ] at hc0 hc1 hc2 hc3 hd0 hd1 hd2 hd3
        have hnl : ((p : Int) + 1 == ((c :: r).length : Int)) = false := by rw [beq_eq_false_iff_ne]; omega
        have hnl2 : ((p : Int) == (r.length : Int)) = false := by rw [beq_eq_false_iff_ne]; omega
        clear hz2 hy2
        go_wp2_with fail
        refine Calls.mono (rLabel_any ⟨(r.take p).toArray⟩ (by rw [str_size, List.length_take]; omega) _) ?_
        rintro e W3 ⟨rfl, hb3⟩
        have hz3 := (hb3.block (w.heap.size + 1) (Array.getElem?_eq_some_iff.1 hzX).1).trans hzX
        have hy3 := (hb3.block w.heap.size (Array.getElem?_eq_some_iff.1 hyX).1).trans hyX
        have hbw3 := hbX.trans (hb3.mono hbX.size)
        clear hb3 hzX hyX hc0 hc1 hc2 hc3 hd0 hd1 hd2 hd3 hf0 hf1 hf2 hf3 hg0 hg1 hg2 hg3
        have hc0 := cell_at (i := 0) hz3 rfl
        have hc1 := cell_at (i := 1) hz3 rfl
        have hc2 := cell_at (i := 2) hz3 rfl
        have hc3 := cell_at (i := 3) hz3 rfl
        have hd0 := cell_at (i := 0) hy3 rfl
        have hd1 := cell_at (i := 1) hy3 rfl
        have hd2 := cell_at (i := 2) hy3 rfl
        have hd3 := cell_at (i := 3) hy3 rfl
        obtain ⟨hf0, hf1, hf2, hf3⟩ := four_frozen hz3
        obtain ⟨hg0, hg1, hg2, hg3⟩ := four_frozen hy3
        simp only [List.getElem_toArray, List.getElem_cons_zero, List.getElem_cons_succ] at hc0 hc1 hc2 hc3 hd0 hd1 hd2 hd3
        have hE0 := fun u0 u1 u2 u3 => cell_at (i := 0) (four_cells hy3 u0 u1 u2 u3) rfl
        have hE1 := fun u0 u1 u2 u3 => cell_at (i := 1) (four_cells hy3 u0 u1 u2 u3) rfl
        have hE2 := fun u0 u1 u2 u3 => cell_at (i := 2) (four_cells hy3 u0 u1 u2 u3) rfl
        have hE3 := fun u0 u1 u2 u3 => cell_at (i := 3) (four_cells hy3 u0 u1 u2 u3) rfl
        have hbe := fun u0 u1 u2 u3 => four_below hbw3 (Nat.le_refl _) u0 u1 u2 u3
        simp only [List.getElem_toArray, List.getElem_cons_zero, List.getElem_cons_succ] at hE0 hE1 hE2 hE3
        clear hz3 hy3
        have hne : p ≠ r.length := by omega
        have i4 : IntKind.i64.wrap ((p : Int) + 1 + 1) = (p : Int) + 2 := by rw [IntKind.wrap_i64]; omega
        clear hix i2
        cases hL : labelS ⟨(r.take p).toArray⟩
        · have hr : rtV (rTextF r) = .tuple #[tokV 3 (r.take p) 0 1, iv ((p : Int) + 2), iv 4] := by rw [HF.out, if_neg hne, hL]; rfl
          clear hL hne
          go_wp2_with fail
          simp [bodyPost, results, Tryd.results14, go_sem, hr, hE0, hE1, hE2, hE3]
          exact hbe _ _ _ _
        · have hr : rtV (rTextF r) = .tuple #[tokV 3 (r.take p) 0 1, iv ((p : Int) + 2), iv 0] := by rw [HF.out, if_neg hne, hL]; rfl
          clear hL hne
          go_wp2_with fail
          simp [bodyPost, results, Tryd.results14, go_sem, hr, hE0, hE1, hE2, hE3]
          exact hbe _ _ _ _
    · have hpk : p = r.length := by omega
      have hkr : k = r.length := by omega
      subst hkr
      have hr : rtV (rTextF r) = .tuple #[tokV 0 [] 0 1, iv ((r.length : Int) + 1), iv 2] := by rw [HF.out, if_pos hpk, hpk]; rfl
      clear hpk hk
      have hc0 := cell_at (i := 0) hz2 rfl
      have hc1 := cell_at (i := 1) hz2 rfl
      have hc2 := cell_at (i := 2) hz2 rfl
      have hc3 := cell_at (i := 3) hz2 rfl
      have hd0 := cell_at (i := 0) hy2 rfl
      have hd1 := cell_at (i := 1) hy2 rfl
      have hd2 := cell_at (i := 2) hy2 rfl
      have hd3 := cell_at (i := 3) hy2 rfl
      obtain ⟨hf0, hf1, hf2, hf3⟩ := four_frozen hz2
      obtain ⟨hg0, hg1, hg2, hg3⟩ := four_frozen hy2
      simp only [List.getElem_toArray, List.getElem_cons_zero, List.getElem_cons_succ] at hc0 hc1 hc2 hc3 hd0 hd1 hd2 hd3
      have hE0 := fun u0 u1 u2 u3 => cell_at (i := 0) (four_cells hy2 u0 u1 u2 u3) rfl
      have hE1 := fun u0 u1 u2 u3 => cell_at (i := 1) (four_cells hy2 u0 u1 u2 u3) rfl
      have hE2 := fun u0 u1 u2 u3 => cell_at (i := 2) (four_cells hy2 u0 u1 u2 u3) rfl
      have hE3 := fun u0 u1 u2 u3 => cell_at (i := 3) (four_cells hy2 u0 u1 u2 u3) rfl
      have hbe := fun u0 u1 u2 u3 => four_below hbw2 (Nat.le_refl _) u0 u1 u2 u3
      simp only [List.getElem_toArray, List.getElem_cons_zero, List.getElem_cons_succ] at hE0 hE1 hE2 hE3
      clear hz2 hy2
      go_wp2_with fail
      simp [bodyPost, results, Tryd.results14, go_sem, hr, hE0, hE1, hE2, hE3]
      exact hbe _ _ _ _
end Go.Proofs.YtcbphahdodjbiaaDoor
