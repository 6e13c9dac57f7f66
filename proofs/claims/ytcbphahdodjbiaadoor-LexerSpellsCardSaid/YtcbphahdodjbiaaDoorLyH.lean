/- Layer 9 (lexer): valid tokens of the program. -/
import Derived.Test.YtcbphahdodjbiaaDoorLyG
namespace Go.Proofs.YtcbphahdodjbiaaDoor
open Go.RowKit Go.Ev
set_option maxRecDepth 100000

theorem itoa_len {n : Int} (h : In64 n) : (Lib.itoa n).length ≤ 20 := by
  unfold In64 at h
  unfold Lib.itoa
  split
  · have := dec_len 18 n.natAbs (by omega)
    simp
    omega
  · have := dec_len 18 n.toNat (by omega)
    omega
theorem spell_len (k : Int) (t : List UInt8) {n : Int} (ht : t.length ≤ 500) (hn : In64 n) : (spellF k t n).length ≤ 502 := by
  have := itoa_len hn
  unfold spellF
  split
  · omega
  · split
    · omega
    · split
      · simp; omega
      · simp
theorem eqTok0 (k n a x m b : Int) (t u : List UInt8) (w : World) : (Op.equalIn 10000 23 (tokV k t n a) (tokV x u m b)).run Tryd.prog w = .ok (decide (k = x ∧ t = u ∧ n = m ∧ a = b)) w := by
  have u3 := Tryd.underlying2
  have u4 := Tryd.underlying3
  have u5 := Tryd.underlying9
  have hS : Tryd.prog.underlying 23 = some (.struct (Tryd.prog.fieldsOf 23)) := by kernel_rfl
  have hp : Tryd.prog.stoodInHeld 23 = false := by kernel_rfl
  rw [show (10000 : Nat) = 9999 + 1 from rfl, run_equalIn_agg w 9999 23 _ _ hS hp]
  simp only [Program.fieldsOf, Tryd.underlying23]
  go_simp
  by_cases h1 : k = x <;> by_cases h2 : t = u <;> by_cases h3 : n = m <;> by_cases h4 : a = b <;> simp [h1, h2, h3, h4]
noncomputable def valF (k : Int) (t : List UInt8) (n : Int) : Bool := decide (spellF k t n ≠ []) && (decide ((firstF (spellF k t n)).e = 0) && (decide ((firstF (spellF k t n)).len = (spellF k t n).length) && decide ((firstF (spellF k t n)).k = k ∧ (firstF (spellF k t n)).t = t ∧ (firstF (spellF k t n)).n = n)))
set_option maxHeartbeats 1000000 in
theorem valid_any (k : Int) (t : List UInt8) (n a : Int) (ht : t.length ≤ 500) (hn : In64 n) (w : World) (hw : LxW w) : Calls Tryd.prog 7 #[tokV k t n a] w fun e w' => e = .returned (.bool (valF k t n)) ∧ Below w.heap.size w w' := by
  have hlen := spell_len k t ht hn
  have HV : Hid (valF k t n = (decide (spellF k t n ≠ []) && (decide ((firstF (spellF k t n)).e = 0) && (decide ((firstF (spellF k t n)).len = (spellF k t n).length) && decide ((firstF (spellF k t n)).k = k ∧ (firstF (spellF k t n)).t = t ∧ (firstF (spellF k t n)).n = n))))) := rfl
  have HS := Lib.hid (fun w hw => spelling_any k t n a ht hn w hw)
  generalize spellF k t n = s at hlen HV HS
  have hb0 := al_below w (.cells #[iv k, strV t, iv n, iv a] 23)
  have hw0 := hw.below hb0 hw.1
  have hcz := al_at w #[iv k, strV t, iv n, iv a] 23
  go_enter Tryd.func7, Tryd.ntmps7
  go_wp2_with fail
  refine Calls.mono (HS.out _ hw0) ?_
  rintro e W1 ⟨rfl, hb1⟩
  have hz1 := (hb1.block w.heap.size (by rw [al_size]; omega)).trans hcz
  have hbw1 := hb0.trans (hb1.mono (by rw [al_size]; omega))
  have hw1 := hw0.below hb1 hw0.1
  clear hb1 hcz
  cases s with
  | nil =>
    have hr : valF k t n = false := by rw [HV.out]; rfl
    go_wp2_with fail
    simp [bodyPost, results, Tryd.results7, go_sem, hr]
    exact hbw1
  | cons c r =>
    go_wp2_with fail
    refine Calls.mono (first_any c r (by omega) _ hw1) ?_
    rintro e W2 ⟨rfl, hb2⟩
    have hz2 := (hb2.block w.heap.size (Array.getElem?_eq_some_iff.1 hz1).1).trans hz1
    have hbw2 := hbw1.trans (hb2.mono hbw1.size)
    obtain ⟨R, hR⟩ : ∃ R, R = firstF (c :: r) := ⟨_, rfl⟩
    rw [← hR] at HV ⊢
    clear hR hb2 hz1
    obtain ⟨k', t', n', len, e0⟩ := R
    simp only [ftV]
    simp only at HV
    have hlt := (Array.getElem?_eq_some_iff.1 hz2).1
    have hX1 : (W2.alloc (.cells #[iv k', strV t', iv n', iv 0] 23)).heap[w.heap.size]? = some (.cells #[iv k, strV t, iv n, iv a] 23 (0, 0)) := (Below.heap_alloc _ _ _ hlt).trans hz2
    have hX2 := al_at W2 #[iv k', strV t', iv n', iv 0] 23
    have hY1 : (W2.alloc (.cells #[iv k', strV t', iv n', iv a] 23)).heap[w.heap.size]? = some (.cells #[iv k, strV t, iv n, iv a] 23 (0, 0)) := (Below.heap_alloc _ _ _ hlt).trans hz2
    have hY2 := al_at W2 #[iv k', strV t', iv n', iv a] 23
    have ha0 := cell_at (i := 0) hX1 rfl
    have ha1 := cell_at (i := 1) hX1 rfl
    have ha2 := cell_at (i := 2) hX1 rfl
    have ha3 := cell_at (i := 3) hX1 rfl
    have hb0' := cell_at (i := 0) hX2 rfl
    have hb1' := cell_at (i := 1) hX2 rfl
    have hb2' := cell_at (i := 2) hX2 rfl
    have hb3' := cell_at (i := 3) hX2 rfl
    have hf := (four_frozen hX2).2.2.2
    have hg0 := cell_at (i := 0) hY1 rfl
    have hg1 := cell_at (i := 1) hY1 rfl
    have hg2 := cell_at (i := 2) hY1 rfl
    have hg3 := cell_at (i := 3) hY1 rfl
    have hh0 := cell_at (i := 0) hY2 rfl
    have hh1 := cell_at (i := 1) hY2 rfl
    have hh2 := cell_at (i := 2) hY2 rfl
    have hh3 := cell_at (i := 3) hY2 rfl
    have hbY : Below w.heap.size w (W2.alloc (.cells #[iv k', strV t', iv n', iv a] 23)) := hbw2.trans ((al_below W2 _).mono hbw2.size)
    simp only [List.getElem_toArray, List.getElem_cons_zero, List.getElem_cons_succ] at ha0 ha1 ha2 ha3 hb0' hb1' hb2' hb3' hg0 hg1 hg2 hg3 hh0 hh1 hh2 hh3
    clear hz2 hX1 hX2 hY1 hY2
    by_cases he : e0 = 0
    case neg =>
      have he' : (e0 == 0) = false := by simpa using he
      have hr : valF k t n = false := by rw [HV.out, decide_eq_false he]; simp
      go_wp2_with fail
      simp [bodyPost, results, Tryd.results7, go_sem, hr]
      exact hbY
    subst he
    by_cases hl : len = (c :: r).length
    case neg =>
      have hl' : ((len : Int) == ((c :: r).length : Int)) = false := by rw [beq_eq_false_iff_ne]; omega
      have hl2 : ((len : Int) == (r.length : Int) + 1) = false := by rw [beq_eq_false_iff_ne]; rw [List.length_cons] at hl; omega
      have hr : valF k t n = false := by rw [HV.out, decide_eq_false hl]; simp
      go_wp2_with fail
      simp [bodyPost, results, Tryd.results7, go_sem]
      exact hbY
    have hl' : ((len : Int) == ((c :: r).length : Int)) = true := by rw [hl]; simp
    have hr : valF k t n = decide (k' = k ∧ t' = t ∧ n' = n) := by rw [HV.out, hl]; simp
    have hq := fun w => eqTok0 k' n' a k n a t' t w
    go_wp2_with fail
    simp [bodyPost, results, Tryd.results7, go_sem]
    exact hbY
/-- What Spell returns. -/
noncomputable def spV (k : Int) (t : List UInt8) (n : Int) : Value := cond (valF k t n) (.tuple #[strV (spellF k t n), iv 0]) (.tuple #[strV [], iv 2])
theorem spell_any (k : Int) (t : List UInt8) (n a : Int) (ht : t.length ≤ 500) (hn : In64 n) (w : World) (hw : LxW w) : Calls Tryd.prog 5 #[tokV k t n a] w fun e w' => e = .returned (spV k t n) ∧ Below w.heap.size w w' := by
  have hlen := spell_len k t ht hn
  have HV := Lib.hid (fun w hw => valid_any k t n a ht hn w hw)
  have HS := Lib.hid (fun w hw => spelling_any k t n a ht hn w hw)
  have HR : Hid (spV k t n = cond (valF k t n) (.tuple #[strV (spellF k t n), iv 0]) (.tuple #[strV [], iv 2])) := rfl
  generalize spellF k t n = s at hlen HS HR
  generalize valF k t n = v at HV HR
  have hb0 := al_below w (.cells #[iv k, strV t, iv n, iv a] 23)
  have hw0 := hw.below hb0 hw.1
  have hcz := al_at w #[iv k, strV t, iv n, iv a] 23
  go_enter Tryd.func5, Tryd.ntmps5
  go_wp2_with fail
  refine Calls.mono (HV.out _ hw0) ?_
  rintro e W1 ⟨rfl, hb1⟩
  have hz1 := (hb1.block w.heap.size (by rw [al_size]; omega)).trans hcz
  have hbw1 := hb0.trans (hb1.mono (by rw [al_size]; omega))
  have hw1 := hw0.below hb1 hw0.1
  clear hb1 hcz
  have hc0 := cell_at (i := 0) hz1 rfl
  have hc1 := cell_at (i := 1) hz1 rfl
  have hc2 := cell_at (i := 2) hz1 rfl
  have hc3 := cell_at (i := 3) hz1 rfl
  simp only [List.getElem_toArray, List.getElem_cons_zero, List.getElem_cons_succ] at hc0 hc1 hc2 hc3
  cases v
  · have hr : spV k t n = .tuple #[strV [], iv 2] := HR.out
    go_wp2_with fail
    simp [bodyPost, results, Tryd.results5, go_sem, hr]
    exact hbw1
  · have hr : spV k t n = .tuple #[strV s, iv 0] := HR.out
    go_wp2_with fail
    refine Calls.mono (HS.out _ hw1) ?_
    rintro e W2 ⟨rfl, hb2⟩
    have hbw2 := hbw1.trans (hb2.mono hbw1.size)
    go_wp2_with fail
    refine Calls.mono (clone_any s (by omega) _) ?_
    rintro e W3 ⟨rfl, hb3⟩
    have hbw3 := hbw2.trans (hb3.mono hbw2.size)
    go_wp2_with fail
    simp [bodyPost, results, Tryd.results5, go_sem, hr]
    exact hbw3
end Go.Proofs.YtcbphahdodjbiaaDoor
