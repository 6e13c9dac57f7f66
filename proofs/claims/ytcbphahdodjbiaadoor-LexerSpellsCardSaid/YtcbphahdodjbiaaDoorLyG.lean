/- Layer 9 (lexer): spellings and valid tokens of the program. -/
import Derived.Test.YtcbphahdodjbiaaDoorLyF
namespace Go.Proofs.YtcbphahdodjbiaaDoor
open Go.RowKit Go.Ev
set_option maxRecDepth 100000

def spellF (k : Int) (t : List UInt8) (n : Int) : List UInt8 := if k = 1 ∨ k = 4 then t else if k = 2 then Lib.itoa n else if k = 3 then 34 :: (t ++ [34]) else []
theorem str_app (a b : List UInt8) : (⟨a.toArray⟩ : ByteArray) ++ ⟨b.toArray⟩ = ⟨(a ++ b).toArray⟩ := by
  apply ByteArray.ext
  simp [ByteArray.data_append]
set_option maxHeartbeats 1000000 in
theorem spelling_any (k : Int) (t : List UInt8) (n a : Int) (ht : t.length ≤ 500) (hn : In64 n) (w : World) (hw : LxW w) : Calls Tryd.prog 11 #[tokV k t n a] w fun e w' => e = .returned (strV (spellF k t n)) ∧ Below w.heap.size w w' := by
  have hb0 := al_below w (.cells #[iv k, strV t, iv n, iv a] 23)
  have hw0 := hw.below hb0 hw.1
  have hcz := al_at w #[iv k, strV t, iv n, iv a] 23
  have hc0 := cell_at (i := 0) hcz rfl
  have hc1 := cell_at (i := 1) hcz rfl
  have hc2 := cell_at (i := 2) hcz rfl
  simp only [List.getElem_toArray, List.getElem_cons_zero, List.getElem_cons_succ] at hc0 hc1 hc2
  clear hcz
  have HF : Hid (spellF k t n = if k = 1 ∨ k = 4 then t else if k = 2 then Lib.itoa n else if k = 3 then 34 :: (t ++ [34]) else []) := rfl
  by_cases h1 : k = 1
  · have hr : spellF k t n = t := by rw [HF.out, if_pos (.inl h1)]
    have h1' : (k == 1) = true := by simpa using h1
    clear h1
    go_enter Tryd.func11, Tryd.ntmps11
    go_wp2_with fail
    simp [bodyPost, results, Tryd.results11, go_sem, hr]
    exact hb0
  have h1' : (k == 1) = false := by simpa using h1
  by_cases h4 : k = 4
  · have hr : spellF k t n = t := by rw [HF.out, if_pos (.inr h4)]
    have h4' : (k == 4) = true := by simpa using h4
    clear h1 h4
    go_enter Tryd.func11, Tryd.ntmps11
    go_wp2_with fail
    simp [bodyPost, results, Tryd.results11, go_sem, hr]
    exact hb0
  have h4' : (k == 4) = false := by simpa using h4
  by_cases h2 : k = 2
  · have hr : spellF k t n = Lib.itoa n := by rw [HF.out, if_neg (by omega), if_pos h2]
    have h2' : (k == 2) = true := by simpa using h2
    clear h1 h4 h2
    go_enter Tryd.func11, Tryd.ntmps11
    go_wp2_with fail
    refine Calls.mono (fmt_any n hn _ hw0) ?_
    rintro e W1 ⟨rfl, hb1⟩
    go_wp2_with fail
    simp [bodyPost, results, Tryd.results11, go_sem, hr]
    exact hb0.trans (hb1.mono (by rw [al_size]; omega))
  have h2' : (k == 2) = false := by simpa using h2
  by_cases h3 : k = 3
  · have hr : spellF k t n = 34 :: (t ++ [34]) := by rw [HF.out, if_neg (by omega), if_neg h2, if_pos h3]
    have h3' : (k == 3) = true := by simpa using h3
    have e1 : (⟨#[34]⟩ : ByteArray) ++ ⟨t.toArray⟩ = ⟨(34 :: t).toArray⟩ := str_app [34] t
    have e2 : (⟨(34 :: t).toArray⟩ : ByteArray) ++ ⟨#[34]⟩ = ⟨(34 :: (t ++ [34])).toArray⟩ := str_app (34 :: t) [34]
    clear h1 h4 h2 h3
    go_enter Tryd.func11, Tryd.ntmps11
    go_wp2_with fail
    simp [bodyPost, results, Tryd.results11, go_sem, hr]
    exact hb0
  · have hr : spellF k t n = [] := by rw [HF.out, if_neg (by omega), if_neg h2, if_neg h3]
    have h3' : (k == 3) = false := by simpa using h3
    clear h1 h4 h2 h3
    go_enter Tryd.func11, Tryd.ntmps11
    go_wp2_with fail
    simp [bodyPost, results, Tryd.results11, go_sem, hr]
    exact hb0
end Go.Proofs.YtcbphahdodjbiaaDoor
