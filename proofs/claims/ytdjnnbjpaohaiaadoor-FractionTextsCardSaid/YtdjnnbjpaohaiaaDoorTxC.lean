/- Layer 4 (fraction): Text of both. -/
import Derived.Test.YtdjnnbjpaohaiaaDoorTxB
import Derived.WalkKit
import Derived.WalkSpells
import Derived.WalkLawsBesides
import Derived.Deep.QuietTactic
import Derived.BigQuiet
import Derived.LoopN
import Derived.Lib.Hide
namespace Go.Proofs.YtdjnnbjpaohaiaaDoor
open Go.RowKit Go.Ev
set_option maxRecDepth 100000

theorem al_at (w : World) (c : Array Value) (t : TypeId) : (w.alloc (.cells c t)).heap[w.heap.size]? = some (.cells c t (0, 0)) := Array.getElem?_push_size
theorem al_below (w : World) (o : Obj) : Below w.heap.size w (w.alloc o) := (Below.refl _ w).alloc (Nat.le_refl _) o
theorem al_size (w : World) (o : Obj) : (w.alloc o).heap.size = w.heap.size + 1 := Array.size_push ..
theorem str_app (a b : List UInt8) : (⟨a.toArray⟩ : ByteArray) ++ ⟨b.toArray⟩ = ⟨(a ++ b).toArray⟩ := by
  apply ByteArray.ext
  simp [ByteArray.data_append]
theorem str_size (a : List UInt8) : (⟨a.toArray⟩ : ByteArray).size = a.length := by simp [ByteArray.size]

theorem rText_any (n d : Int) (h1 : In64 n) (h2 : In64 d) (w : World) (hw : TxW w) : Calls Tryd.prog 38 #[frV n d] w fun e w' => e = .returned (strV (txt n d)) ∧ Below w.heap.size w w' := by
  have ls := itoa_len64 h1
  have ld := itoa_len64 h2
  go_enter Tryd.func38, Tryd.ntmps38
  go_wp2_with fail
  have hb0 := al_below w (.cells #[iv n, iv d] 23)
  have hw0 := hw.below hb0 hw.1.size
  refine Calls.mono (fmt_any n h1 _ hw0) ?_
  rintro e W1 ⟨rfl, hb1⟩
  have hc1 : W1.heap[w.heap.size]? = some (.cells #[iv n, iv d] 23 (0, 0)) := (hb1.block _ (by rw [al_size]; omega)).trans (al_at _ _ _)
  have hc2 := cell_at (i := 1) hc1 rfl
  have hw1 : TxW W1 := hw0.below hb1 hw0.1.size
  have hb2 : Below w.heap.size w W1 := hb0.trans (hb1.mono (by rw [al_size]; omega))
  clear hb0 hb1
  by_cases hd : d = 1
  · subst hd
    have ht : txt n 1 = Lib.itoa n := rfl
    go_wp2_with fail
    simp [bodyPost, results, Tryd.results38, go_sem, ht]
    exact hb2
  · have hd' : (d == 1) = false := by simpa using hd
    have ht : txt n d = Lib.itoa n ++ 47 :: Lib.itoa d := by unfold txt; rw [if_neg hd]
    go_wp2_with fail
    refine Calls.mono (fmt_any d h2 _ hw1) ?_
    rintro e W2 ⟨rfl, hb3⟩
    have hb4 : Below w.heap.size w W2 := hb2.trans (hb3.mono hb2.size)
    have e1 : (⟨#[47]⟩ : ByteArray) ++ ⟨(Lib.itoa d).toArray⟩ = ⟨(47 :: Lib.itoa d).toArray⟩ := str_app [47] _
    have e2 : (⟨(Lib.itoa n).toArray⟩ : ByteArray) ++ ⟨(47 :: Lib.itoa d).toArray⟩ = ⟨(Lib.itoa n ++ 47 :: Lib.itoa d).toArray⟩ := str_app _ _
    go_wp2_with fail
    simp [bodyPost, results, Tryd.results38, go_sem, ht]
    exact hb4

/-- What Text returns. -/
def textV (n d : Int) : Value := cond (validF n d) (.tuple #[strV (txt n d), iv 0]) (.tuple #[strV [], iv 1])
theorem pText_any (n d : Int) (h1 : In64 n) (h2 : In64 d) (w : World) (hw : TxW w) : Calls Tryd.prog 37 #[frV n d] w fun e w' => e = .returned (textV n d) ∧ Below w.heap.size w w' := by
  have ls := itoa_len64 h1
  have ld := itoa_len64 h2
  unfold textV
  go_enter Tryd.func37, Tryd.ntmps37
  go_wp2_with fail
  have hb0 := al_below w (.cells #[iv n, iv d] 23)
  have hw0 := hw.below hb0 hw.1.size
  refine Calls.mono (valid_any n d h1.1 h1.2 h2.1 h2.2 _) ?_
  rintro e W0 ⟨rfl, hb1⟩
  have hc0 : W0.heap[w.heap.size]? = some (.cells #[iv n, iv d] 23 (0, 0)) := (hb1.block _ (by rw [al_size]; omega)).trans (al_at _ _ _)
  have hc3 := cell_at (i := 0) hc0 rfl
  have hw1 : TxW W0 := hw0.below hb1 hw0.1.size
  have hb2 : Below w.heap.size w W0 := hb0.trans (hb1.mono (by rw [al_size]; omega))
  have hlt : w.heap.size < W0.heap.size := Nat.lt_of_lt_of_le (by rw [al_size]; omega) hb1.size
  clear hb0 hb1
  by_cases hv : validF n d = true
  · go_wp2_with fail
    refine Calls.mono (fmt_any n h1 _ hw1) ?_
    rintro e W1 ⟨rfl, hb1⟩
    have hc1 : W1.heap[w.heap.size]? = some (.cells #[iv n, iv d] 23 (0, 0)) := (hb1.block _ hlt).trans hc0
    have hc2 := cell_at (i := 1) hc1 rfl
    have hw2 : TxW W1 := hw1.below hb1 hw1.1.size
    have hb3 : Below w.heap.size w W1 := hb2.trans (hb1.mono hb2.size)
    by_cases hd : d = 1
    · subst hd
      have ht : txt n 1 = Lib.itoa n := rfl
      go_wp2_with fail
      simp [bodyPost, results, Tryd.results37, go_sem, ht, hv]
      exact hb3
    · have hd' : (d == 1) = false := by simpa using hd
      have ht : txt n d = Lib.itoa n ++ 47 :: Lib.itoa d := by unfold txt; rw [if_neg hd]
      go_wp2_with fail
      refine Calls.mono (fmt_any d h2 _ hw2) ?_
      rintro e W2 ⟨rfl, hb4⟩
      have hb5 : Below w.heap.size w W2 := hb3.trans (hb4.mono hb3.size)
      have e1 : (⟨#[47]⟩ : ByteArray) ++ ⟨(Lib.itoa d).toArray⟩ = ⟨(47 :: Lib.itoa d).toArray⟩ := str_app [47] _
      have e2 : (⟨(Lib.itoa n).toArray⟩ : ByteArray) ++ ⟨(47 :: Lib.itoa d).toArray⟩ = ⟨(Lib.itoa n ++ 47 :: Lib.itoa d).toArray⟩ := str_app _ _
      go_wp2_with fail
      simp [bodyPost, results, Tryd.results37, go_sem, ht, hv]
      exact hb5
  · go_wp2_with fail
    simp [bodyPost, results, Tryd.results37, go_sem, hv]
    exact hb2
end Go.Proofs.YtdjnnbjpaohaiaaDoor
