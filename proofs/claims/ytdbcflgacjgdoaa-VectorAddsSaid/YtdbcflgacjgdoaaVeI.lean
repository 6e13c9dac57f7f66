/- Contracts of layer 3: Turn, Meet, On at any points; Cross at any vectors; awake. -/
import Derived.Test.YtdbcflgacjgdoaaVeT
import Derived.Test.YtdbcflgacjgdoaaVeE
import Derived.Test.YtdbcflgacjgdoaaVeV
import Derived.Test.YtdbcflgacjgdoaaVeW
import Derived.Test.YtdbcflgacjgdoaaVeX
namespace Go.Proofs.Ytdbcflgacjgdoaa
open Go.RowKit

def ok3 (a b c : Pt) : Bool := inP a && inP b && inP c
def ok4 (a b c d : Pt) : Bool := inP a && inP b && inP c && inP d
def turnV (a b c : Pt) : Int := if ok3 a b c then trn a b c else 0
def meetV (a b c d : Pt) : Int := if ok4 a b c d then meetP a b c d else 0
theorem turn_all (a b c : Pt) (w : World) : Calls Try.prog 21 #[ptV a, ptV b, ptV c] w fun e w' => e = .returned (.tuple #[.int .i64 (turnV a b c), .int .i64 (errOk (ok3 a b c))]) ∧ Below w.heap.size w w' := by
  cases h : ok3 a b c with
  | false => simpa [turnV, errOk, h] using turn3_bad a b c h w
  | true =>
    have h' := h
    simp only [ok3, Bool.and_eq_true] at h'
    simpa [turnV, errOk, h] using turn3_ok a b c h'.1.1 h'.1.2 h'.2 w
theorem meet_all (a b c d : Pt) (w : World) : Calls Try.prog 15 #[ptV a, ptV b, ptV c, ptV d] w fun e w' => e = .returned (.tuple #[.int .i64 (meetV a b c d), .int .i64 (errOk (ok4 a b c d))]) ∧ Below w.heap.size w w' := by
  cases h : ok4 a b c d with
  | false => simpa [meetV, errOk, h] using meet4_bad a b c d h w
  | true =>
    have h' := h
    simp only [ok4, Bool.and_eq_true] at h'
    simpa [meetV, errOk, h] using meet4_ok a b c d h'.1.1.1 h'.1.1.2 h'.1.2 h'.2 w
def crossV3 (a b : V3) : V3 := (a.2.1 * b.2.2 - a.2.2 * b.2.1, a.2.2 * b.1 - a.1 * b.2.2, a.1 * b.2.1 - a.2.1 * b.1)
def crossW (a b : V3) : V3 := if okV a b then crossV3 a b else (0, 0, 0)
theorem cross_all (a b : V3) (w : World) : Calls Try.prog 19 #[vecV a, vecV b] w fun e w' => e = .returned (.tuple #[arr3 (crossW a b).1 (crossW a b).2.1 (crossW a b).2.2, .int .i64 (errOk (okV a b))]) ∧ Below w.heap.size w w' := by
  obtain ⟨x, y, z⟩ := a
  obtain ⟨x', y', z'⟩ := b
  cases h : okV (x, y, z) (x', y', z') with
  | false => simpa [crossW, errOk, h] using cross_bad x y z x' y' z' h w
  | true =>
    have h' := h
    rw [okV, Bool.and_eq_true] at h'
    simpa [crossW, crossV3, errOk, h] using cross_ok x y z x' y' z' h'.1 h'.2 w
set_option maxRecDepth 20000 in
set_option maxHeartbeats 4000000 in
theorem on_all (a b p : Pt) (w : World) : Calls Try.prog 22 #[ptV a, ptV b, ptV p] w fun e w' => e = .returned (.tuple #[.bool (decide (meetV a b p p > 0)), .int .i64 (errOk (ok4 a b p p))]) ∧ Below w.heap.size w w' := by
  have H := Lib.hid (fun W => meet_all a b p p W)
  generalize meetV a b p p = m at H ⊢
  generalize errOk (ok4 a b p p) = n at H ⊢
  have HM := Lib.hid (fun t => made3 w (.cells #[.int .i64 a.1, .int .i64 a.2] t) (.cells #[.int .i64 b.1, .int .i64 b.2] t) (.cells #[.int .i64 p.1, .int .i64 p.2] t))
  go_enter Try.func22, Try.ntmps22
  go_wp2_with fail
  refine (H.out _).mono ?_
  rintro e w1 ⟨rfl, hb⟩
  have HB := Lib.hid ((HM.out 35).2.2.2.1.trans (hb.mono (HM.out 35).2.2.2.1.size))
  clear hb HM
  go_wp2_with fail
  exact bodyPost_ret (v := .tuple #[.bool (decide (m > 0)), .int .i64 n]) (by simp [results, Try.results22, go_sem]) rfl ⟨rfl, HB.out⟩

theorem prim_ex : primV (6, -9, 0) = (2, -3, 0) ∧ primK (6, -9, 0) = 3 ∧ primE (6, -9, 0) = 0 := by decide
set_option maxRecDepth 20000 in
set_option maxHeartbeats 8000000 in
theorem awake_any (w : World) : Calls Try.prog 5 #[] w fun e w' => e = .returned (.bool true) ∧ Below w.heap.size w w' := by
  have c1 := Lib.hid (fun W => dotP_any (1, 2, 3) (4, 5, 6) W)
  rw [show okV (1, 2, 3) (4, 5, 6) = true by decide, show dotV (1, 2, 3) (4, 5, 6) = 32 by decide, if_pos rfl, show errOk true = 0 from rfl] at c1
  have c2 := Lib.hid (fun W => cross_all (1, 2, 3) (4, 5, 6) W)
  rw [show crossW (1, 2, 3) (4, 5, 6) = (-3, 6, -3) by decide, show okV (1, 2, 3) (4, 5, 6) = true by decide, show errOk true = 0 from rfl] at c2
  have c3 := Lib.hid (fun W => prim_any (6, -9, 0) W)
  rw [prim_ex.1, prim_ex.2.1, prim_ex.2.2] at c3
  have c4 := Lib.hid (fun W => turn_all (0, 0) (10, 0) (5, 1) W)
  rw [show turnV (0, 0) (10, 0) (5, 1) = 1 by decide, show ok3 (0, 0) (10, 0) (5, 1) = true by decide, show errOk true = 0 from rfl] at c4
  have c5 := Lib.hid (fun W => meet_all (0, 0) (10, 10) (0, 10) (10, 0) W)
  rw [show meetV (0, 0) (10, 10) (0, 10) (10, 0) = 1 by decide, show ok4 (0, 0) (10, 10) (0, 10) (10, 0) = true by decide, show errOk true = 0 from rfl] at c5
  have c6 := Lib.hid (fun W => on_all (0, 0) (10, 0) (5, 0) W)
  rw [show decide (meetV (0, 0) (10, 0) (5, 0) (5, 0) > 0) = true by decide, show ok4 (0, 0) (10, 0) (5, 0) (5, 0) = true by decide, show errOk true = 0 from rfl] at c6
  have c7 := Lib.hid (fun W => compare_any (0, 0, 0) (0, 0, 1) W)
  rw [show cmpV (0, 0, 0) (0, 0, 1) = -1 by decide] at c7
  have q1 := fun W => eqlA3 (-3) 6 (-3) (-3) 6 (-3) W
  rw [show decide ((-3 : Int) = -3 ∧ (6 : Int) = 6 ∧ (-3 : Int) = -3) = true by decide] at q1
  have q2 := fun W => eqlVec 2 (-3) 0 2 (-3) 0 W
  rw [show decide ((2 : Int) = 2 ∧ (-3 : Int) = -3 ∧ (0 : Int) = 0) = true by decide] at q2
  go_enter Try.func5, Try.ntmps5
  go_wp2_with fail
  refine (c1.out _).mono ?_
  rintro e w1 ⟨rfl, hb1⟩
  have B1 := Lib.hid hb1
  clear hb1 c1
  go_wp2_with fail
  refine (c2.out _).mono ?_
  rintro e w2 ⟨rfl, hb2⟩
  have B2 := Lib.hid (B1.out.trans (hb2.mono B1.out.size))
  clear hb2 c2 B1
  go_wp2_with fail
  refine (c3.out _).mono ?_
  rintro e w3 ⟨rfl, hb3⟩
  have R3 := Lib.hid ((hb3.block _ (by rw [szA]; omega)).trans (heap_alloc_new w2 (.cells #[.int .i64 (-3), .int .i64 6, .int .i64 (-3)] 43)))
  have B3 := Lib.hid ((B2.out.alloc B2.out.size _).trans (hb3.mono (B2.out.alloc B2.out.size _).size))
  generalize w2.heap.size = g1 at R3 ⊢
  clear hb3 c3 B2
  go_wp2_with fail
  refine (c4.out _).mono ?_
  rintro e w4 ⟨rfl, hb4⟩
  have R4 := Lib.hid ((hb4.block _ (by rw [szA]; omega)).trans (heap_alloc_new w3 (.cells #[.int .i64 2, .int .i64 (-3), .int .i64 0] 23)))
  have R4' := Lib.hid ((hb4.block _ (by rw [szA]; have := (Array.getElem?_eq_some_iff.1 R3.out).1; omega)).trans ((heap_alloc_old w3 _ (Array.getElem?_eq_some_iff.1 R3.out).1).trans R3.out))
  have B4 := Lib.hid ((B3.out.alloc B3.out.size _).trans (hb4.mono (B3.out.alloc B3.out.size _).size))
  generalize w3.heap.size = g2 at R4 ⊢
  clear hb4 c4 B3 R3
  go_wp2_with fail
  refine (c5.out _).mono ?_
  rintro e w5 ⟨rfl, hb5⟩
  have R5 := Lib.hid ((hb5.block _ (Array.getElem?_eq_some_iff.1 R4.out).1).trans R4.out)
  have R5' := Lib.hid ((hb5.block _ (Array.getElem?_eq_some_iff.1 R4'.out).1).trans R4'.out)
  have B5 := Lib.hid (B4.out.trans (hb5.mono B4.out.size))
  clear hb5 c5 B4 R4 R4'
  go_wp2_with fail
  refine (c6.out _).mono ?_
  rintro e w6 ⟨rfl, hb6⟩
  obtain ⟨p1, p2, p3, _, _, _⟩ := own3 ((hb6.block _ (Array.getElem?_eq_some_iff.1 R5.out).1).trans R5.out)
  obtain ⟨p4, p5, p6, _, _, _⟩ := own3 ((hb6.block _ (Array.getElem?_eq_some_iff.1 R5'.out).1).trans R5'.out)
  have B6 := Lib.hid (B5.out.trans (hb6.mono B5.out.size))
  clear hb6 c6 B5 R5 R5'
  go_wp2_with fail
  refine (c7.out _).mono ?_
  rintro e w7 ⟨rfl, hb7⟩
  have B7 := Lib.hid (B6.out.trans (hb7.mono B6.out.size))
  clear hb7 c7 B6 p1 p2 p3 p4 p5 p6
  go_wp2_with fail
  go_ret
  exact ⟨rfl, B7.out⟩
end Go.Proofs.Ytdbcflgacjgdoaa
