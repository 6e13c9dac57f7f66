/- Layer 4 (fraction): signs of numbers of 128 bits; comparisons. -/
import Derived.Test.YtdjnnbjpaohaiaaDoorFrB
import Derived.Test.YtdjnnbjpaohaiaaDoorTsA
namespace Go.Proofs.YtdjnnbjpaohaiaaDoor
open Go.RowKit Go.Ev
set_option maxRecDepth 100000

abbrev intSym (k : IntKind) (n : Int) : Sym := ⟨.int k n, rfl, fun _ h => by cases h⟩
def sgn (z : Int) : Int := if z < 0 then -1 else if z = 0 then 0 else 1
abbrev sgSym (h l c : Int) : Tm → Sym
  | .v 0 => intSym .u64 h
  | .v 1 => intSym .u64 l
  | .v 2 => intSym .i64 c
  | _ => intSym .i64 0
abbrev sgOps (p q r s : Bool) : List KOp :=
  [(.bin .eql 45, [.sy 0, .clo (.int .u64 0)], .clo (.bool p)), (.bin .eql 45, [.sy 1, .clo (.int .u64 0)], .clo (.bool q)),
   (.conv 45 2, [.sy 0], .sy 2), (.bin .neq 2, [.sy 2, .sy 2], .clo (.bool false)),
   (.bin .lss 2, [.sy 2, .clo (.int .i64 0)], .clo (.bool r)), (.bin .gtr 2, [.sy 2, .clo (.int .i64 0)], .clo (.bool s))]
theorem sg_calls (h l c : Int) (hc : IntKind.i64.wrap h = c) {v : Int} (p q r s : Bool) (hp : decide (h = 0) = p) (hq : decide (l = 0) = q) (hr : decide (c < 0) = r) (hs : decide (0 < c) = s)
    (hev : @evalBeside (toldP 0 (sgSym h l c) [] [] (sgOps p q r s)) Tryd.prog 300 49 [.agg [.sy 0, .sy 1]] [] = some (.int .i64 v)) (w : World) :
    Calls Tryd.prog 49 #[.agg #[.int .u64 h, .int .u64 l]] w fun e w' => e = .returned (.int .i64 v) ∧ Below w.heap.size w w' := by
  refine calls_toldV (by kernel_rfl) (sgSym h l c) [] [] (sgOps p q r s) (fun _ h => by cases h) (fun _ h => by cases h) ?_ (args := [.agg [.sy 0, .sy 1]]) (xs := [.agg #[.int .u64 h, .int .u64 l]]) rfl hev w
  intro x hx
  simp only [sgOps, List.mem_cons, List.not_mem_nil, or_false] at hx
  rcases hx with rfl | rfl | rfl | rfl | rfl | rfl
  · exact ⟨[.int .u64 h, .int .u64 0], .bool p, rfl, rfl, tells_eql hp⟩
  · exact ⟨[.int .u64 l, .int .u64 0], .bool q, rfl, rfl, tells_eql hq⟩
  · exact ⟨[.int .u64 h], .int .i64 c, rfl, rfl, tells_int (u := .int .u64) (by kernel_rfl) (by kernel_rfl) hc⟩
  · exact ⟨[.int .i64 c, .int .i64 c], .bool false, rfl, rfl, tells_neq (by simp)⟩
  · exact ⟨[.int .i64 c, .int .i64 0], .bool r, rfl, rfl, tells_lss hr⟩
  · exact ⟨[.int .i64 c, .int .i64 0], .bool s, rfl, rfl, tells_gtr hs⟩
theorem ev00 (h l c : Int) : @evalBeside (toldP 0 (sgSym h l c) [] [] (sgOps true true false false)) Tryd.prog 300 49 [.agg [.sy 0, .sy 1]] [] = some (.int .i64 0) := by kernel_rfl
theorem ev01 (h l c : Int) : @evalBeside (toldP 0 (sgSym h l c) [] [] (sgOps true false false false)) Tryd.prog 300 49 [.agg [.sy 0, .sy 1]] [] = some (.int .i64 1) := by kernel_rfl
theorem evPos (h l c : Int) (q : Bool) : @evalBeside (toldP 0 (sgSym h l c) [] [] (sgOps false q false true)) Tryd.prog 300 49 [.agg [.sy 0, .sy 1]] [] = some (.int .i64 1) := by kernel_rfl
theorem evNeg (h l c : Int) (q : Bool) : @evalBeside (toldP 0 (sgSym h l c) [] [] (sgOps false q true false)) Tryd.prog 300 49 [.agg [.sy 0, .sy 1]] [] = some (.int .i64 (-1)) := by kernel_rfl

theorem sign_any (z : Int) (h0 : -170141183460469231731687303715884105728 ≤ z) (h1 : z < 170141183460469231731687303715884105728) (w : World) :
    Calls Tryd.prog 49 #[wideV z] w fun e w' => e = .returned (.int .i64 (sgn z)) ∧ Below w.heap.size w w' := by
  have key := fun v p q r s => sg_calls (hiW z) (loW z) _ rfl (v := v) p q r s
  have hw : IntKind.i64.wrap (hiW z) = if hiW z < 9223372036854775808 then hiW z else hiW z - 18446744073709551616 := by
    have := hiW_in z
    rw [IntKind.wrap_i64]; split <;> omega
  rw [hw] at key
  by_cases z0 : z = 0
  · subst z0
    exact key 0 true true false false (by decide) (by decide) (by decide) (by decide) (ev00 _ _ _) w
  by_cases zn : z < 0
  · have : 9223372036854775808 ≤ hiW z := by unfold hiW; omega
    have hl := hiW_in z
    rw [show sgn z = -1 by unfold sgn; rw [if_pos zn]]
    exact key (-1) false (decide (loW z = 0)) true false (by rw [decide_eq_false_iff_not]; omega) rfl (by rw [decide_eq_true_eq, if_neg (by omega)]; omega) (by rw [decide_eq_false_iff_not, if_neg (by omega)]; omega) (evNeg _ _ _ _) w
  rw [show sgn z = 1 by unfold sgn; rw [if_neg zn, if_neg z0]]
  have hs : hiW z < 9223372036854775808 := by unfold hiW; omega
  by_cases hh : hiW z = 0
  · have hl : loW z ≠ 0 := by unfold hiW at hh; unfold loW; omega
    exact key 1 true false false false (by simpa using hh) (by simpa using hl) (by rw [if_pos hs, hh]; decide) (by rw [if_pos hs, hh]; decide) (ev01 _ _ _) w
  · have hl := hiW_in z
    exact key 1 false (decide (loW z = 0)) false true (by simpa using hh) rfl (by rw [decide_eq_false_iff_not, if_pos hs]; omega) (by rw [decide_eq_true_eq, if_pos hs]; omega) (evPos _ _ _ _) w
end Go.Proofs.YtdjnnbjpaohaiaaDoor
