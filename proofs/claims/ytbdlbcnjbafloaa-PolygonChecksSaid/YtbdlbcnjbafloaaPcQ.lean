/- Layer 5 (polygon): the law PolygonChecks. -/
import Derived.Test.YtbdlbcnjbafloaaPcP
import Derived.Test.YtbdlbcnjbafloaaPcL
import Derived.Test.YtbdlbcnjbafloaaPoA
namespace Go.Proofs.Ytbdlbcnjbafloaa
open Go.RowKit Go.Ev
set_option maxRecDepth 100000
abbrev lwSym (a : Option Addr) (n c : Nat) (lo hi : Pt) (e s : Int) : Tm → Sym
  | .v 0 => slSym a n c
  | .v 3 => intSym .i64 n
  | .v 41 => intSym .i64 lo.1
  | .v 42 => intSym .i64 lo.2
  | .v 43 => intSym .i64 hi.1
  | .v 44 => intSym .i64 hi.2
  | .v 70 => intSym .i64 e
  | .v 71 => intSym .i64 s
  | _ => intSym .i64 0
abbrev lwK (B : Nat) (L : List Pt) (a : Option Addr) (w : World) : Prop := PtsAt B L a w ∧ B ≤ w.heap.size
theorem lw_kst {B : Nat} {L : List Pt} {a : Option Addr} : ∀ w w', lwK B L a w → Below B w w' → lwK B L a w' := fun _ _ h hb => ⟨h.1.below hb (Nat.le_refl _), Nat.le_trans h.2 hb.size⟩
abbrev lwAbs (L : List Pt) : Abs := { lst := fun _ => ptC L.reverse, cl := [(12, [.sy 0], (fun b => .as b (.v 3)), [(.v 31, tPt, 2)]), (13, [.sy 0], (fun b => .as b (.v 3)), [(.v 31, tPt, 2)]),
  (11, [.mo [.ab (.v 31) tPt 2] [.sy 3], .mo [.ab (.v 31) tPt 2] [.sy 3]], (fun _ => .clo (.bool true)), [])] }
abbrev lwFew (x y z : Bool) : List KOp := [(.ln 23, [.sy 0], .sy 3), (.bin .leq 3, [.sy 3, .clo (iv 16)], .clo (.bool x)), (.bin .gtr 3, [.sy 3, .clo (iv 64)], .clo (.bool y)), (.bin .leq 3, [.sy 3, .clo (iv 80)], .clo (.bool z))]
abbrev lwOK : List KCall := [(5, [], .clo (.bool true)), (7, [.sy 0], .clo (iv 0)), (24, [.sy 0, .clo (.slice none 0 0)], .clo (iv 0)), (25, [.sy 0], .sy 71), (15, [.sy 0], .sy 71),
  (9, [.sy 0], .tup [.agg [.sy 41, .sy 42], .agg [.sy 43, .sy 44], .clo (iv 0)]), (14, [.sy 0], .tup [.agg [.sy 41, .sy 42], .agg [.sy 43, .sy 44]])]
abbrev lwEr : List KCall := [(5, [], .clo (.bool true)), (7, [.sy 0], .sy 70), (24, [.sy 0, .clo (.slice none 0 0)], .sy 70)]
abbrev lwEq : List KEq := [(tPt, .agg [.sy 41, .sy 42], .agg [.sy 41, .sy 42], true), (tPt, .agg [.sy 43, .sy 44], .agg [.sy 43, .sy 44], true)]
abbrev lwS : List KOp := [(.bin .eql 2, [.sy 71, .sy 71], .clo (.bool true))]
abbrev lwN : List KOp := [(.bin .neq 26, [.sy 70, .clo (iv 0)], .clo (.bool true)), (.bin .neq 26, [.sy 70, .sy 70], .clo (.bool false))]
theorem lw_evOK (B : Nat) (L : List Pt) (a : Option Addr) (n c : Nat) (lo hi : Pt) (e s : Int) (x y z : Bool) : outF [] (evalFn0 Try.prog (@evalC (toldX (lwSym a n c lo hi e s) (lwAbs L) lwOK lwEq (lwFew x y z ++ lwS) (lwK B L a) B lw_kst) Try.prog 300 true) 0 3 [.sy 0] ⟨0, []⟩) = some (.clo (.bool true), []) := by
  cases x <;> cases y <;> cases z <;> kernel_rfl
theorem lw_evEr (B : Nat) (L : List Pt) (a : Option Addr) (n c : Nat) (lo hi : Pt) (e s : Int) (x y z : Bool) : outF [] (evalFn0 Try.prog (@evalC (toldX (lwSym a n c lo hi e s) (lwAbs L) lwEr [] (lwFew x y z ++ lwN) (lwK B L a) B lw_kst) Try.prog 300 true) 0 3 [.sy 0] ⟨0, []⟩) = some (.clo (.bool true), []) := by
  cases x <;> cases y <;> cases z <;> kernel_rfl
theorem lw_evNil : resC (evalFn0 Try.prog (@evalC (toldK 0 (lwSym none 0 0 (0, 0) (0, 0) 0 0) [(5, [], .clo (.bool true))] [] [] (fun _ => True) 0 (fun _ _ _ _ => trivial)) Try.prog 300 true) 0 3 [.clo (.slice none 0 0)] ⟨0, []⟩) = some (.clo (.bool true)) := by
  kernel_rfl
end Go.Proofs.Ytbdlbcnjbafloaa
