/- Layer 6 (box): what is left, put into a new list. -/
import Derived.Test.YtcjgobephedpdaaBsA
namespace Go.Proofs.Ytcjgobephedpdaa
open Go.RowKit Go.Ev
set_option maxRecDepth 100000
theorem evApN_tt (p q : Bx) (t3 t4 t5 t6 : Bool) : outL (evalFn0 Try.prog (@evalC (apC p q (cmO ++ (ovO true true true ++ paO true true t3 t4 t5 t6))) Try.prog 300 true) 0 36 [.clo (.slice none 0 0), s6 0, s6 6] ⟨0, []⟩) = some (paN true true t3 t4 t5 t6, match paN true true t3 t4 t5 t6 with | 0 => none | _ + 1 => some ⟨paC true true t3 t4 t5 t6, tBx, some 6⟩) := by
  cases t3 <;> cases t4 <;> cases t5 <;> cases t6 <;> kernel_rfl
theorem evApN_tf (p q : Bx) (t3 t4 t5 t6 : Bool) : outL (evalFn0 Try.prog (@evalC (apC p q (cmO ++ (ovO true true true ++ paO true false t3 t4 t5 t6))) Try.prog 300 true) 0 36 [.clo (.slice none 0 0), s6 0, s6 6] ⟨0, []⟩) = some (paN true false t3 t4 t5 t6, match paN true false t3 t4 t5 t6 with | 0 => none | _ + 1 => some ⟨paC true false t3 t4 t5 t6, tBx, some 6⟩) := by
  cases t3 <;> cases t4 <;> cases t5 <;> cases t6 <;> kernel_rfl
theorem evApN_ft (p q : Bx) (t3 t4 t5 t6 : Bool) : outL (evalFn0 Try.prog (@evalC (apC p q (cmO ++ (ovO true true true ++ paO false true t3 t4 t5 t6))) Try.prog 300 true) 0 36 [.clo (.slice none 0 0), s6 0, s6 6] ⟨0, []⟩) = some (paN false true t3 t4 t5 t6, match paN false true t3 t4 t5 t6 with | 0 => none | _ + 1 => some ⟨paC false true t3 t4 t5 t6, tBx, some 6⟩) := by
  cases t3 <;> cases t4 <;> cases t5 <;> cases t6 <;> kernel_rfl
theorem evApN_ff (p q : Bx) (t3 t4 t5 t6 : Bool) : outL (evalFn0 Try.prog (@evalC (apC p q (cmO ++ (ovO true true true ++ paO false false t3 t4 t5 t6))) Try.prog 300 true) 0 36 [.clo (.slice none 0 0), s6 0, s6 6] ⟨0, []⟩) = some (paN false false t3 t4 t5 t6, match paN false false t3 t4 t5 t6 with | 0 => none | _ + 1 => some ⟨paC false false t3 t4 t5 t6, tBx, some 6⟩) := by
  cases t3 <;> cases t4 <;> cases t5 <;> cases t6 <;> kernel_rfl
theorem evApN (p q : Bx) (t1 t2 t3 t4 t5 t6 : Bool) : outL (evalFn0 Try.prog (@evalC (apC p q (cmO ++ (ovO true true true ++ paO t1 t2 t3 t4 t5 t6))) Try.prog 300 true) 0 36 [.clo (.slice none 0 0), s6 0, s6 6] ⟨0, []⟩) = some (paN t1 t2 t3 t4 t5 t6, match paN t1 t2 t3 t4 t5 t6 with | 0 => none | _ + 1 => some ⟨paC t1 t2 t3 t4 t5 t6, tBx, some 6⟩) := by
  cases t1
  · cases t2
    · exact evApN_ff p q t3 t4 t5 t6
    · exact evApN_ft p q t3 t4 t5 t6
  · cases t2
    · exact evApN_tf p q t3 t4 t5 t6
    · exact evApN_tt p q t3 t4 t5 t6
end Go.Proofs.Ytcjgobephedpdaa
