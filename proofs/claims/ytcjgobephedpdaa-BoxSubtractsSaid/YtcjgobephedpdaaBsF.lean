/- Layer 6 (box): what is left, put behind a list. -/
import Derived.Test.YtcjgobephedpdaaBsA
namespace Go.Proofs.Ytcjgobephedpdaa
open Go.RowKit Go.Ev
set_option maxRecDepth 100000
theorem evApR_tt (p q : Bx) (n0 n1 n2 n3 n4 n5 n6 : Nat) (lst : Tm → List Value) (t3 t4 t5 t6 : Bool) : outA (evalFn0 Try.prog (@evalC (toldX (apSym p q n0 n1 n2 n3 n4 n5 n6) { lst := lst, ap := apL 0 1 (paT true true t3 t4 t5 t6) } [] [] (cmO ++ (ovO true true true ++ paO true true t3 t4 t5 t6)) (fun _ => True) 0 (fun _ _ _ _ => trivial)) Try.prog 300 true) 0 36 [.as 0 (.v 60), s6 0, s6 6] ⟨1, memOf 0 [abB (.v 50) tBx 6]⟩) = some (.v (60 + laL 0 1 [true, true, t3, t4, t5, t6]), some (abB (.v (50 + laL 0 1 [true, true, t3, t4, t5, t6])) tBx 6)) := by
  cases t3 <;> cases t4 <;> cases t5 <;> cases t6 <;> kernel_rfl
theorem evApR_tf (p q : Bx) (n0 n1 n2 n3 n4 n5 n6 : Nat) (lst : Tm → List Value) (t3 t4 t5 t6 : Bool) : outA (evalFn0 Try.prog (@evalC (toldX (apSym p q n0 n1 n2 n3 n4 n5 n6) { lst := lst, ap := apL 0 1 (paT true false t3 t4 t5 t6) } [] [] (cmO ++ (ovO true true true ++ paO true false t3 t4 t5 t6)) (fun _ => True) 0 (fun _ _ _ _ => trivial)) Try.prog 300 true) 0 36 [.as 0 (.v 60), s6 0, s6 6] ⟨1, memOf 0 [abB (.v 50) tBx 6]⟩) = some (.v (60 + laL 0 1 [true, false, t3, t4, t5, t6]), some (abB (.v (50 + laL 0 1 [true, false, t3, t4, t5, t6])) tBx 6)) := by
  cases t3 <;> cases t4 <;> cases t5 <;> cases t6 <;> kernel_rfl
theorem evApR_ft (p q : Bx) (n0 n1 n2 n3 n4 n5 n6 : Nat) (lst : Tm → List Value) (t3 t4 t5 t6 : Bool) : outA (evalFn0 Try.prog (@evalC (toldX (apSym p q n0 n1 n2 n3 n4 n5 n6) { lst := lst, ap := apL 0 1 (paT false true t3 t4 t5 t6) } [] [] (cmO ++ (ovO true true true ++ paO false true t3 t4 t5 t6)) (fun _ => True) 0 (fun _ _ _ _ => trivial)) Try.prog 300 true) 0 36 [.as 0 (.v 60), s6 0, s6 6] ⟨1, memOf 0 [abB (.v 50) tBx 6]⟩) = some (.v (60 + laL 0 1 [false, true, t3, t4, t5, t6]), some (abB (.v (50 + laL 0 1 [false, true, t3, t4, t5, t6])) tBx 6)) := by
  cases t3 <;> cases t4 <;> cases t5 <;> cases t6 <;> kernel_rfl
theorem evApR_ff (p q : Bx) (n0 n1 n2 n3 n4 n5 n6 : Nat) (lst : Tm → List Value) (t3 t4 t5 t6 : Bool) : outA (evalFn0 Try.prog (@evalC (toldX (apSym p q n0 n1 n2 n3 n4 n5 n6) { lst := lst, ap := apL 0 1 (paT false false t3 t4 t5 t6) } [] [] (cmO ++ (ovO true true true ++ paO false false t3 t4 t5 t6)) (fun _ => True) 0 (fun _ _ _ _ => trivial)) Try.prog 300 true) 0 36 [.as 0 (.v 60), s6 0, s6 6] ⟨1, memOf 0 [abB (.v 50) tBx 6]⟩) = some (.v (60 + laL 0 1 [false, false, t3, t4, t5, t6]), some (abB (.v (50 + laL 0 1 [false, false, t3, t4, t5, t6])) tBx 6)) := by
  cases t3 <;> cases t4 <;> cases t5 <;> cases t6 <;> kernel_rfl
theorem evApR (p q : Bx) (n0 n1 n2 n3 n4 n5 n6 : Nat) (lst : Tm → List Value) (t1 t2 t3 t4 t5 t6 : Bool) : outA (evalFn0 Try.prog (@evalC (toldX (apSym p q n0 n1 n2 n3 n4 n5 n6) { lst := lst, ap := apL 0 1 (paT t1 t2 t3 t4 t5 t6) } [] [] (cmO ++ (ovO true true true ++ paO t1 t2 t3 t4 t5 t6)) (fun _ => True) 0 (fun _ _ _ _ => trivial)) Try.prog 300 true) 0 36 [.as 0 (.v 60), s6 0, s6 6] ⟨1, memOf 0 [abB (.v 50) tBx 6]⟩) = some (.v (60 + laL 0 1 [t1, t2, t3, t4, t5, t6]), some (abB (.v (50 + laL 0 1 [t1, t2, t3, t4, t5, t6])) tBx 6)) := by
  cases t1
  · cases t2
    · exact evApR_ff p q n0 n1 n2 n3 n4 n5 n6 lst t3 t4 t5 t6
    · exact evApR_ft p q n0 n1 n2 n3 n4 n5 n6 lst t3 t4 t5 t6
  · cases t2
    · exact evApR_tf p q n0 n1 n2 n3 n4 n5 n6 lst t3 t4 t5 t6
    · exact evApR_tt p q n0 n1 n2 n3 n4 n5 n6 lst t3 t4 t5 t6
end Go.Proofs.Ytcjgobephedpdaa
