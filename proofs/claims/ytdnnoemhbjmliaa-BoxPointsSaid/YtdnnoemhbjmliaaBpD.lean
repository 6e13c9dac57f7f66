/- Layer 6 (box): BoxPoints, worked out by cases. -/
import Derived.Test.YtdnnoemhbjmliaaBpA
namespace Go.Proofs.Ytdnnoemhbjmliaa
open Go.RowKit Go.Ev
set_option maxRecDepth 100000
theorem evK1tt (a b c d e f g h i j k l x y z c0 c1 c2 c3 c4 c5 h0 h1 h2 h3 h4 h5 : Int) (t4 t5 t6 : Bool) :
    @evalBeside (toldV (bpSym a b c d e f g h i j k l x y z c0 c1 c2 c3 c4 c5 h0 h1 h2 h3 h4 h5) (bpBase 0 0 ++ (bpHas true false false true ++ bpParts 1)) [] (bpMm ++ (bpOv true true true ++ bpT true true true t4 t5 t6))) Try.prog 300 3 bpArgs [] = some (.bool true) := by
  cases t4 <;> cases t5 <;> cases t6 <;> kernel_rfl
theorem evK1tf (a b c d e f g h i j k l x y z c0 c1 c2 c3 c4 c5 h0 h1 h2 h3 h4 h5 : Int) (t4 t5 t6 : Bool) :
    @evalBeside (toldV (bpSym a b c d e f g h i j k l x y z c0 c1 c2 c3 c4 c5 h0 h1 h2 h3 h4 h5) (bpBase 0 0 ++ (bpHas true false false true ++ bpParts 1)) [] (bpMm ++ (bpOv true true true ++ bpT true true false t4 t5 t6))) Try.prog 300 3 bpArgs [] = some (.bool true) := by
  cases t4 <;> cases t5 <;> cases t6 <;> kernel_rfl
theorem evK1ft (a b c d e f g h i j k l x y z c0 c1 c2 c3 c4 c5 h0 h1 h2 h3 h4 h5 : Int) (t4 t5 t6 : Bool) :
    @evalBeside (toldV (bpSym a b c d e f g h i j k l x y z c0 c1 c2 c3 c4 c5 h0 h1 h2 h3 h4 h5) (bpBase 0 0 ++ (bpHas true false false true ++ bpParts 1)) [] (bpMm ++ (bpOv true true true ++ bpT true false true t4 t5 t6))) Try.prog 300 3 bpArgs [] = some (.bool true) := by
  cases t4 <;> cases t5 <;> cases t6 <;> kernel_rfl
theorem evK1ff (a b c d e f g h i j k l x y z c0 c1 c2 c3 c4 c5 h0 h1 h2 h3 h4 h5 : Int) (t4 t5 t6 : Bool) :
    @evalBeside (toldV (bpSym a b c d e f g h i j k l x y z c0 c1 c2 c3 c4 c5 h0 h1 h2 h3 h4 h5) (bpBase 0 0 ++ (bpHas true false false true ++ bpParts 1)) [] (bpMm ++ (bpOv true true true ++ bpT true false false t4 t5 t6))) Try.prog 300 3 bpArgs [] = some (.bool true) := by
  cases t4 <;> cases t5 <;> cases t6 <;> kernel_rfl
theorem evK2tt (a b c d e f g h i j k l x y z c0 c1 c2 c3 c4 c5 h0 h1 h2 h3 h4 h5 : Int) (t4 t5 t6 : Bool) :
    @evalBeside (toldV (bpSym a b c d e f g h i j k l x y z c0 c1 c2 c3 c4 c5 h0 h1 h2 h3 h4 h5) (bpBase 0 0 ++ (bpHas true false false true ++ bpParts 2)) [] (bpMm ++ (bpOv true true true ++ bpT true true true t4 t5 t6))) Try.prog 300 3 bpArgs [] = some (.bool true) := by
  cases t4 <;> cases t5 <;> cases t6 <;> kernel_rfl
theorem evK2tf (a b c d e f g h i j k l x y z c0 c1 c2 c3 c4 c5 h0 h1 h2 h3 h4 h5 : Int) (t4 t5 t6 : Bool) :
    @evalBeside (toldV (bpSym a b c d e f g h i j k l x y z c0 c1 c2 c3 c4 c5 h0 h1 h2 h3 h4 h5) (bpBase 0 0 ++ (bpHas true false false true ++ bpParts 2)) [] (bpMm ++ (bpOv true true true ++ bpT true true false t4 t5 t6))) Try.prog 300 3 bpArgs [] = some (.bool true) := by
  cases t4 <;> cases t5 <;> cases t6 <;> kernel_rfl
theorem evK2ft (a b c d e f g h i j k l x y z c0 c1 c2 c3 c4 c5 h0 h1 h2 h3 h4 h5 : Int) (t4 t5 t6 : Bool) :
    @evalBeside (toldV (bpSym a b c d e f g h i j k l x y z c0 c1 c2 c3 c4 c5 h0 h1 h2 h3 h4 h5) (bpBase 0 0 ++ (bpHas true false false true ++ bpParts 2)) [] (bpMm ++ (bpOv true true true ++ bpT false true true t4 t5 t6))) Try.prog 300 3 bpArgs [] = some (.bool true) := by
  cases t4 <;> cases t5 <;> cases t6 <;> kernel_rfl
theorem evK2ff (a b c d e f g h i j k l x y z c0 c1 c2 c3 c4 c5 h0 h1 h2 h3 h4 h5 : Int) (t4 t5 t6 : Bool) :
    @evalBeside (toldV (bpSym a b c d e f g h i j k l x y z c0 c1 c2 c3 c4 c5 h0 h1 h2 h3 h4 h5) (bpBase 0 0 ++ (bpHas true false false true ++ bpParts 2)) [] (bpMm ++ (bpOv true true true ++ bpT false true false t4 t5 t6))) Try.prog 300 3 bpArgs [] = some (.bool true) := by
  cases t4 <;> cases t5 <;> cases t6 <;> kernel_rfl
theorem evK3tt (a b c d e f g h i j k l x y z c0 c1 c2 c3 c4 c5 h0 h1 h2 h3 h4 h5 : Int) (t4 t5 t6 : Bool) :
    @evalBeside (toldV (bpSym a b c d e f g h i j k l x y z c0 c1 c2 c3 c4 c5 h0 h1 h2 h3 h4 h5) (bpBase 0 0 ++ (bpHas true false false true ++ bpParts 3)) [] (bpMm ++ (bpOv true true true ++ bpT true true true t4 t5 t6))) Try.prog 300 3 bpArgs [] = some (.bool true) := by
  cases t4 <;> cases t5 <;> cases t6 <;> kernel_rfl
theorem evK3tf (a b c d e f g h i j k l x y z c0 c1 c2 c3 c4 c5 h0 h1 h2 h3 h4 h5 : Int) (t4 t5 t6 : Bool) :
    @evalBeside (toldV (bpSym a b c d e f g h i j k l x y z c0 c1 c2 c3 c4 c5 h0 h1 h2 h3 h4 h5) (bpBase 0 0 ++ (bpHas true false false true ++ bpParts 3)) [] (bpMm ++ (bpOv true true true ++ bpT true false true t4 t5 t6))) Try.prog 300 3 bpArgs [] = some (.bool true) := by
  cases t4 <;> cases t5 <;> cases t6 <;> kernel_rfl
theorem evK3ft (a b c d e f g h i j k l x y z c0 c1 c2 c3 c4 c5 h0 h1 h2 h3 h4 h5 : Int) (t4 t5 t6 : Bool) :
    @evalBeside (toldV (bpSym a b c d e f g h i j k l x y z c0 c1 c2 c3 c4 c5 h0 h1 h2 h3 h4 h5) (bpBase 0 0 ++ (bpHas true false false true ++ bpParts 3)) [] (bpMm ++ (bpOv true true true ++ bpT false true true t4 t5 t6))) Try.prog 300 3 bpArgs [] = some (.bool true) := by
  cases t4 <;> cases t5 <;> cases t6 <;> kernel_rfl
theorem evK3ff (a b c d e f g h i j k l x y z c0 c1 c2 c3 c4 c5 h0 h1 h2 h3 h4 h5 : Int) (t4 t5 t6 : Bool) :
    @evalBeside (toldV (bpSym a b c d e f g h i j k l x y z c0 c1 c2 c3 c4 c5 h0 h1 h2 h3 h4 h5) (bpBase 0 0 ++ (bpHas true false false true ++ bpParts 3)) [] (bpMm ++ (bpOv true true true ++ bpT false false true t4 t5 t6))) Try.prog 300 3 bpArgs [] = some (.bool true) := by
  cases t4 <;> cases t5 <;> cases t6 <;> kernel_rfl
end Go.Proofs.Ytdnnoemhbjmliaa
