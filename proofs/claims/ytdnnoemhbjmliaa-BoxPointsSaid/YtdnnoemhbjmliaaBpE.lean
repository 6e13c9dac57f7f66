/- Layer 6 (box): BoxPoints, worked out by cases. -/
import Derived.Test.YtdnnoemhbjmliaaBpA
namespace Go.Proofs.Ytdnnoemhbjmliaa
open Go.RowKit Go.Ev
set_option maxRecDepth 100000
theorem evK4tt (a b c d e f g h i j k l x y z c0 c1 c2 c3 c4 c5 h0 h1 h2 h3 h4 h5 : Int) (t3 t5 t6 : Bool) :
    @evalBeside (toldV (bpSym a b c d e f g h i j k l x y z c0 c1 c2 c3 c4 c5 h0 h1 h2 h3 h4 h5) (bpBase 0 0 ++ (bpHas true false false true ++ bpParts 4)) [] (bpMm ++ (bpOv true true true ++ bpT true true t3 true t5 t6))) Try.prog 300 3 bpArgs [] = some (.bool true) := by
  cases t3 <;> cases t5 <;> cases t6 <;> kernel_rfl
theorem evK4tf (a b c d e f g h i j k l x y z c0 c1 c2 c3 c4 c5 h0 h1 h2 h3 h4 h5 : Int) (t3 t5 t6 : Bool) :
    @evalBeside (toldV (bpSym a b c d e f g h i j k l x y z c0 c1 c2 c3 c4 c5 h0 h1 h2 h3 h4 h5) (bpBase 0 0 ++ (bpHas true false false true ++ bpParts 4)) [] (bpMm ++ (bpOv true true true ++ bpT true false t3 true t5 t6))) Try.prog 300 3 bpArgs [] = some (.bool true) := by
  cases t3 <;> cases t5 <;> cases t6 <;> kernel_rfl
theorem evK4ft (a b c d e f g h i j k l x y z c0 c1 c2 c3 c4 c5 h0 h1 h2 h3 h4 h5 : Int) (t3 t5 t6 : Bool) :
    @evalBeside (toldV (bpSym a b c d e f g h i j k l x y z c0 c1 c2 c3 c4 c5 h0 h1 h2 h3 h4 h5) (bpBase 0 0 ++ (bpHas true false false true ++ bpParts 4)) [] (bpMm ++ (bpOv true true true ++ bpT false true t3 true t5 t6))) Try.prog 300 3 bpArgs [] = some (.bool true) := by
  cases t3 <;> cases t5 <;> cases t6 <;> kernel_rfl
theorem evK4ff (a b c d e f g h i j k l x y z c0 c1 c2 c3 c4 c5 h0 h1 h2 h3 h4 h5 : Int) (t3 t5 t6 : Bool) :
    @evalBeside (toldV (bpSym a b c d e f g h i j k l x y z c0 c1 c2 c3 c4 c5 h0 h1 h2 h3 h4 h5) (bpBase 0 0 ++ (bpHas true false false true ++ bpParts 4)) [] (bpMm ++ (bpOv true true true ++ bpT false false t3 true t5 t6))) Try.prog 300 3 bpArgs [] = some (.bool true) := by
  cases t3 <;> cases t5 <;> cases t6 <;> kernel_rfl
theorem evK5tt (a b c d e f g h i j k l x y z c0 c1 c2 c3 c4 c5 h0 h1 h2 h3 h4 h5 : Int) (t3 t4 t6 : Bool) :
    @evalBeside (toldV (bpSym a b c d e f g h i j k l x y z c0 c1 c2 c3 c4 c5 h0 h1 h2 h3 h4 h5) (bpBase 0 0 ++ (bpHas true false false true ++ bpParts 5)) [] (bpMm ++ (bpOv true true true ++ bpT true true t3 t4 true t6))) Try.prog 300 3 bpArgs [] = some (.bool true) := by
  cases t3 <;> cases t4 <;> cases t6 <;> kernel_rfl
theorem evK5tf (a b c d e f g h i j k l x y z c0 c1 c2 c3 c4 c5 h0 h1 h2 h3 h4 h5 : Int) (t3 t4 t6 : Bool) :
    @evalBeside (toldV (bpSym a b c d e f g h i j k l x y z c0 c1 c2 c3 c4 c5 h0 h1 h2 h3 h4 h5) (bpBase 0 0 ++ (bpHas true false false true ++ bpParts 5)) [] (bpMm ++ (bpOv true true true ++ bpT true false t3 t4 true t6))) Try.prog 300 3 bpArgs [] = some (.bool true) := by
  cases t3 <;> cases t4 <;> cases t6 <;> kernel_rfl
theorem evK5ft (a b c d e f g h i j k l x y z c0 c1 c2 c3 c4 c5 h0 h1 h2 h3 h4 h5 : Int) (t3 t4 t6 : Bool) :
    @evalBeside (toldV (bpSym a b c d e f g h i j k l x y z c0 c1 c2 c3 c4 c5 h0 h1 h2 h3 h4 h5) (bpBase 0 0 ++ (bpHas true false false true ++ bpParts 5)) [] (bpMm ++ (bpOv true true true ++ bpT false true t3 t4 true t6))) Try.prog 300 3 bpArgs [] = some (.bool true) := by
  cases t3 <;> cases t4 <;> cases t6 <;> kernel_rfl
theorem evK5ff (a b c d e f g h i j k l x y z c0 c1 c2 c3 c4 c5 h0 h1 h2 h3 h4 h5 : Int) (t3 t4 t6 : Bool) :
    @evalBeside (toldV (bpSym a b c d e f g h i j k l x y z c0 c1 c2 c3 c4 c5 h0 h1 h2 h3 h4 h5) (bpBase 0 0 ++ (bpHas true false false true ++ bpParts 5)) [] (bpMm ++ (bpOv true true true ++ bpT false false t3 t4 true t6))) Try.prog 300 3 bpArgs [] = some (.bool true) := by
  cases t3 <;> cases t4 <;> cases t6 <;> kernel_rfl
theorem evK6tt (a b c d e f g h i j k l x y z c0 c1 c2 c3 c4 c5 h0 h1 h2 h3 h4 h5 : Int) (t3 t4 t5 : Bool) :
    @evalBeside (toldV (bpSym a b c d e f g h i j k l x y z c0 c1 c2 c3 c4 c5 h0 h1 h2 h3 h4 h5) (bpBase 0 0 ++ (bpHas true false false true ++ bpParts 6)) [] (bpMm ++ (bpOv true true true ++ bpT true true t3 t4 t5 true))) Try.prog 300 3 bpArgs [] = some (.bool true) := by
  cases t3 <;> cases t4 <;> cases t5 <;> kernel_rfl
theorem evK6tf (a b c d e f g h i j k l x y z c0 c1 c2 c3 c4 c5 h0 h1 h2 h3 h4 h5 : Int) (t3 t4 t5 : Bool) :
    @evalBeside (toldV (bpSym a b c d e f g h i j k l x y z c0 c1 c2 c3 c4 c5 h0 h1 h2 h3 h4 h5) (bpBase 0 0 ++ (bpHas true false false true ++ bpParts 6)) [] (bpMm ++ (bpOv true true true ++ bpT true false t3 t4 t5 true))) Try.prog 300 3 bpArgs [] = some (.bool true) := by
  cases t3 <;> cases t4 <;> cases t5 <;> kernel_rfl
theorem evK6ft (a b c d e f g h i j k l x y z c0 c1 c2 c3 c4 c5 h0 h1 h2 h3 h4 h5 : Int) (t3 t4 t5 : Bool) :
    @evalBeside (toldV (bpSym a b c d e f g h i j k l x y z c0 c1 c2 c3 c4 c5 h0 h1 h2 h3 h4 h5) (bpBase 0 0 ++ (bpHas true false false true ++ bpParts 6)) [] (bpMm ++ (bpOv true true true ++ bpT false true t3 t4 t5 true))) Try.prog 300 3 bpArgs [] = some (.bool true) := by
  cases t3 <;> cases t4 <;> cases t5 <;> kernel_rfl
theorem evK6ff (a b c d e f g h i j k l x y z c0 c1 c2 c3 c4 c5 h0 h1 h2 h3 h4 h5 : Int) (t3 t4 t5 : Bool) :
    @evalBeside (toldV (bpSym a b c d e f g h i j k l x y z c0 c1 c2 c3 c4 c5 h0 h1 h2 h3 h4 h5) (bpBase 0 0 ++ (bpHas true false false true ++ bpParts 6)) [] (bpMm ++ (bpOv true true true ++ bpT false false t3 t4 t5 true))) Try.prog 300 3 bpArgs [] = some (.bool true) := by
  cases t3 <;> cases t4 <;> cases t5 <;> kernel_rfl
end Go.Proofs.Ytdnnoemhbjmliaa
