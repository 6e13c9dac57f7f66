/- Layer 6 (box): BoxPoints, worked out by cases. -/
import Derived.Test.YtdnnoemhbjmliaaBpA
namespace Go.Proofs.Ytdnnoemhbjmliaa
open Go.RowKit Go.Ev
set_option maxRecDepth 100000
theorem evN2ttt (a b c d e f g h i j k l x y z c0 c1 c2 c3 c4 c5 h0 h1 h2 h3 h4 h5 : Int) (t4 t5 t6 : Bool) :
    @evalBeside (toldV (bpSym a b c d e f g h i j k l x y z c0 c1 c2 c3 c4 c5 h0 h1 h2 h3 h4 h5) (bpBase 0 0 ++ (bpHas false true false true ++ bpParts 0)) [] (bpMm ++ (bpOv true true true ++ bpT true true true t4 t5 t6))) Try.prog 300 3 bpArgs [] = some (.bool true) := by
  cases t4 <;> cases t5 <;> cases t6 <;> kernel_rfl
theorem evN2ttf (a b c d e f g h i j k l x y z c0 c1 c2 c3 c4 c5 h0 h1 h2 h3 h4 h5 : Int) (t4 t5 t6 : Bool) :
    @evalBeside (toldV (bpSym a b c d e f g h i j k l x y z c0 c1 c2 c3 c4 c5 h0 h1 h2 h3 h4 h5) (bpBase 0 0 ++ (bpHas false true false true ++ bpParts 0)) [] (bpMm ++ (bpOv true true true ++ bpT true true false t4 t5 t6))) Try.prog 300 3 bpArgs [] = some (.bool true) := by
  cases t4 <;> cases t5 <;> cases t6 <;> kernel_rfl
theorem evN2tft (a b c d e f g h i j k l x y z c0 c1 c2 c3 c4 c5 h0 h1 h2 h3 h4 h5 : Int) (t4 t5 t6 : Bool) :
    @evalBeside (toldV (bpSym a b c d e f g h i j k l x y z c0 c1 c2 c3 c4 c5 h0 h1 h2 h3 h4 h5) (bpBase 0 0 ++ (bpHas false true false true ++ bpParts 0)) [] (bpMm ++ (bpOv true true true ++ bpT true false true t4 t5 t6))) Try.prog 300 3 bpArgs [] = some (.bool true) := by
  cases t4 <;> cases t5 <;> cases t6 <;> kernel_rfl
theorem evN2tff (a b c d e f g h i j k l x y z c0 c1 c2 c3 c4 c5 h0 h1 h2 h3 h4 h5 : Int) (t4 t5 t6 : Bool) :
    @evalBeside (toldV (bpSym a b c d e f g h i j k l x y z c0 c1 c2 c3 c4 c5 h0 h1 h2 h3 h4 h5) (bpBase 0 0 ++ (bpHas false true false true ++ bpParts 0)) [] (bpMm ++ (bpOv true true true ++ bpT true false false t4 t5 t6))) Try.prog 300 3 bpArgs [] = some (.bool true) := by
  cases t4 <;> cases t5 <;> cases t6 <;> kernel_rfl
theorem evN2ftt (a b c d e f g h i j k l x y z c0 c1 c2 c3 c4 c5 h0 h1 h2 h3 h4 h5 : Int) (t4 t5 t6 : Bool) :
    @evalBeside (toldV (bpSym a b c d e f g h i j k l x y z c0 c1 c2 c3 c4 c5 h0 h1 h2 h3 h4 h5) (bpBase 0 0 ++ (bpHas false true false true ++ bpParts 0)) [] (bpMm ++ (bpOv true true true ++ bpT false true true t4 t5 t6))) Try.prog 300 3 bpArgs [] = some (.bool true) := by
  cases t4 <;> cases t5 <;> cases t6 <;> kernel_rfl
theorem evN2ftf (a b c d e f g h i j k l x y z c0 c1 c2 c3 c4 c5 h0 h1 h2 h3 h4 h5 : Int) (t4 t5 t6 : Bool) :
    @evalBeside (toldV (bpSym a b c d e f g h i j k l x y z c0 c1 c2 c3 c4 c5 h0 h1 h2 h3 h4 h5) (bpBase 0 0 ++ (bpHas false true false true ++ bpParts 0)) [] (bpMm ++ (bpOv true true true ++ bpT false true false t4 t5 t6))) Try.prog 300 3 bpArgs [] = some (.bool true) := by
  cases t4 <;> cases t5 <;> cases t6 <;> kernel_rfl
theorem evN2fft (a b c d e f g h i j k l x y z c0 c1 c2 c3 c4 c5 h0 h1 h2 h3 h4 h5 : Int) (t4 t5 t6 : Bool) :
    @evalBeside (toldV (bpSym a b c d e f g h i j k l x y z c0 c1 c2 c3 c4 c5 h0 h1 h2 h3 h4 h5) (bpBase 0 0 ++ (bpHas false true false true ++ bpParts 0)) [] (bpMm ++ (bpOv true true true ++ bpT false false true t4 t5 t6))) Try.prog 300 3 bpArgs [] = some (.bool true) := by
  cases t4 <;> cases t5 <;> cases t6 <;> kernel_rfl
theorem evN2fff (a b c d e f g h i j k l x y z c0 c1 c2 c3 c4 c5 h0 h1 h2 h3 h4 h5 : Int) (t4 t5 t6 : Bool) :
    @evalBeside (toldV (bpSym a b c d e f g h i j k l x y z c0 c1 c2 c3 c4 c5 h0 h1 h2 h3 h4 h5) (bpBase 0 0 ++ (bpHas false true false true ++ bpParts 0)) [] (bpMm ++ (bpOv true true true ++ bpT false false false t4 t5 t6))) Try.prog 300 3 bpArgs [] = some (.bool true) := by
  cases t4 <;> cases t5 <;> cases t6 <;> kernel_rfl
theorem evN3ttt (a b c d e f g h i j k l x y z c0 c1 c2 c3 c4 c5 h0 h1 h2 h3 h4 h5 : Int) (t4 t5 t6 : Bool) :
    @evalBeside (toldV (bpSym a b c d e f g h i j k l x y z c0 c1 c2 c3 c4 c5 h0 h1 h2 h3 h4 h5) (bpBase 0 0 ++ (bpHas true true true true ++ bpParts 0)) [] (bpMm ++ (bpOv true true true ++ bpT true true true t4 t5 t6))) Try.prog 300 3 bpArgs [] = some (.bool true) := by
  cases t4 <;> cases t5 <;> cases t6 <;> kernel_rfl
theorem evN3ttf (a b c d e f g h i j k l x y z c0 c1 c2 c3 c4 c5 h0 h1 h2 h3 h4 h5 : Int) (t4 t5 t6 : Bool) :
    @evalBeside (toldV (bpSym a b c d e f g h i j k l x y z c0 c1 c2 c3 c4 c5 h0 h1 h2 h3 h4 h5) (bpBase 0 0 ++ (bpHas true true true true ++ bpParts 0)) [] (bpMm ++ (bpOv true true true ++ bpT true true false t4 t5 t6))) Try.prog 300 3 bpArgs [] = some (.bool true) := by
  cases t4 <;> cases t5 <;> cases t6 <;> kernel_rfl
theorem evN3tft (a b c d e f g h i j k l x y z c0 c1 c2 c3 c4 c5 h0 h1 h2 h3 h4 h5 : Int) (t4 t5 t6 : Bool) :
    @evalBeside (toldV (bpSym a b c d e f g h i j k l x y z c0 c1 c2 c3 c4 c5 h0 h1 h2 h3 h4 h5) (bpBase 0 0 ++ (bpHas true true true true ++ bpParts 0)) [] (bpMm ++ (bpOv true true true ++ bpT true false true t4 t5 t6))) Try.prog 300 3 bpArgs [] = some (.bool true) := by
  cases t4 <;> cases t5 <;> cases t6 <;> kernel_rfl
theorem evN3tff (a b c d e f g h i j k l x y z c0 c1 c2 c3 c4 c5 h0 h1 h2 h3 h4 h5 : Int) (t4 t5 t6 : Bool) :
    @evalBeside (toldV (bpSym a b c d e f g h i j k l x y z c0 c1 c2 c3 c4 c5 h0 h1 h2 h3 h4 h5) (bpBase 0 0 ++ (bpHas true true true true ++ bpParts 0)) [] (bpMm ++ (bpOv true true true ++ bpT true false false t4 t5 t6))) Try.prog 300 3 bpArgs [] = some (.bool true) := by
  cases t4 <;> cases t5 <;> cases t6 <;> kernel_rfl
theorem evN3ftt (a b c d e f g h i j k l x y z c0 c1 c2 c3 c4 c5 h0 h1 h2 h3 h4 h5 : Int) (t4 t5 t6 : Bool) :
    @evalBeside (toldV (bpSym a b c d e f g h i j k l x y z c0 c1 c2 c3 c4 c5 h0 h1 h2 h3 h4 h5) (bpBase 0 0 ++ (bpHas true true true true ++ bpParts 0)) [] (bpMm ++ (bpOv true true true ++ bpT false true true t4 t5 t6))) Try.prog 300 3 bpArgs [] = some (.bool true) := by
  cases t4 <;> cases t5 <;> cases t6 <;> kernel_rfl
theorem evN3ftf (a b c d e f g h i j k l x y z c0 c1 c2 c3 c4 c5 h0 h1 h2 h3 h4 h5 : Int) (t4 t5 t6 : Bool) :
    @evalBeside (toldV (bpSym a b c d e f g h i j k l x y z c0 c1 c2 c3 c4 c5 h0 h1 h2 h3 h4 h5) (bpBase 0 0 ++ (bpHas true true true true ++ bpParts 0)) [] (bpMm ++ (bpOv true true true ++ bpT false true false t4 t5 t6))) Try.prog 300 3 bpArgs [] = some (.bool true) := by
  cases t4 <;> cases t5 <;> cases t6 <;> kernel_rfl
theorem evN3fft (a b c d e f g h i j k l x y z c0 c1 c2 c3 c4 c5 h0 h1 h2 h3 h4 h5 : Int) (t4 t5 t6 : Bool) :
    @evalBeside (toldV (bpSym a b c d e f g h i j k l x y z c0 c1 c2 c3 c4 c5 h0 h1 h2 h3 h4 h5) (bpBase 0 0 ++ (bpHas true true true true ++ bpParts 0)) [] (bpMm ++ (bpOv true true true ++ bpT false false true t4 t5 t6))) Try.prog 300 3 bpArgs [] = some (.bool true) := by
  cases t4 <;> cases t5 <;> cases t6 <;> kernel_rfl
theorem evN3fff (a b c d e f g h i j k l x y z c0 c1 c2 c3 c4 c5 h0 h1 h2 h3 h4 h5 : Int) (t4 t5 t6 : Bool) :
    @evalBeside (toldV (bpSym a b c d e f g h i j k l x y z c0 c1 c2 c3 c4 c5 h0 h1 h2 h3 h4 h5) (bpBase 0 0 ++ (bpHas true true true true ++ bpParts 0)) [] (bpMm ++ (bpOv true true true ++ bpT false false false t4 t5 t6))) Try.prog 300 3 bpArgs [] = some (.bool true) := by
  cases t4 <;> cases t5 <;> cases t6 <;> kernel_rfl
end Go.Proofs.Ytdnnoemhbjmliaa
