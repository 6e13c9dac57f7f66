/- Layer 6 (box): BoxPoints, worked out: all cases together. -/
import Derived.Test.YtdnnoemhbjmliaaBpB
import Derived.Test.YtdnnoemhbjmliaaBpC
import Derived.Test.YtdnnoemhbjmliaaBpD
import Derived.Test.YtdnnoemhbjmliaaBpE
namespace Go.Proofs.Ytdnnoemhbjmliaa
open Go.RowKit Go.Ev
set_option maxRecDepth 100000
theorem evNone (a b c d e f g h i j k l x y z c0 c1 c2 c3 c4 c5 h0 h1 h2 h3 h4 h5 : Int) (t1 t2 t3 t4 t5 t6 inA inB hh : Bool) (hm : (inA && !inB) = false) (hx : ((inA || inB) && !hh) = false) :
    @evalBeside (toldV (bpSym a b c d e f g h i j k l x y z c0 c1 c2 c3 c4 c5 h0 h1 h2 h3 h4 h5) (bpBase 0 0 ++ (bpHas inA inB (inA && inB) hh ++ bpParts 0)) [] (bpMm ++ (bpOv true true true ++ bpT t1 t2 t3 t4 t5 t6))) Try.prog 300 3 bpArgs [] = some (.bool true) := by
  cases inA with
  | false =>
    cases inB with
    | false =>
      cases hh with
      | false =>
        cases t1 with
        | false =>
          cases t2 with
          | false =>
            cases t3 with
            | false =>
              exact evN1fff _ _ _ _ _ _ _ _ _ _ _ _ _ _ _ _ _ _ _ _ _ _ _ _ _ _ _ t4 t5 t6
            | true =>
              exact evN1fft _ _ _ _ _ _ _ _ _ _ _ _ _ _ _ _ _ _ _ _ _ _ _ _ _ _ _ t4 t5 t6
          | true =>
            cases t3 with
            | false =>
              exact evN1ftf _ _ _ _ _ _ _ _ _ _ _ _ _ _ _ _ _ _ _ _ _ _ _ _ _ _ _ t4 t5 t6
            | true =>
              exact evN1ftt _ _ _ _ _ _ _ _ _ _ _ _ _ _ _ _ _ _ _ _ _ _ _ _ _ _ _ t4 t5 t6
        | true =>
          cases t2 with
          | false =>
            cases t3 with
            | false =>
              exact evN1tff _ _ _ _ _ _ _ _ _ _ _ _ _ _ _ _ _ _ _ _ _ _ _ _ _ _ _ t4 t5 t6
            | true =>
              exact evN1tft _ _ _ _ _ _ _ _ _ _ _ _ _ _ _ _ _ _ _ _ _ _ _ _ _ _ _ t4 t5 t6
          | true =>
            cases t3 with
            | false =>
              exact evN1ttf _ _ _ _ _ _ _ _ _ _ _ _ _ _ _ _ _ _ _ _ _ _ _ _ _ _ _ t4 t5 t6
            | true =>
              exact evN1ttt _ _ _ _ _ _ _ _ _ _ _ _ _ _ _ _ _ _ _ _ _ _ _ _ _ _ _ t4 t5 t6
      | true =>
        cases t1 with
        | false =>
          cases t2 with
          | false =>
            cases t3 with
            | false =>
              exact evN0fff _ _ _ _ _ _ _ _ _ _ _ _ _ _ _ _ _ _ _ _ _ _ _ _ _ _ _ t4 t5 t6
            | true =>
              exact evN0fft _ _ _ _ _ _ _ _ _ _ _ _ _ _ _ _ _ _ _ _ _ _ _ _ _ _ _ t4 t5 t6
          | true =>
            cases t3 with
            | false =>
              exact evN0ftf _ _ _ _ _ _ _ _ _ _ _ _ _ _ _ _ _ _ _ _ _ _ _ _ _ _ _ t4 t5 t6
            | true =>
              exact evN0ftt _ _ _ _ _ _ _ _ _ _ _ _ _ _ _ _ _ _ _ _ _ _ _ _ _ _ _ t4 t5 t6
        | true =>
          cases t2 with
          | false =>
            cases t3 with
            | false =>
              exact evN0tff _ _ _ _ _ _ _ _ _ _ _ _ _ _ _ _ _ _ _ _ _ _ _ _ _ _ _ t4 t5 t6
            | true =>
              exact evN0tft _ _ _ _ _ _ _ _ _ _ _ _ _ _ _ _ _ _ _ _ _ _ _ _ _ _ _ t4 t5 t6
          | true =>
            cases t3 with
            | false =>
              exact evN0ttf _ _ _ _ _ _ _ _ _ _ _ _ _ _ _ _ _ _ _ _ _ _ _ _ _ _ _ t4 t5 t6
            | true =>
              exact evN0ttt _ _ _ _ _ _ _ _ _ _ _ _ _ _ _ _ _ _ _ _ _ _ _ _ _ _ _ t4 t5 t6
    | true =>
      cases hh with
      | false => cases hx
      | true =>
        cases t1 with
        | false =>
          cases t2 with
          | false =>
            cases t3 with
            | false =>
              exact evN2fff _ _ _ _ _ _ _ _ _ _ _ _ _ _ _ _ _ _ _ _ _ _ _ _ _ _ _ t4 t5 t6
            | true =>
              exact evN2fft _ _ _ _ _ _ _ _ _ _ _ _ _ _ _ _ _ _ _ _ _ _ _ _ _ _ _ t4 t5 t6
          | true =>
            cases t3 with
            | false =>
              exact evN2ftf _ _ _ _ _ _ _ _ _ _ _ _ _ _ _ _ _ _ _ _ _ _ _ _ _ _ _ t4 t5 t6
            | true =>
              exact evN2ftt _ _ _ _ _ _ _ _ _ _ _ _ _ _ _ _ _ _ _ _ _ _ _ _ _ _ _ t4 t5 t6
        | true =>
          cases t2 with
          | false =>
            cases t3 with
            | false =>
              exact evN2tff _ _ _ _ _ _ _ _ _ _ _ _ _ _ _ _ _ _ _ _ _ _ _ _ _ _ _ t4 t5 t6
            | true =>
              exact evN2tft _ _ _ _ _ _ _ _ _ _ _ _ _ _ _ _ _ _ _ _ _ _ _ _ _ _ _ t4 t5 t6
          | true =>
            cases t3 with
            | false =>
              exact evN2ttf _ _ _ _ _ _ _ _ _ _ _ _ _ _ _ _ _ _ _ _ _ _ _ _ _ _ _ t4 t5 t6
            | true =>
              exact evN2ttt _ _ _ _ _ _ _ _ _ _ _ _ _ _ _ _ _ _ _ _ _ _ _ _ _ _ _ t4 t5 t6
  | true =>
    cases inB with
    | false => cases hm
    | true =>
      cases hh with
      | false => cases hx
      | true =>
        cases t1 with
        | false =>
          cases t2 with
          | false =>
            cases t3 with
            | false =>
              exact evN3fff _ _ _ _ _ _ _ _ _ _ _ _ _ _ _ _ _ _ _ _ _ _ _ _ _ _ _ t4 t5 t6
            | true =>
              exact evN3fft _ _ _ _ _ _ _ _ _ _ _ _ _ _ _ _ _ _ _ _ _ _ _ _ _ _ _ t4 t5 t6
          | true =>
            cases t3 with
            | false =>
              exact evN3ftf _ _ _ _ _ _ _ _ _ _ _ _ _ _ _ _ _ _ _ _ _ _ _ _ _ _ _ t4 t5 t6
            | true =>
              exact evN3ftt _ _ _ _ _ _ _ _ _ _ _ _ _ _ _ _ _ _ _ _ _ _ _ _ _ _ _ t4 t5 t6
        | true =>
          cases t2 with
          | false =>
            cases t3 with
            | false =>
              exact evN3tff _ _ _ _ _ _ _ _ _ _ _ _ _ _ _ _ _ _ _ _ _ _ _ _ _ _ _ t4 t5 t6
            | true =>
              exact evN3tft _ _ _ _ _ _ _ _ _ _ _ _ _ _ _ _ _ _ _ _ _ _ _ _ _ _ _ t4 t5 t6
          | true =>
            cases t3 with
            | false =>
              exact evN3ttf _ _ _ _ _ _ _ _ _ _ _ _ _ _ _ _ _ _ _ _ _ _ _ _ _ _ _ t4 t5 t6
            | true =>
              exact evN3ttt _ _ _ _ _ _ _ _ _ _ _ _ _ _ _ _ _ _ _ _ _ _ _ _ _ _ _ t4 t5 t6
theorem evOne1 (a b c d e f g h i j k l x y z c0 c1 c2 c3 c4 c5 h0 h1 h2 h3 h4 h5 : Int) (t2 t3 t4 t5 t6 : Bool) :
    @evalBeside (toldV (bpSym a b c d e f g h i j k l x y z c0 c1 c2 c3 c4 c5 h0 h1 h2 h3 h4 h5) (bpBase 0 0 ++ (bpHas true false false true ++ bpParts 1)) [] (bpMm ++ (bpOv true true true ++ bpT true t2 t3 t4 t5 t6))) Try.prog 300 3 bpArgs [] = some (.bool true) := by
  cases t2 with
  | false =>
    cases t3 with
    | false => exact evK1ff _ _ _ _ _ _ _ _ _ _ _ _ _ _ _ _ _ _ _ _ _ _ _ _ _ _ _ t4 t5 t6
    | true => exact evK1ft _ _ _ _ _ _ _ _ _ _ _ _ _ _ _ _ _ _ _ _ _ _ _ _ _ _ _ t4 t5 t6
  | true =>
    cases t3 with
    | false => exact evK1tf _ _ _ _ _ _ _ _ _ _ _ _ _ _ _ _ _ _ _ _ _ _ _ _ _ _ _ t4 t5 t6
    | true => exact evK1tt _ _ _ _ _ _ _ _ _ _ _ _ _ _ _ _ _ _ _ _ _ _ _ _ _ _ _ t4 t5 t6
theorem evOne2 (a b c d e f g h i j k l x y z c0 c1 c2 c3 c4 c5 h0 h1 h2 h3 h4 h5 : Int) (t1 t3 t4 t5 t6 : Bool) :
    @evalBeside (toldV (bpSym a b c d e f g h i j k l x y z c0 c1 c2 c3 c4 c5 h0 h1 h2 h3 h4 h5) (bpBase 0 0 ++ (bpHas true false false true ++ bpParts 2)) [] (bpMm ++ (bpOv true true true ++ bpT t1 true t3 t4 t5 t6))) Try.prog 300 3 bpArgs [] = some (.bool true) := by
  cases t1 with
  | false =>
    cases t3 with
    | false => exact evK2ff _ _ _ _ _ _ _ _ _ _ _ _ _ _ _ _ _ _ _ _ _ _ _ _ _ _ _ t4 t5 t6
    | true => exact evK2ft _ _ _ _ _ _ _ _ _ _ _ _ _ _ _ _ _ _ _ _ _ _ _ _ _ _ _ t4 t5 t6
  | true =>
    cases t3 with
    | false => exact evK2tf _ _ _ _ _ _ _ _ _ _ _ _ _ _ _ _ _ _ _ _ _ _ _ _ _ _ _ t4 t5 t6
    | true => exact evK2tt _ _ _ _ _ _ _ _ _ _ _ _ _ _ _ _ _ _ _ _ _ _ _ _ _ _ _ t4 t5 t6
theorem evOne3 (a b c d e f g h i j k l x y z c0 c1 c2 c3 c4 c5 h0 h1 h2 h3 h4 h5 : Int) (t1 t2 t4 t5 t6 : Bool) :
    @evalBeside (toldV (bpSym a b c d e f g h i j k l x y z c0 c1 c2 c3 c4 c5 h0 h1 h2 h3 h4 h5) (bpBase 0 0 ++ (bpHas true false false true ++ bpParts 3)) [] (bpMm ++ (bpOv true true true ++ bpT t1 t2 true t4 t5 t6))) Try.prog 300 3 bpArgs [] = some (.bool true) := by
  cases t1 with
  | false =>
    cases t2 with
    | false => exact evK3ff _ _ _ _ _ _ _ _ _ _ _ _ _ _ _ _ _ _ _ _ _ _ _ _ _ _ _ t4 t5 t6
    | true => exact evK3ft _ _ _ _ _ _ _ _ _ _ _ _ _ _ _ _ _ _ _ _ _ _ _ _ _ _ _ t4 t5 t6
  | true =>
    cases t2 with
    | false => exact evK3tf _ _ _ _ _ _ _ _ _ _ _ _ _ _ _ _ _ _ _ _ _ _ _ _ _ _ _ t4 t5 t6
    | true => exact evK3tt _ _ _ _ _ _ _ _ _ _ _ _ _ _ _ _ _ _ _ _ _ _ _ _ _ _ _ t4 t5 t6
theorem evOne4 (a b c d e f g h i j k l x y z c0 c1 c2 c3 c4 c5 h0 h1 h2 h3 h4 h5 : Int) (t1 t2 t3 t5 t6 : Bool) :
    @evalBeside (toldV (bpSym a b c d e f g h i j k l x y z c0 c1 c2 c3 c4 c5 h0 h1 h2 h3 h4 h5) (bpBase 0 0 ++ (bpHas true false false true ++ bpParts 4)) [] (bpMm ++ (bpOv true true true ++ bpT t1 t2 t3 true t5 t6))) Try.prog 300 3 bpArgs [] = some (.bool true) := by
  cases t1 with
  | false =>
    cases t2 with
    | false => exact evK4ff _ _ _ _ _ _ _ _ _ _ _ _ _ _ _ _ _ _ _ _ _ _ _ _ _ _ _ t3 t5 t6
    | true => exact evK4ft _ _ _ _ _ _ _ _ _ _ _ _ _ _ _ _ _ _ _ _ _ _ _ _ _ _ _ t3 t5 t6
  | true =>
    cases t2 with
    | false => exact evK4tf _ _ _ _ _ _ _ _ _ _ _ _ _ _ _ _ _ _ _ _ _ _ _ _ _ _ _ t3 t5 t6
    | true => exact evK4tt _ _ _ _ _ _ _ _ _ _ _ _ _ _ _ _ _ _ _ _ _ _ _ _ _ _ _ t3 t5 t6
theorem evOne5 (a b c d e f g h i j k l x y z c0 c1 c2 c3 c4 c5 h0 h1 h2 h3 h4 h5 : Int) (t1 t2 t3 t4 t6 : Bool) :
    @evalBeside (toldV (bpSym a b c d e f g h i j k l x y z c0 c1 c2 c3 c4 c5 h0 h1 h2 h3 h4 h5) (bpBase 0 0 ++ (bpHas true false false true ++ bpParts 5)) [] (bpMm ++ (bpOv true true true ++ bpT t1 t2 t3 t4 true t6))) Try.prog 300 3 bpArgs [] = some (.bool true) := by
  cases t1 with
  | false =>
    cases t2 with
    | false => exact evK5ff _ _ _ _ _ _ _ _ _ _ _ _ _ _ _ _ _ _ _ _ _ _ _ _ _ _ _ t3 t4 t6
    | true => exact evK5ft _ _ _ _ _ _ _ _ _ _ _ _ _ _ _ _ _ _ _ _ _ _ _ _ _ _ _ t3 t4 t6
  | true =>
    cases t2 with
    | false => exact evK5tf _ _ _ _ _ _ _ _ _ _ _ _ _ _ _ _ _ _ _ _ _ _ _ _ _ _ _ t3 t4 t6
    | true => exact evK5tt _ _ _ _ _ _ _ _ _ _ _ _ _ _ _ _ _ _ _ _ _ _ _ _ _ _ _ t3 t4 t6
theorem evOne6 (a b c d e f g h i j k l x y z c0 c1 c2 c3 c4 c5 h0 h1 h2 h3 h4 h5 : Int) (t1 t2 t3 t4 t5 : Bool) :
    @evalBeside (toldV (bpSym a b c d e f g h i j k l x y z c0 c1 c2 c3 c4 c5 h0 h1 h2 h3 h4 h5) (bpBase 0 0 ++ (bpHas true false false true ++ bpParts 6)) [] (bpMm ++ (bpOv true true true ++ bpT t1 t2 t3 t4 t5 true))) Try.prog 300 3 bpArgs [] = some (.bool true) := by
  cases t1 with
  | false =>
    cases t2 with
    | false => exact evK6ff _ _ _ _ _ _ _ _ _ _ _ _ _ _ _ _ _ _ _ _ _ _ _ _ _ _ _ t3 t4 t5
    | true => exact evK6ft _ _ _ _ _ _ _ _ _ _ _ _ _ _ _ _ _ _ _ _ _ _ _ _ _ _ _ t3 t4 t5
  | true =>
    cases t2 with
    | false => exact evK6tf _ _ _ _ _ _ _ _ _ _ _ _ _ _ _ _ _ _ _ _ _ _ _ _ _ _ _ t3 t4 t5
    | true => exact evK6tt _ _ _ _ _ _ _ _ _ _ _ _ _ _ _ _ _ _ _ _ _ _ _ _ _ _ _ t3 t4 t5
end Go.Proofs.Ytdnnoemhbjmliaa
