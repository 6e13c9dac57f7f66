/- Layer 7 (plane): Moves. -/
import Derived.Test.YtopjcpdhfohccaaPlA
import Derived.Test.YtopjcpdhfohccaaEvV
namespace Go.Proofs.Ytopjcpdhfohccaa
open Go.RowKit Go.Ev
set_option linter.unusedSimpArgs false
set_option maxRecDepth 100000

def TPlaneMoves0 : Tr :=
(.br (.eq (.fn 0 (.cons (.v 0) (.cons (.v 1) (.cons (.v 2) (.cons (.v 3) .nil))))) (.lit .i64 0))
 (.br (.eq (.fn 2 (.cons (.v 4) (.cons (.v 5) (.cons (.v 6) (.cons (.v 7) (.cons (.v 8) (.cons (.v 9) .nil))))))) (.lit .i64 0))
 (.br (.lt (.v 10) (.lit .i64 0))
 (.leaf (.clo (.bool true)))
 (.br (.lt (.lit .i64 1000000) (.v 10))
 (.leaf (.clo (.bool true)))
 (.br (.lt (.lit .i64 0) (.fn 4 (.cons (.v 0) (.cons (.v 1) (.cons (.v 2) (.cons (.v 3) (.cons (.v 4) (.cons (.v 5) (.cons (.v 6) (.cons (.v 7) (.cons (.v 8) (.cons (.v 9) .nil))))))))))))
 (.leaf (.clo (.bool true)))
 (.br (.lt (.lit .i64 0) (.v 0))
 (.br (.lt (.bin .mn .i64 (.v 10) (.bin .quo .i64 (.neg .i64 (.fn 4 (.cons (.v 0) (.cons (.v 1) (.cons (.v 2) (.cons (.v 3) (.cons (.v 4) (.cons (.v 5) (.cons (.v 6) (.cons (.v 7) (.cons (.v 8) (.cons (.v 9) .nil)))))))))))) (.v 0))) (.lit .i64 0))
 (.leaf (.clo (.bool false)))
 (.br (.lt (.v 10) (.bin .mn .i64 (.v 10) (.bin .quo .i64 (.neg .i64 (.fn 4 (.cons (.v 0) (.cons (.v 1) (.cons (.v 2) (.cons (.v 3) (.cons (.v 4) (.cons (.v 5) (.cons (.v 6) (.cons (.v 7) (.cons (.v 8) (.cons (.v 9) .nil)))))))))))) (.v 0))))
 (.leaf (.clo (.bool false)))
 (.br (.eq (.fn 2 (.cons (.bin .add .i64 (.v 4) (.bin .mn .i64 (.v 10) (.bin .quo .i64 (.neg .i64 (.fn 4 (.cons (.v 0) (.cons (.v 1) (.cons (.v 2) (.cons (.v 3) (.cons (.v 4) (.cons (.v 5) (.cons (.v 6) (.cons (.v 7) (.cons (.v 8) (.cons (.v 9) .nil)))))))))))) (.v 0)))) (.cons (.bin .add .i64 (.v 5) (.lit .i64 0)) (.cons (.bin .add .i64 (.v 6) (.lit .i64 0)) (.cons (.bin .add .i64 (.v 7) (.bin .mn .i64 (.v 10) (.bin .quo .i64 (.neg .i64 (.fn 4 (.cons (.v 0) (.cons (.v 1) (.cons (.v 2) (.cons (.v 3) (.cons (.v 4) (.cons (.v 5) (.cons (.v 6) (.cons (.v 7) (.cons (.v 8) (.cons (.v 9) .nil)))))))))))) (.v 0)))) (.cons (.bin .add .i64 (.v 8) (.lit .i64 0)) (.cons (.bin .add .i64 (.v 9) (.lit .i64 0)) .nil))))))) (.lit .i64 0))
 (.br (.lt (.lit .i64 0) (.fn 4 (.cons (.v 0) (.cons (.v 1) (.cons (.v 2) (.cons (.v 3) (.cons (.bin .add .i64 (.v 4) (.bin .mn .i64 (.v 10) (.bin .quo .i64 (.neg .i64 (.fn 4 (.cons (.v 0) (.cons (.v 1) (.cons (.v 2) (.cons (.v 3) (.cons (.v 4) (.cons (.v 5) (.cons (.v 6) (.cons (.v 7) (.cons (.v 8) (.cons (.v 9) .nil)))))))))))) (.v 0)))) (.cons (.bin .add .i64 (.v 5) (.lit .i64 0)) (.cons (.bin .add .i64 (.v 6) (.lit .i64 0)) (.cons (.bin .add .i64 (.v 7) (.bin .mn .i64 (.v 10) (.bin .quo .i64 (.neg .i64 (.fn 4 (.cons (.v 0) (.cons (.v 1) (.cons (.v 2) (.cons (.v 3) (.cons (.v 4) (.cons (.v 5) (.cons (.v 6) (.cons (.v 7) (.cons (.v 8) (.cons (.v 9) .nil)))))))))))) (.v 0)))) (.cons (.bin .add .i64 (.v 8) (.lit .i64 0)) (.cons (.bin .add .i64 (.v 9) (.lit .i64 0)) .nil))))))))))))
 (.br (.lt (.fn 3 (.cons (.v 0) (.cons (.v 1) (.cons (.v 2) (.cons (.v 3) (.cons (.bin .add .i64 (.v 4) (.bin .mn .i64 (.v 10) (.bin .quo .i64 (.neg .i64 (.fn 4 (.cons (.v 0) (.cons (.v 1) (.cons (.v 2) (.cons (.v 3) (.cons (.v 4) (.cons (.v 5) (.cons (.v 6) (.cons (.v 7) (.cons (.v 8) (.cons (.v 9) .nil)))))))))))) (.v 0)))) (.cons (.bin .add .i64 (.v 5) (.lit .i64 0)) (.cons (.bin .add .i64 (.v 6) (.lit .i64 0)) (.cons (.bin .add .i64 (.v 7) (.bin .mn .i64 (.v 10) (.bin .quo .i64 (.neg .i64 (.fn 4 (.cons (.v 0) (.cons (.v 1) (.cons (.v 2) (.cons (.v 3) (.cons (.v 4) (.cons (.v 5) (.cons (.v 6) (.cons (.v 7) (.cons (.v 8) (.cons (.v 9) .nil)))))))))))) (.v 0)))) (.cons (.bin .add .i64 (.v 8) (.lit .i64 0)) (.cons (.bin .add .i64 (.v 9) (.lit .i64 0)) .nil))))))))))) (.lit .i64 0))
 (.leaf (.clo (.bool false)))
 (.leaf (.clo (.bool false))))
 (.br (.eq (.fn 2 (.cons (.bin .add .i64 (.v 4) (.bin .add .i64 (.bin .mn .i64 (.v 10) (.bin .quo .i64 (.neg .i64 (.fn 4 (.cons (.v 0) (.cons (.v 1) (.cons (.v 2) (.cons (.v 3) (.cons (.v 4) (.cons (.v 5) (.cons (.v 6) (.cons (.v 7) (.cons (.v 8) (.cons (.v 9) .nil)))))))))))) (.v 0))) (.lit .i64 1))) (.cons (.bin .add .i64 (.v 5) (.lit .i64 0)) (.cons (.bin .add .i64 (.v 6) (.lit .i64 0)) (.cons (.bin .add .i64 (.v 7) (.bin .add .i64 (.bin .mn .i64 (.v 10) (.bin .quo .i64 (.neg .i64 (.fn 4 (.cons (.v 0) (.cons (.v 1) (.cons (.v 2) (.cons (.v 3) (.cons (.v 4) (.cons (.v 5) (.cons (.v 6) (.cons (.v 7) (.cons (.v 8) (.cons (.v 9) .nil)))))))))))) (.v 0))) (.lit .i64 1))) (.cons (.bin .add .i64 (.v 8) (.lit .i64 0)) (.cons (.bin .add .i64 (.v 9) (.lit .i64 0)) .nil))))))) (.lit .i64 0))
 (.br (.lt (.lit .i64 0) (.fn 4 (.cons (.v 0) (.cons (.v 1) (.cons (.v 2) (.cons (.v 3) (.cons (.bin .add .i64 (.v 4) (.bin .add .i64 (.bin .mn .i64 (.v 10) (.bin .quo .i64 (.neg .i64 (.fn 4 (.cons (.v 0) (.cons (.v 1) (.cons (.v 2) (.cons (.v 3) (.cons (.v 4) (.cons (.v 5) (.cons (.v 6) (.cons (.v 7) (.cons (.v 8) (.cons (.v 9) .nil)))))))))))) (.v 0))) (.lit .i64 1))) (.cons (.bin .add .i64 (.v 5) (.lit .i64 0)) (.cons (.bin .add .i64 (.v 6) (.lit .i64 0)) (.cons (.bin .add .i64 (.v 7) (.bin .add .i64 (.bin .mn .i64 (.v 10) (.bin .quo .i64 (.neg .i64 (.fn 4 (.cons (.v 0) (.cons (.v 1) (.cons (.v 2) (.cons (.v 3) (.cons (.v 4) (.cons (.v 5) (.cons (.v 6) (.cons (.v 7) (.cons (.v 8) (.cons (.v 9) .nil)))))))))))) (.v 0))) (.lit .i64 1))) (.cons (.bin .add .i64 (.v 8) (.lit .i64 0)) (.cons (.bin .add .i64 (.v 9) (.lit .i64 0)) .nil))))))))))))
 (.br (.lt (.fn 3 (.cons (.v 0) (.cons (.v 1) (.cons (.v 2) (.cons (.v 3) (.cons (.bin .add .i64 (.v 4) (.bin .add .i64 (.bin .mn .i64 (.v 10) (.bin .quo .i64 (.neg .i64 (.fn 4 (.cons (.v 0) (.cons (.v 1) (.cons (.v 2) (.cons (.v 3) (.cons (.v 4) (.cons (.v 5) (.cons (.v 6) (.cons (.v 7) (.cons (.v 8) (.cons (.v 9) .nil)))))))))))) (.v 0))) (.lit .i64 1))) (.cons (.bin .add .i64 (.v 5) (.lit .i64 0)) (.cons (.bin .add .i64 (.v 6) (.lit .i64 0)) (.cons (.bin .add .i64 (.v 7) (.bin .add .i64 (.bin .mn .i64 (.v 10) (.bin .quo .i64 (.neg .i64 (.fn 4 (.cons (.v 0) (.cons (.v 1) (.cons (.v 2) (.cons (.v 3) (.cons (.v 4) (.cons (.v 5) (.cons (.v 6) (.cons (.v 7) (.cons (.v 8) (.cons (.v 9) .nil)))))))))))) (.v 0))) (.lit .i64 1))) (.cons (.bin .add .i64 (.v 8) (.lit .i64 0)) (.cons (.bin .add .i64 (.v 9) (.lit .i64 0)) .nil))))))))))) (.lit .i64 0))
 (.br (.eq (.bin .mn .i64 (.v 10) (.bin .quo .i64 (.neg .i64 (.fn 4 (.cons (.v 0) (.cons (.v 1) (.cons (.v 2) (.cons (.v 3) (.cons (.v 4) (.cons (.v 5) (.cons (.v 6) (.cons (.v 7) (.cons (.v 8) (.cons (.v 9) .nil)))))))))))) (.v 0))) (.v 10))
 (.leaf (.clo (.bool true)))
 (.leaf (.clo (.bool true))))
 (.br (.eq (.bin .mn .i64 (.v 10) (.bin .quo .i64 (.neg .i64 (.fn 4 (.cons (.v 0) (.cons (.v 1) (.cons (.v 2) (.cons (.v 3) (.cons (.v 4) (.cons (.v 5) (.cons (.v 6) (.cons (.v 7) (.cons (.v 8) (.cons (.v 9) .nil)))))))))))) (.v 0))) (.v 10))
 (.leaf (.clo (.bool true)))
 (.leaf (.clo (.bool true)))))
 (.br (.eq (.bin .mn .i64 (.v 10) (.bin .quo .i64 (.neg .i64 (.fn 4 (.cons (.v 0) (.cons (.v 1) (.cons (.v 2) (.cons (.v 3) (.cons (.v 4) (.cons (.v 5) (.cons (.v 6) (.cons (.v 7) (.cons (.v 8) (.cons (.v 9) .nil)))))))))))) (.v 0))) (.v 10))
 (.leaf (.clo (.bool true)))
 (.leaf (.clo (.bool false)))))
 (.br (.eq (.bin .mn .i64 (.v 10) (.bin .quo .i64 (.neg .i64 (.fn 4 (.cons (.v 0) (.cons (.v 1) (.cons (.v 2) (.cons (.v 3) (.cons (.v 4) (.cons (.v 5) (.cons (.v 6) (.cons (.v 7) (.cons (.v 8) (.cons (.v 9) .nil)))))))))))) (.v 0))) (.v 10))
 (.leaf (.clo (.bool true)))
 (.leaf (.clo (.bool true))))))
 (.br (.eq (.fn 2 (.cons (.bin .add .i64 (.v 4) (.bin .add .i64 (.bin .mn .i64 (.v 10) (.bin .quo .i64 (.neg .i64 (.fn 4 (.cons (.v 0) (.cons (.v 1) (.cons (.v 2) (.cons (.v 3) (.cons (.v 4) (.cons (.v 5) (.cons (.v 6) (.cons (.v 7) (.cons (.v 8) (.cons (.v 9) .nil)))))))))))) (.v 0))) (.lit .i64 1))) (.cons (.bin .add .i64 (.v 5) (.lit .i64 0)) (.cons (.bin .add .i64 (.v 6) (.lit .i64 0)) (.cons (.bin .add .i64 (.v 7) (.bin .add .i64 (.bin .mn .i64 (.v 10) (.bin .quo .i64 (.neg .i64 (.fn 4 (.cons (.v 0) (.cons (.v 1) (.cons (.v 2) (.cons (.v 3) (.cons (.v 4) (.cons (.v 5) (.cons (.v 6) (.cons (.v 7) (.cons (.v 8) (.cons (.v 9) .nil)))))))))))) (.v 0))) (.lit .i64 1))) (.cons (.bin .add .i64 (.v 8) (.lit .i64 0)) (.cons (.bin .add .i64 (.v 9) (.lit .i64 0)) .nil))))))) (.lit .i64 0))
 (.br (.lt (.lit .i64 0) (.fn 4 (.cons (.v 0) (.cons (.v 1) (.cons (.v 2) (.cons (.v 3) (.cons (.bin .add .i64 (.v 4) (.bin .add .i64 (.bin .mn .i64 (.v 10) (.bin .quo .i64 (.neg .i64 (.fn 4 (.cons (.v 0) (.cons (.v 1) (.cons (.v 2) (.cons (.v 3) (.cons (.v 4) (.cons (.v 5) (.cons (.v 6) (.cons (.v 7) (.cons (.v 8) (.cons (.v 9) .nil)))))))))))) (.v 0))) (.lit .i64 1))) (.cons (.bin .add .i64 (.v 5) (.lit .i64 0)) (.cons (.bin .add .i64 (.v 6) (.lit .i64 0)) (.cons (.bin .add .i64 (.v 7) (.bin .add .i64 (.bin .mn .i64 (.v 10) (.bin .quo .i64 (.neg .i64 (.fn 4 (.cons (.v 0) (.cons (.v 1) (.cons (.v 2) (.cons (.v 3) (.cons (.v 4) (.cons (.v 5) (.cons (.v 6) (.cons (.v 7) (.cons (.v 8) (.cons (.v 9) .nil)))))))))))) (.v 0))) (.lit .i64 1))) (.cons (.bin .add .i64 (.v 8) (.lit .i64 0)) (.cons (.bin .add .i64 (.v 9) (.lit .i64 0)) .nil))))))))))))
 (.br (.lt (.fn 3 (.cons (.v 0) (.cons (.v 1) (.cons (.v 2) (.cons (.v 3) (.cons (.bin .add .i64 (.v 4) (.bin .add .i64 (.bin .mn .i64 (.v 10) (.bin .quo .i64 (.neg .i64 (.fn 4 (.cons (.v 0) (.cons (.v 1) (.cons (.v 2) (.cons (.v 3) (.cons (.v 4) (.cons (.v 5) (.cons (.v 6) (.cons (.v 7) (.cons (.v 8) (.cons (.v 9) .nil)))))))))))) (.v 0))) (.lit .i64 1))) (.cons (.bin .add .i64 (.v 5) (.lit .i64 0)) (.cons (.bin .add .i64 (.v 6) (.lit .i64 0)) (.cons (.bin .add .i64 (.v 7) (.bin .add .i64 (.bin .mn .i64 (.v 10) (.bin .quo .i64 (.neg .i64 (.fn 4 (.cons (.v 0) (.cons (.v 1) (.cons (.v 2) (.cons (.v 3) (.cons (.v 4) (.cons (.v 5) (.cons (.v 6) (.cons (.v 7) (.cons (.v 8) (.cons (.v 9) .nil)))))))))))) (.v 0))) (.lit .i64 1))) (.cons (.bin .add .i64 (.v 8) (.lit .i64 0)) (.cons (.bin .add .i64 (.v 9) (.lit .i64 0)) .nil))))))))))) (.lit .i64 0))
 (.br (.eq (.bin .mn .i64 (.v 10) (.bin .quo .i64 (.neg .i64 (.fn 4 (.cons (.v 0) (.cons (.v 1) (.cons (.v 2) (.cons (.v 3) (.cons (.v 4) (.cons (.v 5) (.cons (.v 6) (.cons (.v 7) (.cons (.v 8) (.cons (.v 9) .nil)))))))))))) (.v 0))) (.v 10))
 (.leaf (.clo (.bool true)))
 (.leaf (.clo (.bool true))))
 (.br (.eq (.bin .mn .i64 (.v 10) (.bin .quo .i64 (.neg .i64 (.fn 4 (.cons (.v 0) (.cons (.v 1) (.cons (.v 2) (.cons (.v 3) (.cons (.v 4) (.cons (.v 5) (.cons (.v 6) (.cons (.v 7) (.cons (.v 8) (.cons (.v 9) .nil)))))))))))) (.v 0))) (.v 10))
 (.leaf (.clo (.bool true)))
 (.leaf (.clo (.bool true)))))
 (.br (.eq (.bin .mn .i64 (.v 10) (.bin .quo .i64 (.neg .i64 (.fn 4 (.cons (.v 0) (.cons (.v 1) (.cons (.v 2) (.cons (.v 3) (.cons (.v 4) (.cons (.v 5) (.cons (.v 6) (.cons (.v 7) (.cons (.v 8) (.cons (.v 9) .nil)))))))))))) (.v 0))) (.v 10))
 (.leaf (.clo (.bool true)))
 (.leaf (.clo (.bool false)))))
 (.br (.eq (.bin .mn .i64 (.v 10) (.bin .quo .i64 (.neg .i64 (.fn 4 (.cons (.v 0) (.cons (.v 1) (.cons (.v 2) (.cons (.v 3) (.cons (.v 4) (.cons (.v 5) (.cons (.v 6) (.cons (.v 7) (.cons (.v 8) (.cons (.v 9) .nil)))))))))))) (.v 0))) (.v 10))
 (.leaf (.clo (.bool true)))
 (.leaf (.clo (.bool true))))))))
 (.br (.eq (.fn 2 (.cons (.bin .add .i64 (.v 4) (.v 10)) (.cons (.bin .add .i64 (.v 5) (.lit .i64 0)) (.cons (.bin .add .i64 (.v 6) (.lit .i64 0)) (.cons (.bin .add .i64 (.v 7) (.v 10)) (.cons (.bin .add .i64 (.v 8) (.lit .i64 0)) (.cons (.bin .add .i64 (.v 9) (.lit .i64 0)) .nil))))))) (.lit .i64 0))
 (.br (.lt (.lit .i64 0) (.fn 4 (.cons (.v 0) (.cons (.v 1) (.cons (.v 2) (.cons (.v 3) (.cons (.bin .add .i64 (.v 4) (.v 10)) (.cons (.bin .add .i64 (.v 5) (.lit .i64 0)) (.cons (.bin .add .i64 (.v 6) (.lit .i64 0)) (.cons (.bin .add .i64 (.v 7) (.v 10)) (.cons (.bin .add .i64 (.v 8) (.lit .i64 0)) (.cons (.bin .add .i64 (.v 9) (.lit .i64 0)) .nil))))))))))))
 (.br (.lt (.fn 3 (.cons (.v 0) (.cons (.v 1) (.cons (.v 2) (.cons (.v 3) (.cons (.bin .add .i64 (.v 4) (.v 10)) (.cons (.bin .add .i64 (.v 5) (.lit .i64 0)) (.cons (.bin .add .i64 (.v 6) (.lit .i64 0)) (.cons (.bin .add .i64 (.v 7) (.v 10)) (.cons (.bin .add .i64 (.v 8) (.lit .i64 0)) (.cons (.bin .add .i64 (.v 9) (.lit .i64 0)) .nil))))))))))) (.lit .i64 0))
 (.leaf (.clo (.bool false)))
 (.leaf (.clo (.bool false))))
 (.br (.eq (.fn 2 (.cons (.bin .add .i64 (.v 4) (.bin .add .i64 (.v 10) (.lit .i64 1))) (.cons (.bin .add .i64 (.v 5) (.lit .i64 0)) (.cons (.bin .add .i64 (.v 6) (.lit .i64 0)) (.cons (.bin .add .i64 (.v 7) (.bin .add .i64 (.v 10) (.lit .i64 1))) (.cons (.bin .add .i64 (.v 8) (.lit .i64 0)) (.cons (.bin .add .i64 (.v 9) (.lit .i64 0)) .nil))))))) (.lit .i64 0))
 (.br (.lt (.lit .i64 0) (.fn 4 (.cons (.v 0) (.cons (.v 1) (.cons (.v 2) (.cons (.v 3) (.cons (.bin .add .i64 (.v 4) (.bin .add .i64 (.v 10) (.lit .i64 1))) (.cons (.bin .add .i64 (.v 5) (.lit .i64 0)) (.cons (.bin .add .i64 (.v 6) (.lit .i64 0)) (.cons (.bin .add .i64 (.v 7) (.bin .add .i64 (.v 10) (.lit .i64 1))) (.cons (.bin .add .i64 (.v 8) (.lit .i64 0)) (.cons (.bin .add .i64 (.v 9) (.lit .i64 0)) .nil))))))))))))
 (.br (.lt (.fn 3 (.cons (.v 0) (.cons (.v 1) (.cons (.v 2) (.cons (.v 3) (.cons (.bin .add .i64 (.v 4) (.bin .add .i64 (.v 10) (.lit .i64 1))) (.cons (.bin .add .i64 (.v 5) (.lit .i64 0)) (.cons (.bin .add .i64 (.v 6) (.lit .i64 0)) (.cons (.bin .add .i64 (.v 7) (.bin .add .i64 (.v 10) (.lit .i64 1))) (.cons (.bin .add .i64 (.v 8) (.lit .i64 0)) (.cons (.bin .add .i64 (.v 9) (.lit .i64 0)) .nil))))))))))) (.lit .i64 0))
 (.leaf (.clo (.bool true)))
 (.leaf (.clo (.bool true))))
 (.leaf (.clo (.bool true))))
 (.leaf (.clo (.bool true)))))
 (.br (.eq (.fn 2 (.cons (.bin .add .i64 (.v 4) (.bin .add .i64 (.v 10) (.lit .i64 1))) (.cons (.bin .add .i64 (.v 5) (.lit .i64 0)) (.cons (.bin .add .i64 (.v 6) (.lit .i64 0)) (.cons (.bin .add .i64 (.v 7) (.bin .add .i64 (.v 10) (.lit .i64 1))) (.cons (.bin .add .i64 (.v 8) (.lit .i64 0)) (.cons (.bin .add .i64 (.v 9) (.lit .i64 0)) .nil))))))) (.lit .i64 0))
 (.br (.lt (.lit .i64 0) (.fn 4 (.cons (.v 0) (.cons (.v 1) (.cons (.v 2) (.cons (.v 3) (.cons (.bin .add .i64 (.v 4) (.bin .add .i64 (.v 10) (.lit .i64 1))) (.cons (.bin .add .i64 (.v 5) (.lit .i64 0)) (.cons (.bin .add .i64 (.v 6) (.lit .i64 0)) (.cons (.bin .add .i64 (.v 7) (.bin .add .i64 (.v 10) (.lit .i64 1))) (.cons (.bin .add .i64 (.v 8) (.lit .i64 0)) (.cons (.bin .add .i64 (.v 9) (.lit .i64 0)) .nil))))))))))))
 (.br (.lt (.fn 3 (.cons (.v 0) (.cons (.v 1) (.cons (.v 2) (.cons (.v 3) (.cons (.bin .add .i64 (.v 4) (.bin .add .i64 (.v 10) (.lit .i64 1))) (.cons (.bin .add .i64 (.v 5) (.lit .i64 0)) (.cons (.bin .add .i64 (.v 6) (.lit .i64 0)) (.cons (.bin .add .i64 (.v 7) (.bin .add .i64 (.v 10) (.lit .i64 1))) (.cons (.bin .add .i64 (.v 8) (.lit .i64 0)) (.cons (.bin .add .i64 (.v 9) (.lit .i64 0)) .nil))))))))))) (.lit .i64 0))
 (.leaf (.clo (.bool true)))
 (.leaf (.clo (.bool true))))
 (.leaf (.clo (.bool true))))
 (.leaf (.clo (.bool true)))))))))
 (.leaf (.clo (.bool true))))
 (.leaf (.clo (.bool true))))

def TPlaneMoves1 : Tr :=
(.br (.eq (.fn 0 (.cons (.v 0) (.cons (.v 1) (.cons (.v 2) (.cons (.v 3) .nil))))) (.lit .i64 0))
 (.br (.eq (.fn 2 (.cons (.v 4) (.cons (.v 5) (.cons (.v 6) (.cons (.v 7) (.cons (.v 8) (.cons (.v 9) .nil))))))) (.lit .i64 0))
 (.br (.lt (.v 10) (.lit .i64 0))
 (.leaf (.clo (.bool true)))
 (.br (.lt (.lit .i64 1000000) (.v 10))
 (.leaf (.clo (.bool true)))
 (.br (.lt (.lit .i64 0) (.fn 4 (.cons (.v 0) (.cons (.v 1) (.cons (.v 2) (.cons (.v 3) (.cons (.v 4) (.cons (.v 5) (.cons (.v 6) (.cons (.v 7) (.cons (.v 8) (.cons (.v 9) .nil))))))))))))
 (.leaf (.clo (.bool true)))
 (.br (.lt (.lit .i64 0) (.neg .i64 (.v 0)))
 (.br (.lt (.bin .mn .i64 (.v 10) (.bin .quo .i64 (.neg .i64 (.fn 4 (.cons (.v 0) (.cons (.v 1) (.cons (.v 2) (.cons (.v 3) (.cons (.v 4) (.cons (.v 5) (.cons (.v 6) (.cons (.v 7) (.cons (.v 8) (.cons (.v 9) .nil)))))))))))) (.neg .i64 (.v 0)))) (.lit .i64 0))
 (.leaf (.clo (.bool false)))
 (.br (.lt (.v 10) (.bin .mn .i64 (.v 10) (.bin .quo .i64 (.neg .i64 (.fn 4 (.cons (.v 0) (.cons (.v 1) (.cons (.v 2) (.cons (.v 3) (.cons (.v 4) (.cons (.v 5) (.cons (.v 6) (.cons (.v 7) (.cons (.v 8) (.cons (.v 9) .nil)))))))))))) (.neg .i64 (.v 0)))))
 (.leaf (.clo (.bool false)))
 (.br (.eq (.fn 2 (.cons (.bin .add .i64 (.v 4) (.neg .i64 (.bin .mn .i64 (.v 10) (.bin .quo .i64 (.neg .i64 (.fn 4 (.cons (.v 0) (.cons (.v 1) (.cons (.v 2) (.cons (.v 3) (.cons (.v 4) (.cons (.v 5) (.cons (.v 6) (.cons (.v 7) (.cons (.v 8) (.cons (.v 9) .nil)))))))))))) (.neg .i64 (.v 0)))))) (.cons (.bin .add .i64 (.v 5) (.lit .i64 0)) (.cons (.bin .add .i64 (.v 6) (.lit .i64 0)) (.cons (.bin .add .i64 (.v 7) (.neg .i64 (.bin .mn .i64 (.v 10) (.bin .quo .i64 (.neg .i64 (.fn 4 (.cons (.v 0) (.cons (.v 1) (.cons (.v 2) (.cons (.v 3) (.cons (.v 4) (.cons (.v 5) (.cons (.v 6) (.cons (.v 7) (.cons (.v 8) (.cons (.v 9) .nil)))))))))))) (.neg .i64 (.v 0)))))) (.cons (.bin .add .i64 (.v 8) (.lit .i64 0)) (.cons (.bin .add .i64 (.v 9) (.lit .i64 0)) .nil))))))) (.lit .i64 0))
 (.br (.lt (.lit .i64 0) (.fn 4 (.cons (.v 0) (.cons (.v 1) (.cons (.v 2) (.cons (.v 3) (.cons (.bin .add .i64 (.v 4) (.neg .i64 (.bin .mn .i64 (.v 10) (.bin .quo .i64 (.neg .i64 (.fn 4 (.cons (.v 0) (.cons (.v 1) (.cons (.v 2) (.cons (.v 3) (.cons (.v 4) (.cons (.v 5) (.cons (.v 6) (.cons (.v 7) (.cons (.v 8) (.cons (.v 9) .nil)))))))))))) (.neg .i64 (.v 0)))))) (.cons (.bin .add .i64 (.v 5) (.lit .i64 0)) (.cons (.bin .add .i64 (.v 6) (.lit .i64 0)) (.cons (.bin .add .i64 (.v 7) (.neg .i64 (.bin .mn .i64 (.v 10) (.bin .quo .i64 (.neg .i64 (.fn 4 (.cons (.v 0) (.cons (.v 1) (.cons (.v 2) (.cons (.v 3) (.cons (.v 4) (.cons (.v 5) (.cons (.v 6) (.cons (.v 7) (.cons (.v 8) (.cons (.v 9) .nil)))))))))))) (.neg .i64 (.v 0)))))) (.cons (.bin .add .i64 (.v 8) (.lit .i64 0)) (.cons (.bin .add .i64 (.v 9) (.lit .i64 0)) .nil))))))))))))
 (.br (.lt (.fn 3 (.cons (.v 0) (.cons (.v 1) (.cons (.v 2) (.cons (.v 3) (.cons (.bin .add .i64 (.v 4) (.neg .i64 (.bin .mn .i64 (.v 10) (.bin .quo .i64 (.neg .i64 (.fn 4 (.cons (.v 0) (.cons (.v 1) (.cons (.v 2) (.cons (.v 3) (.cons (.v 4) (.cons (.v 5) (.cons (.v 6) (.cons (.v 7) (.cons (.v 8) (.cons (.v 9) .nil)))))))))))) (.neg .i64 (.v 0)))))) (.cons (.bin .add .i64 (.v 5) (.lit .i64 0)) (.cons (.bin .add .i64 (.v 6) (.lit .i64 0)) (.cons (.bin .add .i64 (.v 7) (.neg .i64 (.bin .mn .i64 (.v 10) (.bin .quo .i64 (.neg .i64 (.fn 4 (.cons (.v 0) (.cons (.v 1) (.cons (.v 2) (.cons (.v 3) (.cons (.v 4) (.cons (.v 5) (.cons (.v 6) (.cons (.v 7) (.cons (.v 8) (.cons (.v 9) .nil)))))))))))) (.neg .i64 (.v 0)))))) (.cons (.bin .add .i64 (.v 8) (.lit .i64 0)) (.cons (.bin .add .i64 (.v 9) (.lit .i64 0)) .nil))))))))))) (.lit .i64 0))
 (.leaf (.clo (.bool false)))
 (.leaf (.clo (.bool false))))
 (.br (.eq (.fn 2 (.cons (.bin .add .i64 (.v 4) (.neg .i64 (.bin .add .i64 (.bin .mn .i64 (.v 10) (.bin .quo .i64 (.neg .i64 (.fn 4 (.cons (.v 0) (.cons (.v 1) (.cons (.v 2) (.cons (.v 3) (.cons (.v 4) (.cons (.v 5) (.cons (.v 6) (.cons (.v 7) (.cons (.v 8) (.cons (.v 9) .nil)))))))))))) (.neg .i64 (.v 0)))) (.lit .i64 1)))) (.cons (.bin .add .i64 (.v 5) (.lit .i64 0)) (.cons (.bin .add .i64 (.v 6) (.lit .i64 0)) (.cons (.bin .add .i64 (.v 7) (.neg .i64 (.bin .add .i64 (.bin .mn .i64 (.v 10) (.bin .quo .i64 (.neg .i64 (.fn 4 (.cons (.v 0) (.cons (.v 1) (.cons (.v 2) (.cons (.v 3) (.cons (.v 4) (.cons (.v 5) (.cons (.v 6) (.cons (.v 7) (.cons (.v 8) (.cons (.v 9) .nil)))))))))))) (.neg .i64 (.v 0)))) (.lit .i64 1)))) (.cons (.bin .add .i64 (.v 8) (.lit .i64 0)) (.cons (.bin .add .i64 (.v 9) (.lit .i64 0)) .nil))))))) (.lit .i64 0))
 (.br (.lt (.lit .i64 0) (.fn 4 (.cons (.v 0) (.cons (.v 1) (.cons (.v 2) (.cons (.v 3) (.cons (.bin .add .i64 (.v 4) (.neg .i64 (.bin .add .i64 (.bin .mn .i64 (.v 10) (.bin .quo .i64 (.neg .i64 (.fn 4 (.cons (.v 0) (.cons (.v 1) (.cons (.v 2) (.cons (.v 3) (.cons (.v 4) (.cons (.v 5) (.cons (.v 6) (.cons (.v 7) (.cons (.v 8) (.cons (.v 9) .nil)))))))))))) (.neg .i64 (.v 0)))) (.lit .i64 1)))) (.cons (.bin .add .i64 (.v 5) (.lit .i64 0)) (.cons (.bin .add .i64 (.v 6) (.lit .i64 0)) (.cons (.bin .add .i64 (.v 7) (.neg .i64 (.bin .add .i64 (.bin .mn .i64 (.v 10) (.bin .quo .i64 (.neg .i64 (.fn 4 (.cons (.v 0) (.cons (.v 1) (.cons (.v 2) (.cons (.v 3) (.cons (.v 4) (.cons (.v 5) (.cons (.v 6) (.cons (.v 7) (.cons (.v 8) (.cons (.v 9) .nil)))))))))))) (.neg .i64 (.v 0)))) (.lit .i64 1)))) (.cons (.bin .add .i64 (.v 8) (.lit .i64 0)) (.cons (.bin .add .i64 (.v 9) (.lit .i64 0)) .nil))))))))))))
 (.br (.lt (.fn 3 (.cons (.v 0) (.cons (.v 1) (.cons (.v 2) (.cons (.v 3) (.cons (.bin .add .i64 (.v 4) (.neg .i64 (.bin .add .i64 (.bin .mn .i64 (.v 10) (.bin .quo .i64 (.neg .i64 (.fn 4 (.cons (.v 0) (.cons (.v 1) (.cons (.v 2) (.cons (.v 3) (.cons (.v 4) (.cons (.v 5) (.cons (.v 6) (.cons (.v 7) (.cons (.v 8) (.cons (.v 9) .nil)))))))))))) (.neg .i64 (.v 0)))) (.lit .i64 1)))) (.cons (.bin .add .i64 (.v 5) (.lit .i64 0)) (.cons (.bin .add .i64 (.v 6) (.lit .i64 0)) (.cons (.bin .add .i64 (.v 7) (.neg .i64 (.bin .add .i64 (.bin .mn .i64 (.v 10) (.bin .quo .i64 (.neg .i64 (.fn 4 (.cons (.v 0) (.cons (.v 1) (.cons (.v 2) (.cons (.v 3) (.cons (.v 4) (.cons (.v 5) (.cons (.v 6) (.cons (.v 7) (.cons (.v 8) (.cons (.v 9) .nil)))))))))))) (.neg .i64 (.v 0)))) (.lit .i64 1)))) (.cons (.bin .add .i64 (.v 8) (.lit .i64 0)) (.cons (.bin .add .i64 (.v 9) (.lit .i64 0)) .nil))))))))))) (.lit .i64 0))
 (.br (.eq (.bin .mn .i64 (.v 10) (.bin .quo .i64 (.neg .i64 (.fn 4 (.cons (.v 0) (.cons (.v 1) (.cons (.v 2) (.cons (.v 3) (.cons (.v 4) (.cons (.v 5) (.cons (.v 6) (.cons (.v 7) (.cons (.v 8) (.cons (.v 9) .nil)))))))))))) (.neg .i64 (.v 0)))) (.v 10))
 (.leaf (.clo (.bool true)))
 (.leaf (.clo (.bool true))))
 (.br (.eq (.bin .mn .i64 (.v 10) (.bin .quo .i64 (.neg .i64 (.fn 4 (.cons (.v 0) (.cons (.v 1) (.cons (.v 2) (.cons (.v 3) (.cons (.v 4) (.cons (.v 5) (.cons (.v 6) (.cons (.v 7) (.cons (.v 8) (.cons (.v 9) .nil)))))))))))) (.neg .i64 (.v 0)))) (.v 10))
 (.leaf (.clo (.bool true)))
 (.leaf (.clo (.bool true)))))
 (.br (.eq (.bin .mn .i64 (.v 10) (.bin .quo .i64 (.neg .i64 (.fn 4 (.cons (.v 0) (.cons (.v 1) (.cons (.v 2) (.cons (.v 3) (.cons (.v 4) (.cons (.v 5) (.cons (.v 6) (.cons (.v 7) (.cons (.v 8) (.cons (.v 9) .nil)))))))))))) (.neg .i64 (.v 0)))) (.v 10))
 (.leaf (.clo (.bool true)))
 (.leaf (.clo (.bool false)))))
 (.br (.eq (.bin .mn .i64 (.v 10) (.bin .quo .i64 (.neg .i64 (.fn 4 (.cons (.v 0) (.cons (.v 1) (.cons (.v 2) (.cons (.v 3) (.cons (.v 4) (.cons (.v 5) (.cons (.v 6) (.cons (.v 7) (.cons (.v 8) (.cons (.v 9) .nil)))))))))))) (.neg .i64 (.v 0)))) (.v 10))
 (.leaf (.clo (.bool true)))
 (.leaf (.clo (.bool true))))))
 (.br (.eq (.fn 2 (.cons (.bin .add .i64 (.v 4) (.neg .i64 (.bin .add .i64 (.bin .mn .i64 (.v 10) (.bin .quo .i64 (.neg .i64 (.fn 4 (.cons (.v 0) (.cons (.v 1) (.cons (.v 2) (.cons (.v 3) (.cons (.v 4) (.cons (.v 5) (.cons (.v 6) (.cons (.v 7) (.cons (.v 8) (.cons (.v 9) .nil)))))))))))) (.neg .i64 (.v 0)))) (.lit .i64 1)))) (.cons (.bin .add .i64 (.v 5) (.lit .i64 0)) (.cons (.bin .add .i64 (.v 6) (.lit .i64 0)) (.cons (.bin .add .i64 (.v 7) (.neg .i64 (.bin .add .i64 (.bin .mn .i64 (.v 10) (.bin .quo .i64 (.neg .i64 (.fn 4 (.cons (.v 0) (.cons (.v 1) (.cons (.v 2) (.cons (.v 3) (.cons (.v 4) (.cons (.v 5) (.cons (.v 6) (.cons (.v 7) (.cons (.v 8) (.cons (.v 9) .nil)))))))))))) (.neg .i64 (.v 0)))) (.lit .i64 1)))) (.cons (.bin .add .i64 (.v 8) (.lit .i64 0)) (.cons (.bin .add .i64 (.v 9) (.lit .i64 0)) .nil))))))) (.lit .i64 0))
 (.br (.lt (.lit .i64 0) (.fn 4 (.cons (.v 0) (.cons (.v 1) (.cons (.v 2) (.cons (.v 3) (.cons (.bin .add .i64 (.v 4) (.neg .i64 (.bin .add .i64 (.bin .mn .i64 (.v 10) (.bin .quo .i64 (.neg .i64 (.fn 4 (.cons (.v 0) (.cons (.v 1) (.cons (.v 2) (.cons (.v 3) (.cons (.v 4) (.cons (.v 5) (.cons (.v 6) (.cons (.v 7) (.cons (.v 8) (.cons (.v 9) .nil)))))))))))) (.neg .i64 (.v 0)))) (.lit .i64 1)))) (.cons (.bin .add .i64 (.v 5) (.lit .i64 0)) (.cons (.bin .add .i64 (.v 6) (.lit .i64 0)) (.cons (.bin .add .i64 (.v 7) (.neg .i64 (.bin .add .i64 (.bin .mn .i64 (.v 10) (.bin .quo .i64 (.neg .i64 (.fn 4 (.cons (.v 0) (.cons (.v 1) (.cons (.v 2) (.cons (.v 3) (.cons (.v 4) (.cons (.v 5) (.cons (.v 6) (.cons (.v 7) (.cons (.v 8) (.cons (.v 9) .nil)))))))))))) (.neg .i64 (.v 0)))) (.lit .i64 1)))) (.cons (.bin .add .i64 (.v 8) (.lit .i64 0)) (.cons (.bin .add .i64 (.v 9) (.lit .i64 0)) .nil))))))))))))
 (.br (.lt (.fn 3 (.cons (.v 0) (.cons (.v 1) (.cons (.v 2) (.cons (.v 3) (.cons (.bin .add .i64 (.v 4) (.neg .i64 (.bin .add .i64 (.bin .mn .i64 (.v 10) (.bin .quo .i64 (.neg .i64 (.fn 4 (.cons (.v 0) (.cons (.v 1) (.cons (.v 2) (.cons (.v 3) (.cons (.v 4) (.cons (.v 5) (.cons (.v 6) (.cons (.v 7) (.cons (.v 8) (.cons (.v 9) .nil)))))))))))) (.neg .i64 (.v 0)))) (.lit .i64 1)))) (.cons (.bin .add .i64 (.v 5) (.lit .i64 0)) (.cons (.bin .add .i64 (.v 6) (.lit .i64 0)) (.cons (.bin .add .i64 (.v 7) (.neg .i64 (.bin .add .i64 (.bin .mn .i64 (.v 10) (.bin .quo .i64 (.neg .i64 (.fn 4 (.cons (.v 0) (.cons (.v 1) (.cons (.v 2) (.cons (.v 3) (.cons (.v 4) (.cons (.v 5) (.cons (.v 6) (.cons (.v 7) (.cons (.v 8) (.cons (.v 9) .nil)))))))))))) (.neg .i64 (.v 0)))) (.lit .i64 1)))) (.cons (.bin .add .i64 (.v 8) (.lit .i64 0)) (.cons (.bin .add .i64 (.v 9) (.lit .i64 0)) .nil))))))))))) (.lit .i64 0))
 (.br (.eq (.bin .mn .i64 (.v 10) (.bin .quo .i64 (.neg .i64 (.fn 4 (.cons (.v 0) (.cons (.v 1) (.cons (.v 2) (.cons (.v 3) (.cons (.v 4) (.cons (.v 5) (.cons (.v 6) (.cons (.v 7) (.cons (.v 8) (.cons (.v 9) .nil)))))))))))) (.neg .i64 (.v 0)))) (.v 10))
 (.leaf (.clo (.bool true)))
 (.leaf (.clo (.bool true))))
 (.br (.eq (.bin .mn .i64 (.v 10) (.bin .quo .i64 (.neg .i64 (.fn 4 (.cons (.v 0) (.cons (.v 1) (.cons (.v 2) (.cons (.v 3) (.cons (.v 4) (.cons (.v 5) (.cons (.v 6) (.cons (.v 7) (.cons (.v 8) (.cons (.v 9) .nil)))))))))))) (.neg .i64 (.v 0)))) (.v 10))
 (.leaf (.clo (.bool true)))
 (.leaf (.clo (.bool true)))))
 (.br (.eq (.bin .mn .i64 (.v 10) (.bin .quo .i64 (.neg .i64 (.fn 4 (.cons (.v 0) (.cons (.v 1) (.cons (.v 2) (.cons (.v 3) (.cons (.v 4) (.cons (.v 5) (.cons (.v 6) (.cons (.v 7) (.cons (.v 8) (.cons (.v 9) .nil)))))))))))) (.neg .i64 (.v 0)))) (.v 10))
 (.leaf (.clo (.bool true)))
 (.leaf (.clo (.bool false)))))
 (.br (.eq (.bin .mn .i64 (.v 10) (.bin .quo .i64 (.neg .i64 (.fn 4 (.cons (.v 0) (.cons (.v 1) (.cons (.v 2) (.cons (.v 3) (.cons (.v 4) (.cons (.v 5) (.cons (.v 6) (.cons (.v 7) (.cons (.v 8) (.cons (.v 9) .nil)))))))))))) (.neg .i64 (.v 0)))) (.v 10))
 (.leaf (.clo (.bool true)))
 (.leaf (.clo (.bool true))))))))
 (.br (.eq (.fn 2 (.cons (.bin .add .i64 (.v 4) (.neg .i64 (.v 10))) (.cons (.bin .add .i64 (.v 5) (.lit .i64 0)) (.cons (.bin .add .i64 (.v 6) (.lit .i64 0)) (.cons (.bin .add .i64 (.v 7) (.neg .i64 (.v 10))) (.cons (.bin .add .i64 (.v 8) (.lit .i64 0)) (.cons (.bin .add .i64 (.v 9) (.lit .i64 0)) .nil))))))) (.lit .i64 0))
 (.br (.lt (.lit .i64 0) (.fn 4 (.cons (.v 0) (.cons (.v 1) (.cons (.v 2) (.cons (.v 3) (.cons (.bin .add .i64 (.v 4) (.neg .i64 (.v 10))) (.cons (.bin .add .i64 (.v 5) (.lit .i64 0)) (.cons (.bin .add .i64 (.v 6) (.lit .i64 0)) (.cons (.bin .add .i64 (.v 7) (.neg .i64 (.v 10))) (.cons (.bin .add .i64 (.v 8) (.lit .i64 0)) (.cons (.bin .add .i64 (.v 9) (.lit .i64 0)) .nil))))))))))))
 (.br (.lt (.fn 3 (.cons (.v 0) (.cons (.v 1) (.cons (.v 2) (.cons (.v 3) (.cons (.bin .add .i64 (.v 4) (.neg .i64 (.v 10))) (.cons (.bin .add .i64 (.v 5) (.lit .i64 0)) (.cons (.bin .add .i64 (.v 6) (.lit .i64 0)) (.cons (.bin .add .i64 (.v 7) (.neg .i64 (.v 10))) (.cons (.bin .add .i64 (.v 8) (.lit .i64 0)) (.cons (.bin .add .i64 (.v 9) (.lit .i64 0)) .nil))))))))))) (.lit .i64 0))
 (.leaf (.clo (.bool false)))
 (.leaf (.clo (.bool false))))
 (.br (.eq (.fn 2 (.cons (.bin .add .i64 (.v 4) (.neg .i64 (.bin .add .i64 (.v 10) (.lit .i64 1)))) (.cons (.bin .add .i64 (.v 5) (.lit .i64 0)) (.cons (.bin .add .i64 (.v 6) (.lit .i64 0)) (.cons (.bin .add .i64 (.v 7) (.neg .i64 (.bin .add .i64 (.v 10) (.lit .i64 1)))) (.cons (.bin .add .i64 (.v 8) (.lit .i64 0)) (.cons (.bin .add .i64 (.v 9) (.lit .i64 0)) .nil))))))) (.lit .i64 0))
 (.br (.lt (.lit .i64 0) (.fn 4 (.cons (.v 0) (.cons (.v 1) (.cons (.v 2) (.cons (.v 3) (.cons (.bin .add .i64 (.v 4) (.neg .i64 (.bin .add .i64 (.v 10) (.lit .i64 1)))) (.cons (.bin .add .i64 (.v 5) (.lit .i64 0)) (.cons (.bin .add .i64 (.v 6) (.lit .i64 0)) (.cons (.bin .add .i64 (.v 7) (.neg .i64 (.bin .add .i64 (.v 10) (.lit .i64 1)))) (.cons (.bin .add .i64 (.v 8) (.lit .i64 0)) (.cons (.bin .add .i64 (.v 9) (.lit .i64 0)) .nil))))))))))))
 (.br (.lt (.fn 3 (.cons (.v 0) (.cons (.v 1) (.cons (.v 2) (.cons (.v 3) (.cons (.bin .add .i64 (.v 4) (.neg .i64 (.bin .add .i64 (.v 10) (.lit .i64 1)))) (.cons (.bin .add .i64 (.v 5) (.lit .i64 0)) (.cons (.bin .add .i64 (.v 6) (.lit .i64 0)) (.cons (.bin .add .i64 (.v 7) (.neg .i64 (.bin .add .i64 (.v 10) (.lit .i64 1)))) (.cons (.bin .add .i64 (.v 8) (.lit .i64 0)) (.cons (.bin .add .i64 (.v 9) (.lit .i64 0)) .nil))))))))))) (.lit .i64 0))
 (.leaf (.clo (.bool true)))
 (.leaf (.clo (.bool true))))
 (.leaf (.clo (.bool true))))
 (.leaf (.clo (.bool true)))))
 (.br (.eq (.fn 2 (.cons (.bin .add .i64 (.v 4) (.neg .i64 (.bin .add .i64 (.v 10) (.lit .i64 1)))) (.cons (.bin .add .i64 (.v 5) (.lit .i64 0)) (.cons (.bin .add .i64 (.v 6) (.lit .i64 0)) (.cons (.bin .add .i64 (.v 7) (.neg .i64 (.bin .add .i64 (.v 10) (.lit .i64 1)))) (.cons (.bin .add .i64 (.v 8) (.lit .i64 0)) (.cons (.bin .add .i64 (.v 9) (.lit .i64 0)) .nil))))))) (.lit .i64 0))
 (.br (.lt (.lit .i64 0) (.fn 4 (.cons (.v 0) (.cons (.v 1) (.cons (.v 2) (.cons (.v 3) (.cons (.bin .add .i64 (.v 4) (.neg .i64 (.bin .add .i64 (.v 10) (.lit .i64 1)))) (.cons (.bin .add .i64 (.v 5) (.lit .i64 0)) (.cons (.bin .add .i64 (.v 6) (.lit .i64 0)) (.cons (.bin .add .i64 (.v 7) (.neg .i64 (.bin .add .i64 (.v 10) (.lit .i64 1)))) (.cons (.bin .add .i64 (.v 8) (.lit .i64 0)) (.cons (.bin .add .i64 (.v 9) (.lit .i64 0)) .nil))))))))))))
 (.br (.lt (.fn 3 (.cons (.v 0) (.cons (.v 1) (.cons (.v 2) (.cons (.v 3) (.cons (.bin .add .i64 (.v 4) (.neg .i64 (.bin .add .i64 (.v 10) (.lit .i64 1)))) (.cons (.bin .add .i64 (.v 5) (.lit .i64 0)) (.cons (.bin .add .i64 (.v 6) (.lit .i64 0)) (.cons (.bin .add .i64 (.v 7) (.neg .i64 (.bin .add .i64 (.v 10) (.lit .i64 1)))) (.cons (.bin .add .i64 (.v 8) (.lit .i64 0)) (.cons (.bin .add .i64 (.v 9) (.lit .i64 0)) .nil))))))))))) (.lit .i64 0))
 (.leaf (.clo (.bool true)))
 (.leaf (.clo (.bool true))))
 (.leaf (.clo (.bool true))))
 (.leaf (.clo (.bool true)))))))))
 (.leaf (.clo (.bool true))))
 (.leaf (.clo (.bool true))))

def TPlaneMoves2 : Tr :=
(.br (.eq (.fn 0 (.cons (.v 0) (.cons (.v 1) (.cons (.v 2) (.cons (.v 3) .nil))))) (.lit .i64 0))
 (.br (.eq (.fn 2 (.cons (.v 4) (.cons (.v 5) (.cons (.v 6) (.cons (.v 7) (.cons (.v 8) (.cons (.v 9) .nil))))))) (.lit .i64 0))
 (.br (.lt (.v 10) (.lit .i64 0))
 (.leaf (.clo (.bool true)))
 (.br (.lt (.lit .i64 1000000) (.v 10))
 (.leaf (.clo (.bool true)))
 (.br (.lt (.lit .i64 0) (.fn 4 (.cons (.v 0) (.cons (.v 1) (.cons (.v 2) (.cons (.v 3) (.cons (.v 4) (.cons (.v 5) (.cons (.v 6) (.cons (.v 7) (.cons (.v 8) (.cons (.v 9) .nil))))))))))))
 (.leaf (.clo (.bool true)))
 (.br (.lt (.lit .i64 0) (.v 1))
 (.br (.lt (.bin .mn .i64 (.v 10) (.bin .quo .i64 (.neg .i64 (.fn 4 (.cons (.v 0) (.cons (.v 1) (.cons (.v 2) (.cons (.v 3) (.cons (.v 4) (.cons (.v 5) (.cons (.v 6) (.cons (.v 7) (.cons (.v 8) (.cons (.v 9) .nil)))))))))))) (.v 1))) (.lit .i64 0))
 (.leaf (.clo (.bool false)))
 (.br (.lt (.v 10) (.bin .mn .i64 (.v 10) (.bin .quo .i64 (.neg .i64 (.fn 4 (.cons (.v 0) (.cons (.v 1) (.cons (.v 2) (.cons (.v 3) (.cons (.v 4) (.cons (.v 5) (.cons (.v 6) (.cons (.v 7) (.cons (.v 8) (.cons (.v 9) .nil)))))))))))) (.v 1))))
 (.leaf (.clo (.bool false)))
 (.br (.eq (.fn 2 (.cons (.bin .add .i64 (.v 4) (.lit .i64 0)) (.cons (.bin .add .i64 (.v 5) (.bin .mn .i64 (.v 10) (.bin .quo .i64 (.neg .i64 (.fn 4 (.cons (.v 0) (.cons (.v 1) (.cons (.v 2) (.cons (.v 3) (.cons (.v 4) (.cons (.v 5) (.cons (.v 6) (.cons (.v 7) (.cons (.v 8) (.cons (.v 9) .nil)))))))))))) (.v 1)))) (.cons (.bin .add .i64 (.v 6) (.lit .i64 0)) (.cons (.bin .add .i64 (.v 7) (.lit .i64 0)) (.cons (.bin .add .i64 (.v 8) (.bin .mn .i64 (.v 10) (.bin .quo .i64 (.neg .i64 (.fn 4 (.cons (.v 0) (.cons (.v 1) (.cons (.v 2) (.cons (.v 3) (.cons (.v 4) (.cons (.v 5) (.cons (.v 6) (.cons (.v 7) (.cons (.v 8) (.cons (.v 9) .nil)))))))))))) (.v 1)))) (.cons (.bin .add .i64 (.v 9) (.lit .i64 0)) .nil))))))) (.lit .i64 0))
 (.br (.lt (.lit .i64 0) (.fn 4 (.cons (.v 0) (.cons (.v 1) (.cons (.v 2) (.cons (.v 3) (.cons (.bin .add .i64 (.v 4) (.lit .i64 0)) (.cons (.bin .add .i64 (.v 5) (.bin .mn .i64 (.v 10) (.bin .quo .i64 (.neg .i64 (.fn 4 (.cons (.v 0) (.cons (.v 1) (.cons (.v 2) (.cons (.v 3) (.cons (.v 4) (.cons (.v 5) (.cons (.v 6) (.cons (.v 7) (.cons (.v 8) (.cons (.v 9) .nil)))))))))))) (.v 1)))) (.cons (.bin .add .i64 (.v 6) (.lit .i64 0)) (.cons (.bin .add .i64 (.v 7) (.lit .i64 0)) (.cons (.bin .add .i64 (.v 8) (.bin .mn .i64 (.v 10) (.bin .quo .i64 (.neg .i64 (.fn 4 (.cons (.v 0) (.cons (.v 1) (.cons (.v 2) (.cons (.v 3) (.cons (.v 4) (.cons (.v 5) (.cons (.v 6) (.cons (.v 7) (.cons (.v 8) (.cons (.v 9) .nil)))))))))))) (.v 1)))) (.cons (.bin .add .i64 (.v 9) (.lit .i64 0)) .nil))))))))))))
 (.br (.lt (.fn 3 (.cons (.v 0) (.cons (.v 1) (.cons (.v 2) (.cons (.v 3) (.cons (.bin .add .i64 (.v 4) (.lit .i64 0)) (.cons (.bin .add .i64 (.v 5) (.bin .mn .i64 (.v 10) (.bin .quo .i64 (.neg .i64 (.fn 4 (.cons (.v 0) (.cons (.v 1) (.cons (.v 2) (.cons (.v 3) (.cons (.v 4) (.cons (.v 5) (.cons (.v 6) (.cons (.v 7) (.cons (.v 8) (.cons (.v 9) .nil)))))))))))) (.v 1)))) (.cons (.bin .add .i64 (.v 6) (.lit .i64 0)) (.cons (.bin .add .i64 (.v 7) (.lit .i64 0)) (.cons (.bin .add .i64 (.v 8) (.bin .mn .i64 (.v 10) (.bin .quo .i64 (.neg .i64 (.fn 4 (.cons (.v 0) (.cons (.v 1) (.cons (.v 2) (.cons (.v 3) (.cons (.v 4) (.cons (.v 5) (.cons (.v 6) (.cons (.v 7) (.cons (.v 8) (.cons (.v 9) .nil)))))))))))) (.v 1)))) (.cons (.bin .add .i64 (.v 9) (.lit .i64 0)) .nil))))))))))) (.lit .i64 0))
 (.leaf (.clo (.bool false)))
 (.leaf (.clo (.bool false))))
 (.br (.eq (.fn 2 (.cons (.bin .add .i64 (.v 4) (.lit .i64 0)) (.cons (.bin .add .i64 (.v 5) (.bin .add .i64 (.bin .mn .i64 (.v 10) (.bin .quo .i64 (.neg .i64 (.fn 4 (.cons (.v 0) (.cons (.v 1) (.cons (.v 2) (.cons (.v 3) (.cons (.v 4) (.cons (.v 5) (.cons (.v 6) (.cons (.v 7) (.cons (.v 8) (.cons (.v 9) .nil)))))))))))) (.v 1))) (.lit .i64 1))) (.cons (.bin .add .i64 (.v 6) (.lit .i64 0)) (.cons (.bin .add .i64 (.v 7) (.lit .i64 0)) (.cons (.bin .add .i64 (.v 8) (.bin .add .i64 (.bin .mn .i64 (.v 10) (.bin .quo .i64 (.neg .i64 (.fn 4 (.cons (.v 0) (.cons (.v 1) (.cons (.v 2) (.cons (.v 3) (.cons (.v 4) (.cons (.v 5) (.cons (.v 6) (.cons (.v 7) (.cons (.v 8) (.cons (.v 9) .nil)))))))))))) (.v 1))) (.lit .i64 1))) (.cons (.bin .add .i64 (.v 9) (.lit .i64 0)) .nil))))))) (.lit .i64 0))
 (.br (.lt (.lit .i64 0) (.fn 4 (.cons (.v 0) (.cons (.v 1) (.cons (.v 2) (.cons (.v 3) (.cons (.bin .add .i64 (.v 4) (.lit .i64 0)) (.cons (.bin .add .i64 (.v 5) (.bin .add .i64 (.bin .mn .i64 (.v 10) (.bin .quo .i64 (.neg .i64 (.fn 4 (.cons (.v 0) (.cons (.v 1) (.cons (.v 2) (.cons (.v 3) (.cons (.v 4) (.cons (.v 5) (.cons (.v 6) (.cons (.v 7) (.cons (.v 8) (.cons (.v 9) .nil)))))))))))) (.v 1))) (.lit .i64 1))) (.cons (.bin .add .i64 (.v 6) (.lit .i64 0)) (.cons (.bin .add .i64 (.v 7) (.lit .i64 0)) (.cons (.bin .add .i64 (.v 8) (.bin .add .i64 (.bin .mn .i64 (.v 10) (.bin .quo .i64 (.neg .i64 (.fn 4 (.cons (.v 0) (.cons (.v 1) (.cons (.v 2) (.cons (.v 3) (.cons (.v 4) (.cons (.v 5) (.cons (.v 6) (.cons (.v 7) (.cons (.v 8) (.cons (.v 9) .nil)))))))))))) (.v 1))) (.lit .i64 1))) (.cons (.bin .add .i64 (.v 9) (.lit .i64 0)) .nil))))))))))))
 (.br (.lt (.fn 3 (.cons (.v 0) (.cons (.v 1) (.cons (.v 2) (.cons (.v 3) (.cons (.bin .add .i64 (.v 4) (.lit .i64 0)) (.cons (.bin .add .i64 (.v 5) (.bin .add .i64 (.bin .mn .i64 (.v 10) (.bin .quo .i64 (.neg .i64 (.fn 4 (.cons (.v 0) (.cons (.v 1) (.cons (.v 2) (.cons (.v 3) (.cons (.v 4) (.cons (.v 5) (.cons (.v 6) (.cons (.v 7) (.cons (.v 8) (.cons (.v 9) .nil)))))))))))) (.v 1))) (.lit .i64 1))) (.cons (.bin .add .i64 (.v 6) (.lit .i64 0)) (.cons (.bin .add .i64 (.v 7) (.lit .i64 0)) (.cons (.bin .add .i64 (.v 8) (.bin .add .i64 (.bin .mn .i64 (.v 10) (.bin .quo .i64 (.neg .i64 (.fn 4 (.cons (.v 0) (.cons (.v 1) (.cons (.v 2) (.cons (.v 3) (.cons (.v 4) (.cons (.v 5) (.cons (.v 6) (.cons (.v 7) (.cons (.v 8) (.cons (.v 9) .nil)))))))))))) (.v 1))) (.lit .i64 1))) (.cons (.bin .add .i64 (.v 9) (.lit .i64 0)) .nil))))))))))) (.lit .i64 0))
 (.br (.eq (.bin .mn .i64 (.v 10) (.bin .quo .i64 (.neg .i64 (.fn 4 (.cons (.v 0) (.cons (.v 1) (.cons (.v 2) (.cons (.v 3) (.cons (.v 4) (.cons (.v 5) (.cons (.v 6) (.cons (.v 7) (.cons (.v 8) (.cons (.v 9) .nil)))))))))))) (.v 1))) (.v 10))
 (.leaf (.clo (.bool true)))
 (.leaf (.clo (.bool true))))
 (.br (.eq (.bin .mn .i64 (.v 10) (.bin .quo .i64 (.neg .i64 (.fn 4 (.cons (.v 0) (.cons (.v 1) (.cons (.v 2) (.cons (.v 3) (.cons (.v 4) (.cons (.v 5) (.cons (.v 6) (.cons (.v 7) (.cons (.v 8) (.cons (.v 9) .nil)))))))))))) (.v 1))) (.v 10))
 (.leaf (.clo (.bool true)))
 (.leaf (.clo (.bool true)))))
 (.br (.eq (.bin .mn .i64 (.v 10) (.bin .quo .i64 (.neg .i64 (.fn 4 (.cons (.v 0) (.cons (.v 1) (.cons (.v 2) (.cons (.v 3) (.cons (.v 4) (.cons (.v 5) (.cons (.v 6) (.cons (.v 7) (.cons (.v 8) (.cons (.v 9) .nil)))))))))))) (.v 1))) (.v 10))
 (.leaf (.clo (.bool true)))
 (.leaf (.clo (.bool false)))))
 (.br (.eq (.bin .mn .i64 (.v 10) (.bin .quo .i64 (.neg .i64 (.fn 4 (.cons (.v 0) (.cons (.v 1) (.cons (.v 2) (.cons (.v 3) (.cons (.v 4) (.cons (.v 5) (.cons (.v 6) (.cons (.v 7) (.cons (.v 8) (.cons (.v 9) .nil)))))))))))) (.v 1))) (.v 10))
 (.leaf (.clo (.bool true)))
 (.leaf (.clo (.bool true))))))
 (.br (.eq (.fn 2 (.cons (.bin .add .i64 (.v 4) (.lit .i64 0)) (.cons (.bin .add .i64 (.v 5) (.bin .add .i64 (.bin .mn .i64 (.v 10) (.bin .quo .i64 (.neg .i64 (.fn 4 (.cons (.v 0) (.cons (.v 1) (.cons (.v 2) (.cons (.v 3) (.cons (.v 4) (.cons (.v 5) (.cons (.v 6) (.cons (.v 7) (.cons (.v 8) (.cons (.v 9) .nil)))))))))))) (.v 1))) (.lit .i64 1))) (.cons (.bin .add .i64 (.v 6) (.lit .i64 0)) (.cons (.bin .add .i64 (.v 7) (.lit .i64 0)) (.cons (.bin .add .i64 (.v 8) (.bin .add .i64 (.bin .mn .i64 (.v 10) (.bin .quo .i64 (.neg .i64 (.fn 4 (.cons (.v 0) (.cons (.v 1) (.cons (.v 2) (.cons (.v 3) (.cons (.v 4) (.cons (.v 5) (.cons (.v 6) (.cons (.v 7) (.cons (.v 8) (.cons (.v 9) .nil)))))))))))) (.v 1))) (.lit .i64 1))) (.cons (.bin .add .i64 (.v 9) (.lit .i64 0)) .nil))))))) (.lit .i64 0))
 (.br (.lt (.lit .i64 0) (.fn 4 (.cons (.v 0) (.cons (.v 1) (.cons (.v 2) (.cons (.v 3) (.cons (.bin .add .i64 (.v 4) (.lit .i64 0)) (.cons (.bin .add .i64 (.v 5) (.bin .add .i64 (.bin .mn .i64 (.v 10) (.bin .quo .i64 (.neg .i64 (.fn 4 (.cons (.v 0) (.cons (.v 1) (.cons (.v 2) (.cons (.v 3) (.cons (.v 4) (.cons (.v 5) (.cons (.v 6) (.cons (.v 7) (.cons (.v 8) (.cons (.v 9) .nil)))))))))))) (.v 1))) (.lit .i64 1))) (.cons (.bin .add .i64 (.v 6) (.lit .i64 0)) (.cons (.bin .add .i64 (.v 7) (.lit .i64 0)) (.cons (.bin .add .i64 (.v 8) (.bin .add .i64 (.bin .mn .i64 (.v 10) (.bin .quo .i64 (.neg .i64 (.fn 4 (.cons (.v 0) (.cons (.v 1) (.cons (.v 2) (.cons (.v 3) (.cons (.v 4) (.cons (.v 5) (.cons (.v 6) (.cons (.v 7) (.cons (.v 8) (.cons (.v 9) .nil)))))))))))) (.v 1))) (.lit .i64 1))) (.cons (.bin .add .i64 (.v 9) (.lit .i64 0)) .nil))))))))))))
 (.br (.lt (.fn 3 (.cons (.v 0) (.cons (.v 1) (.cons (.v 2) (.cons (.v 3) (.cons (.bin .add .i64 (.v 4) (.lit .i64 0)) (.cons (.bin .add .i64 (.v 5) (.bin .add .i64 (.bin .mn .i64 (.v 10) (.bin .quo .i64 (.neg .i64 (.fn 4 (.cons (.v 0) (.cons (.v 1) (.cons (.v 2) (.cons (.v 3) (.cons (.v 4) (.cons (.v 5) (.cons (.v 6) (.cons (.v 7) (.cons (.v 8) (.cons (.v 9) .nil)))))))))))) (.v 1))) (.lit .i64 1))) (.cons (.bin .add .i64 (.v 6) (.lit .i64 0)) (.cons (.bin .add .i64 (.v 7) (.lit .i64 0)) (.cons (.bin .add .i64 (.v 8) (.bin .add .i64 (.bin .mn .i64 (.v 10) (.bin .quo .i64 (.neg .i64 (.fn 4 (.cons (.v 0) (.cons (.v 1) (.cons (.v 2) (.cons (.v 3) (.cons (.v 4) (.cons (.v 5) (.cons (.v 6) (.cons (.v 7) (.cons (.v 8) (.cons (.v 9) .nil)))))))))))) (.v 1))) (.lit .i64 1))) (.cons (.bin .add .i64 (.v 9) (.lit .i64 0)) .nil))))))))))) (.lit .i64 0))
 (.br (.eq (.bin .mn .i64 (.v 10) (.bin .quo .i64 (.neg .i64 (.fn 4 (.cons (.v 0) (.cons (.v 1) (.cons (.v 2) (.cons (.v 3) (.cons (.v 4) (.cons (.v 5) (.cons (.v 6) (.cons (.v 7) (.cons (.v 8) (.cons (.v 9) .nil)))))))))))) (.v 1))) (.v 10))
 (.leaf (.clo (.bool true)))
 (.leaf (.clo (.bool true))))
 (.br (.eq (.bin .mn .i64 (.v 10) (.bin .quo .i64 (.neg .i64 (.fn 4 (.cons (.v 0) (.cons (.v 1) (.cons (.v 2) (.cons (.v 3) (.cons (.v 4) (.cons (.v 5) (.cons (.v 6) (.cons (.v 7) (.cons (.v 8) (.cons (.v 9) .nil)))))))))))) (.v 1))) (.v 10))
 (.leaf (.clo (.bool true)))
 (.leaf (.clo (.bool true)))))
 (.br (.eq (.bin .mn .i64 (.v 10) (.bin .quo .i64 (.neg .i64 (.fn 4 (.cons (.v 0) (.cons (.v 1) (.cons (.v 2) (.cons (.v 3) (.cons (.v 4) (.cons (.v 5) (.cons (.v 6) (.cons (.v 7) (.cons (.v 8) (.cons (.v 9) .nil)))))))))))) (.v 1))) (.v 10))
 (.leaf (.clo (.bool true)))
 (.leaf (.clo (.bool false)))))
 (.br (.eq (.bin .mn .i64 (.v 10) (.bin .quo .i64 (.neg .i64 (.fn 4 (.cons (.v 0) (.cons (.v 1) (.cons (.v 2) (.cons (.v 3) (.cons (.v 4) (.cons (.v 5) (.cons (.v 6) (.cons (.v 7) (.cons (.v 8) (.cons (.v 9) .nil)))))))))))) (.v 1))) (.v 10))
 (.leaf (.clo (.bool true)))
 (.leaf (.clo (.bool true))))))))
 (.br (.eq (.fn 2 (.cons (.bin .add .i64 (.v 4) (.lit .i64 0)) (.cons (.bin .add .i64 (.v 5) (.v 10)) (.cons (.bin .add .i64 (.v 6) (.lit .i64 0)) (.cons (.bin .add .i64 (.v 7) (.lit .i64 0)) (.cons (.bin .add .i64 (.v 8) (.v 10)) (.cons (.bin .add .i64 (.v 9) (.lit .i64 0)) .nil))))))) (.lit .i64 0))
 (.br (.lt (.lit .i64 0) (.fn 4 (.cons (.v 0) (.cons (.v 1) (.cons (.v 2) (.cons (.v 3) (.cons (.bin .add .i64 (.v 4) (.lit .i64 0)) (.cons (.bin .add .i64 (.v 5) (.v 10)) (.cons (.bin .add .i64 (.v 6) (.lit .i64 0)) (.cons (.bin .add .i64 (.v 7) (.lit .i64 0)) (.cons (.bin .add .i64 (.v 8) (.v 10)) (.cons (.bin .add .i64 (.v 9) (.lit .i64 0)) .nil))))))))))))
 (.br (.lt (.fn 3 (.cons (.v 0) (.cons (.v 1) (.cons (.v 2) (.cons (.v 3) (.cons (.bin .add .i64 (.v 4) (.lit .i64 0)) (.cons (.bin .add .i64 (.v 5) (.v 10)) (.cons (.bin .add .i64 (.v 6) (.lit .i64 0)) (.cons (.bin .add .i64 (.v 7) (.lit .i64 0)) (.cons (.bin .add .i64 (.v 8) (.v 10)) (.cons (.bin .add .i64 (.v 9) (.lit .i64 0)) .nil))))))))))) (.lit .i64 0))
 (.leaf (.clo (.bool false)))
 (.leaf (.clo (.bool false))))
 (.br (.eq (.fn 2 (.cons (.bin .add .i64 (.v 4) (.lit .i64 0)) (.cons (.bin .add .i64 (.v 5) (.bin .add .i64 (.v 10) (.lit .i64 1))) (.cons (.bin .add .i64 (.v 6) (.lit .i64 0)) (.cons (.bin .add .i64 (.v 7) (.lit .i64 0)) (.cons (.bin .add .i64 (.v 8) (.bin .add .i64 (.v 10) (.lit .i64 1))) (.cons (.bin .add .i64 (.v 9) (.lit .i64 0)) .nil))))))) (.lit .i64 0))
 (.br (.lt (.lit .i64 0) (.fn 4 (.cons (.v 0) (.cons (.v 1) (.cons (.v 2) (.cons (.v 3) (.cons (.bin .add .i64 (.v 4) (.lit .i64 0)) (.cons (.bin .add .i64 (.v 5) (.bin .add .i64 (.v 10) (.lit .i64 1))) (.cons (.bin .add .i64 (.v 6) (.lit .i64 0)) (.cons (.bin .add .i64 (.v 7) (.lit .i64 0)) (.cons (.bin .add .i64 (.v 8) (.bin .add .i64 (.v 10) (.lit .i64 1))) (.cons (.bin .add .i64 (.v 9) (.lit .i64 0)) .nil))))))))))))
 (.br (.lt (.fn 3 (.cons (.v 0) (.cons (.v 1) (.cons (.v 2) (.cons (.v 3) (.cons (.bin .add .i64 (.v 4) (.lit .i64 0)) (.cons (.bin .add .i64 (.v 5) (.bin .add .i64 (.v 10) (.lit .i64 1))) (.cons (.bin .add .i64 (.v 6) (.lit .i64 0)) (.cons (.bin .add .i64 (.v 7) (.lit .i64 0)) (.cons (.bin .add .i64 (.v 8) (.bin .add .i64 (.v 10) (.lit .i64 1))) (.cons (.bin .add .i64 (.v 9) (.lit .i64 0)) .nil))))))))))) (.lit .i64 0))
 (.leaf (.clo (.bool true)))
 (.leaf (.clo (.bool true))))
 (.leaf (.clo (.bool true))))
 (.leaf (.clo (.bool true)))))
 (.br (.eq (.fn 2 (.cons (.bin .add .i64 (.v 4) (.lit .i64 0)) (.cons (.bin .add .i64 (.v 5) (.bin .add .i64 (.v 10) (.lit .i64 1))) (.cons (.bin .add .i64 (.v 6) (.lit .i64 0)) (.cons (.bin .add .i64 (.v 7) (.lit .i64 0)) (.cons (.bin .add .i64 (.v 8) (.bin .add .i64 (.v 10) (.lit .i64 1))) (.cons (.bin .add .i64 (.v 9) (.lit .i64 0)) .nil))))))) (.lit .i64 0))
 (.br (.lt (.lit .i64 0) (.fn 4 (.cons (.v 0) (.cons (.v 1) (.cons (.v 2) (.cons (.v 3) (.cons (.bin .add .i64 (.v 4) (.lit .i64 0)) (.cons (.bin .add .i64 (.v 5) (.bin .add .i64 (.v 10) (.lit .i64 1))) (.cons (.bin .add .i64 (.v 6) (.lit .i64 0)) (.cons (.bin .add .i64 (.v 7) (.lit .i64 0)) (.cons (.bin .add .i64 (.v 8) (.bin .add .i64 (.v 10) (.lit .i64 1))) (.cons (.bin .add .i64 (.v 9) (.lit .i64 0)) .nil))))))))))))
 (.br (.lt (.fn 3 (.cons (.v 0) (.cons (.v 1) (.cons (.v 2) (.cons (.v 3) (.cons (.bin .add .i64 (.v 4) (.lit .i64 0)) (.cons (.bin .add .i64 (.v 5) (.bin .add .i64 (.v 10) (.lit .i64 1))) (.cons (.bin .add .i64 (.v 6) (.lit .i64 0)) (.cons (.bin .add .i64 (.v 7) (.lit .i64 0)) (.cons (.bin .add .i64 (.v 8) (.bin .add .i64 (.v 10) (.lit .i64 1))) (.cons (.bin .add .i64 (.v 9) (.lit .i64 0)) .nil))))))))))) (.lit .i64 0))
 (.leaf (.clo (.bool true)))
 (.leaf (.clo (.bool true))))
 (.leaf (.clo (.bool true))))
 (.leaf (.clo (.bool true)))))))))
 (.leaf (.clo (.bool true))))
 (.leaf (.clo (.bool true))))

def TPlaneMoves3 : Tr :=
(.br (.eq (.fn 0 (.cons (.v 0) (.cons (.v 1) (.cons (.v 2) (.cons (.v 3) .nil))))) (.lit .i64 0))
 (.br (.eq (.fn 2 (.cons (.v 4) (.cons (.v 5) (.cons (.v 6) (.cons (.v 7) (.cons (.v 8) (.cons (.v 9) .nil))))))) (.lit .i64 0))
 (.br (.lt (.v 10) (.lit .i64 0))
 (.leaf (.clo (.bool true)))
 (.br (.lt (.lit .i64 1000000) (.v 10))
 (.leaf (.clo (.bool true)))
 (.br (.lt (.lit .i64 0) (.fn 4 (.cons (.v 0) (.cons (.v 1) (.cons (.v 2) (.cons (.v 3) (.cons (.v 4) (.cons (.v 5) (.cons (.v 6) (.cons (.v 7) (.cons (.v 8) (.cons (.v 9) .nil))))))))))))
 (.leaf (.clo (.bool true)))
 (.br (.lt (.lit .i64 0) (.neg .i64 (.v 1)))
 (.br (.lt (.bin .mn .i64 (.v 10) (.bin .quo .i64 (.neg .i64 (.fn 4 (.cons (.v 0) (.cons (.v 1) (.cons (.v 2) (.cons (.v 3) (.cons (.v 4) (.cons (.v 5) (.cons (.v 6) (.cons (.v 7) (.cons (.v 8) (.cons (.v 9) .nil)))))))))))) (.neg .i64 (.v 1)))) (.lit .i64 0))
 (.leaf (.clo (.bool false)))
 (.br (.lt (.v 10) (.bin .mn .i64 (.v 10) (.bin .quo .i64 (.neg .i64 (.fn 4 (.cons (.v 0) (.cons (.v 1) (.cons (.v 2) (.cons (.v 3) (.cons (.v 4) (.cons (.v 5) (.cons (.v 6) (.cons (.v 7) (.cons (.v 8) (.cons (.v 9) .nil)))))))))))) (.neg .i64 (.v 1)))))
 (.leaf (.clo (.bool false)))
 (.br (.eq (.fn 2 (.cons (.bin .add .i64 (.v 4) (.lit .i64 0)) (.cons (.bin .add .i64 (.v 5) (.neg .i64 (.bin .mn .i64 (.v 10) (.bin .quo .i64 (.neg .i64 (.fn 4 (.cons (.v 0) (.cons (.v 1) (.cons (.v 2) (.cons (.v 3) (.cons (.v 4) (.cons (.v 5) (.cons (.v 6) (.cons (.v 7) (.cons (.v 8) (.cons (.v 9) .nil)))))))))))) (.neg .i64 (.v 1)))))) (.cons (.bin .add .i64 (.v 6) (.lit .i64 0)) (.cons (.bin .add .i64 (.v 7) (.lit .i64 0)) (.cons (.bin .add .i64 (.v 8) (.neg .i64 (.bin .mn .i64 (.v 10) (.bin .quo .i64 (.neg .i64 (.fn 4 (.cons (.v 0) (.cons (.v 1) (.cons (.v 2) (.cons (.v 3) (.cons (.v 4) (.cons (.v 5) (.cons (.v 6) (.cons (.v 7) (.cons (.v 8) (.cons (.v 9) .nil)))))))))))) (.neg .i64 (.v 1)))))) (.cons (.bin .add .i64 (.v 9) (.lit .i64 0)) .nil))))))) (.lit .i64 0))
 (.br (.lt (.lit .i64 0) (.fn 4 (.cons (.v 0) (.cons (.v 1) (.cons (.v 2) (.cons (.v 3) (.cons (.bin .add .i64 (.v 4) (.lit .i64 0)) (.cons (.bin .add .i64 (.v 5) (.neg .i64 (.bin .mn .i64 (.v 10) (.bin .quo .i64 (.neg .i64 (.fn 4 (.cons (.v 0) (.cons (.v 1) (.cons (.v 2) (.cons (.v 3) (.cons (.v 4) (.cons (.v 5) (.cons (.v 6) (.cons (.v 7) (.cons (.v 8) (.cons (.v 9) .nil)))))))))))) (.neg .i64 (.v 1)))))) (.cons (.bin .add .i64 (.v 6) (.lit .i64 0)) (.cons (.bin .add .i64 (.v 7) (.lit .i64 0)) (.cons (.bin .add .i64 (.v 8) (.neg .i64 (.bin .mn .i64 (.v 10) (.bin .quo .i64 (.neg .i64 (.fn 4 (.cons (.v 0) (.cons (.v 1) (.cons (.v 2) (.cons (.v 3) (.cons (.v 4) (.cons (.v 5) (.cons (.v 6) (.cons (.v 7) (.cons (.v 8) (.cons (.v 9) .nil)))))))))))) (.neg .i64 (.v 1)))))) (.cons (.bin .add .i64 (.v 9) (.lit .i64 0)) .nil))))))))))))
 (.br (.lt (.fn 3 (.cons (.v 0) (.cons (.v 1) (.cons (.v 2) (.cons (.v 3) (.cons (.bin .add .i64 (.v 4) (.lit .i64 0)) (.cons (.bin .add .i64 (.v 5) (.neg .i64 (.bin .mn .i64 (.v 10) (.bin .quo .i64 (.neg .i64 (.fn 4 (.cons (.v 0) (.cons (.v 1) (.cons (.v 2) (.cons (.v 3) (.cons (.v 4) (.cons (.v 5) (.cons (.v 6) (.cons (.v 7) (.cons (.v 8) (.cons (.v 9) .nil)))))))))))) (.neg .i64 (.v 1)))))) (.cons (.bin .add .i64 (.v 6) (.lit .i64 0)) (.cons (.bin .add .i64 (.v 7) (.lit .i64 0)) (.cons (.bin .add .i64 (.v 8) (.neg .i64 (.bin .mn .i64 (.v 10) (.bin .quo .i64 (.neg .i64 (.fn 4 (.cons (.v 0) (.cons (.v 1) (.cons (.v 2) (.cons (.v 3) (.cons (.v 4) (.cons (.v 5) (.cons (.v 6) (.cons (.v 7) (.cons (.v 8) (.cons (.v 9) .nil)))))))))))) (.neg .i64 (.v 1)))))) (.cons (.bin .add .i64 (.v 9) (.lit .i64 0)) .nil))))))))))) (.lit .i64 0))
 (.leaf (.clo (.bool false)))
 (.leaf (.clo (.bool false))))
 (.br (.eq (.fn 2 (.cons (.bin .add .i64 (.v 4) (.lit .i64 0)) (.cons (.bin .add .i64 (.v 5) (.neg .i64 (.bin .add .i64 (.bin .mn .i64 (.v 10) (.bin .quo .i64 (.neg .i64 (.fn 4 (.cons (.v 0) (.cons (.v 1) (.cons (.v 2) (.cons (.v 3) (.cons (.v 4) (.cons (.v 5) (.cons (.v 6) (.cons (.v 7) (.cons (.v 8) (.cons (.v 9) .nil)))))))))))) (.neg .i64 (.v 1)))) (.lit .i64 1)))) (.cons (.bin .add .i64 (.v 6) (.lit .i64 0)) (.cons (.bin .add .i64 (.v 7) (.lit .i64 0)) (.cons (.bin .add .i64 (.v 8) (.neg .i64 (.bin .add .i64 (.bin .mn .i64 (.v 10) (.bin .quo .i64 (.neg .i64 (.fn 4 (.cons (.v 0) (.cons (.v 1) (.cons (.v 2) (.cons (.v 3) (.cons (.v 4) (.cons (.v 5) (.cons (.v 6) (.cons (.v 7) (.cons (.v 8) (.cons (.v 9) .nil)))))))))))) (.neg .i64 (.v 1)))) (.lit .i64 1)))) (.cons (.bin .add .i64 (.v 9) (.lit .i64 0)) .nil))))))) (.lit .i64 0))
 (.br (.lt (.lit .i64 0) (.fn 4 (.cons (.v 0) (.cons (.v 1) (.cons (.v 2) (.cons (.v 3) (.cons (.bin .add .i64 (.v 4) (.lit .i64 0)) (.cons (.bin .add .i64 (.v 5) (.neg .i64 (.bin .add .i64 (.bin .mn .i64 (.v 10) (.bin .quo .i64 (.neg .i64 (.fn 4 (.cons (.v 0) (.cons (.v 1) (.cons (.v 2) (.cons (.v 3) (.cons (.v 4) (.cons (.v 5) (.cons (.v 6) (.cons (.v 7) (.cons (.v 8) (.cons (.v 9) .nil)))))))))))) (.neg .i64 (.v 1)))) (.lit .i64 1)))) (.cons (.bin .add .i64 (.v 6) (.lit .i64 0)) (.cons (.bin .add .i64 (.v 7) (.lit .i64 0)) (.cons (.bin .add .i64 (.v 8) (.neg .i64 (.bin .add .i64 (.bin .mn .i64 (.v 10) (.bin .quo .i64 (.neg .i64 (.fn 4 (.cons (.v 0) (.cons (.v 1) (.cons (.v 2) (.cons (.v 3) (.cons (.v 4) (.cons (.v 5) (.cons (.v 6) (.cons (.v 7) (.cons (.v 8) (.cons (.v 9) .nil)))))))))))) (.neg .i64 (.v 1)))) (.lit .i64 1)))) (.cons (.bin .add .i64 (.v 9) (.lit .i64 0)) .nil))))))))))))
 (.br (.lt (.fn 3 (.cons (.v 0) (.cons (.v 1) (.cons (.v 2) (.cons (.v 3) (.cons (.bin .add .i64 (.v 4) (.lit .i64 0)) (.cons (.bin .add .i64 (.v 5) (.neg .i64 (.bin .add .i64 (.bin .mn .i64 (.v 10) (.bin .quo .i64 (.neg .i64 (.fn 4 (.cons (.v 0) (.cons (.v 1) (.cons (.v 2) (.cons (.v 3) (.cons (.v 4) (.cons (.v 5) (.cons (.v 6) (.cons (.v 7) (.cons (.v 8) (.cons (.v 9) .nil)))))))))))) (.neg .i64 (.v 1)))) (.lit .i64 1)))) (.cons (.bin .add .i64 (.v 6) (.lit .i64 0)) (.cons (.bin .add .i64 (.v 7) (.lit .i64 0)) (.cons (.bin .add .i64 (.v 8) (.neg .i64 (.bin .add .i64 (.bin .mn .i64 (.v 10) (.bin .quo .i64 (.neg .i64 (.fn 4 (.cons (.v 0) (.cons (.v 1) (.cons (.v 2) (.cons (.v 3) (.cons (.v 4) (.cons (.v 5) (.cons (.v 6) (.cons (.v 7) (.cons (.v 8) (.cons (.v 9) .nil)))))))))))) (.neg .i64 (.v 1)))) (.lit .i64 1)))) (.cons (.bin .add .i64 (.v 9) (.lit .i64 0)) .nil))))))))))) (.lit .i64 0))
 (.br (.eq (.bin .mn .i64 (.v 10) (.bin .quo .i64 (.neg .i64 (.fn 4 (.cons (.v 0) (.cons (.v 1) (.cons (.v 2) (.cons (.v 3) (.cons (.v 4) (.cons (.v 5) (.cons (.v 6) (.cons (.v 7) (.cons (.v 8) (.cons (.v 9) .nil)))))))))))) (.neg .i64 (.v 1)))) (.v 10))
 (.leaf (.clo (.bool true)))
 (.leaf (.clo (.bool true))))
 (.br (.eq (.bin .mn .i64 (.v 10) (.bin .quo .i64 (.neg .i64 (.fn 4 (.cons (.v 0) (.cons (.v 1) (.cons (.v 2) (.cons (.v 3) (.cons (.v 4) (.cons (.v 5) (.cons (.v 6) (.cons (.v 7) (.cons (.v 8) (.cons (.v 9) .nil)))))))))))) (.neg .i64 (.v 1)))) (.v 10))
 (.leaf (.clo (.bool true)))
 (.leaf (.clo (.bool true)))))
 (.br (.eq (.bin .mn .i64 (.v 10) (.bin .quo .i64 (.neg .i64 (.fn 4 (.cons (.v 0) (.cons (.v 1) (.cons (.v 2) (.cons (.v 3) (.cons (.v 4) (.cons (.v 5) (.cons (.v 6) (.cons (.v 7) (.cons (.v 8) (.cons (.v 9) .nil)))))))))))) (.neg .i64 (.v 1)))) (.v 10))
 (.leaf (.clo (.bool true)))
 (.leaf (.clo (.bool false)))))
 (.br (.eq (.bin .mn .i64 (.v 10) (.bin .quo .i64 (.neg .i64 (.fn 4 (.cons (.v 0) (.cons (.v 1) (.cons (.v 2) (.cons (.v 3) (.cons (.v 4) (.cons (.v 5) (.cons (.v 6) (.cons (.v 7) (.cons (.v 8) (.cons (.v 9) .nil)))))))))))) (.neg .i64 (.v 1)))) (.v 10))
 (.leaf (.clo (.bool true)))
 (.leaf (.clo (.bool true))))))
 (.br (.eq (.fn 2 (.cons (.bin .add .i64 (.v 4) (.lit .i64 0)) (.cons (.bin .add .i64 (.v 5) (.neg .i64 (.bin .add .i64 (.bin .mn .i64 (.v 10) (.bin .quo .i64 (.neg .i64 (.fn 4 (.cons (.v 0) (.cons (.v 1) (.cons (.v 2) (.cons (.v 3) (.cons (.v 4) (.cons (.v 5) (.cons (.v 6) (.cons (.v 7) (.cons (.v 8) (.cons (.v 9) .nil)))))))))))) (.neg .i64 (.v 1)))) (.lit .i64 1)))) (.cons (.bin .add .i64 (.v 6) (.lit .i64 0)) (.cons (.bin .add .i64 (.v 7) (.lit .i64 0)) (.cons (.bin .add .i64 (.v 8) (.neg .i64 (.bin .add .i64 (.bin .mn .i64 (.v 10) (.bin .quo .i64 (.neg .i64 (.fn 4 (.cons (.v 0) (.cons (.v 1) (.cons (.v 2) (.cons (.v 3) (.cons (.v 4) (.cons (.v 5) (.cons (.v 6) (.cons (.v 7) (.cons (.v 8) (.cons (.v 9) .nil)))))))))))) (.neg .i64 (.v 1)))) (.lit .i64 1)))) (.cons (.bin .add .i64 (.v 9) (.lit .i64 0)) .nil))))))) (.lit .i64 0))
 (.br (.lt (.lit .i64 0) (.fn 4 (.cons (.v 0) (.cons (.v 1) (.cons (.v 2) (.cons (.v 3) (.cons (.bin .add .i64 (.v 4) (.lit .i64 0)) (.cons (.bin .add .i64 (.v 5) (.neg .i64 (.bin .add .i64 (.bin .mn .i64 (.v 10) (.bin .quo .i64 (.neg .i64 (.fn 4 (.cons (.v 0) (.cons (.v 1) (.cons (.v 2) (.cons (.v 3) (.cons (.v 4) (.cons (.v 5) (.cons (.v 6) (.cons (.v 7) (.cons (.v 8) (.cons (.v 9) .nil)))))))))))) (.neg .i64 (.v 1)))) (.lit .i64 1)))) (.cons (.bin .add .i64 (.v 6) (.lit .i64 0)) (.cons (.bin .add .i64 (.v 7) (.lit .i64 0)) (.cons (.bin .add .i64 (.v 8) (.neg .i64 (.bin .add .i64 (.bin .mn .i64 (.v 10) (.bin .quo .i64 (.neg .i64 (.fn 4 (.cons (.v 0) (.cons (.v 1) (.cons (.v 2) (.cons (.v 3) (.cons (.v 4) (.cons (.v 5) (.cons (.v 6) (.cons (.v 7) (.cons (.v 8) (.cons (.v 9) .nil)))))))))))) (.neg .i64 (.v 1)))) (.lit .i64 1)))) (.cons (.bin .add .i64 (.v 9) (.lit .i64 0)) .nil))))))))))))
 (.br (.lt (.fn 3 (.cons (.v 0) (.cons (.v 1) (.cons (.v 2) (.cons (.v 3) (.cons (.bin .add .i64 (.v 4) (.lit .i64 0)) (.cons (.bin .add .i64 (.v 5) (.neg .i64 (.bin .add .i64 (.bin .mn .i64 (.v 10) (.bin .quo .i64 (.neg .i64 (.fn 4 (.cons (.v 0) (.cons (.v 1) (.cons (.v 2) (.cons (.v 3) (.cons (.v 4) (.cons (.v 5) (.cons (.v 6) (.cons (.v 7) (.cons (.v 8) (.cons (.v 9) .nil)))))))))))) (.neg .i64 (.v 1)))) (.lit .i64 1)))) (.cons (.bin .add .i64 (.v 6) (.lit .i64 0)) (.cons (.bin .add .i64 (.v 7) (.lit .i64 0)) (.cons (.bin .add .i64 (.v 8) (.neg .i64 (.bin .add .i64 (.bin .mn .i64 (.v 10) (.bin .quo .i64 (.neg .i64 (.fn 4 (.cons (.v 0) (.cons (.v 1) (.cons (.v 2) (.cons (.v 3) (.cons (.v 4) (.cons (.v 5) (.cons (.v 6) (.cons (.v 7) (.cons (.v 8) (.cons (.v 9) .nil)))))))))))) (.neg .i64 (.v 1)))) (.lit .i64 1)))) (.cons (.bin .add .i64 (.v 9) (.lit .i64 0)) .nil))))))))))) (.lit .i64 0))
 (.br (.eq (.bin .mn .i64 (.v 10) (.bin .quo .i64 (.neg .i64 (.fn 4 (.cons (.v 0) (.cons (.v 1) (.cons (.v 2) (.cons (.v 3) (.cons (.v 4) (.cons (.v 5) (.cons (.v 6) (.cons (.v 7) (.cons (.v 8) (.cons (.v 9) .nil)))))))))))) (.neg .i64 (.v 1)))) (.v 10))
 (.leaf (.clo (.bool true)))
 (.leaf (.clo (.bool true))))
 (.br (.eq (.bin .mn .i64 (.v 10) (.bin .quo .i64 (.neg .i64 (.fn 4 (.cons (.v 0) (.cons (.v 1) (.cons (.v 2) (.cons (.v 3) (.cons (.v 4) (.cons (.v 5) (.cons (.v 6) (.cons (.v 7) (.cons (.v 8) (.cons (.v 9) .nil)))))))))))) (.neg .i64 (.v 1)))) (.v 10))
 (.leaf (.clo (.bool true)))
 (.leaf (.clo (.bool true)))))
 (.br (.eq (.bin .mn .i64 (.v 10) (.bin .quo .i64 (.neg .i64 (.fn 4 (.cons (.v 0) (.cons (.v 1) (.cons (.v 2) (.cons (.v 3) (.cons (.v 4) (.cons (.v 5) (.cons (.v 6) (.cons (.v 7) (.cons (.v 8) (.cons (.v 9) .nil)))))))))))) (.neg .i64 (.v 1)))) (.v 10))
 (.leaf (.clo (.bool true)))
 (.leaf (.clo (.bool false)))))
 (.br (.eq (.bin .mn .i64 (.v 10) (.bin .quo .i64 (.neg .i64 (.fn 4 (.cons (.v 0) (.cons (.v 1) (.cons (.v 2) (.cons (.v 3) (.cons (.v 4) (.cons (.v 5) (.cons (.v 6) (.cons (.v 7) (.cons (.v 8) (.cons (.v 9) .nil)))))))))))) (.neg .i64 (.v 1)))) (.v 10))
 (.leaf (.clo (.bool true)))
 (.leaf (.clo (.bool true))))))))
 (.br (.eq (.fn 2 (.cons (.bin .add .i64 (.v 4) (.lit .i64 0)) (.cons (.bin .add .i64 (.v 5) (.neg .i64 (.v 10))) (.cons (.bin .add .i64 (.v 6) (.lit .i64 0)) (.cons (.bin .add .i64 (.v 7) (.lit .i64 0)) (.cons (.bin .add .i64 (.v 8) (.neg .i64 (.v 10))) (.cons (.bin .add .i64 (.v 9) (.lit .i64 0)) .nil))))))) (.lit .i64 0))
 (.br (.lt (.lit .i64 0) (.fn 4 (.cons (.v 0) (.cons (.v 1) (.cons (.v 2) (.cons (.v 3) (.cons (.bin .add .i64 (.v 4) (.lit .i64 0)) (.cons (.bin .add .i64 (.v 5) (.neg .i64 (.v 10))) (.cons (.bin .add .i64 (.v 6) (.lit .i64 0)) (.cons (.bin .add .i64 (.v 7) (.lit .i64 0)) (.cons (.bin .add .i64 (.v 8) (.neg .i64 (.v 10))) (.cons (.bin .add .i64 (.v 9) (.lit .i64 0)) .nil))))))))))))
 (.br (.lt (.fn 3 (.cons (.v 0) (.cons (.v 1) (.cons (.v 2) (.cons (.v 3) (.cons (.bin .add .i64 (.v 4) (.lit .i64 0)) (.cons (.bin .add .i64 (.v 5) (.neg .i64 (.v 10))) (.cons (.bin .add .i64 (.v 6) (.lit .i64 0)) (.cons (.bin .add .i64 (.v 7) (.lit .i64 0)) (.cons (.bin .add .i64 (.v 8) (.neg .i64 (.v 10))) (.cons (.bin .add .i64 (.v 9) (.lit .i64 0)) .nil))))))))))) (.lit .i64 0))
 (.leaf (.clo (.bool false)))
 (.leaf (.clo (.bool false))))
 (.br (.eq (.fn 2 (.cons (.bin .add .i64 (.v 4) (.lit .i64 0)) (.cons (.bin .add .i64 (.v 5) (.neg .i64 (.bin .add .i64 (.v 10) (.lit .i64 1)))) (.cons (.bin .add .i64 (.v 6) (.lit .i64 0)) (.cons (.bin .add .i64 (.v 7) (.lit .i64 0)) (.cons (.bin .add .i64 (.v 8) (.neg .i64 (.bin .add .i64 (.v 10) (.lit .i64 1)))) (.cons (.bin .add .i64 (.v 9) (.lit .i64 0)) .nil))))))) (.lit .i64 0))
 (.br (.lt (.lit .i64 0) (.fn 4 (.cons (.v 0) (.cons (.v 1) (.cons (.v 2) (.cons (.v 3) (.cons (.bin .add .i64 (.v 4) (.lit .i64 0)) (.cons (.bin .add .i64 (.v 5) (.neg .i64 (.bin .add .i64 (.v 10) (.lit .i64 1)))) (.cons (.bin .add .i64 (.v 6) (.lit .i64 0)) (.cons (.bin .add .i64 (.v 7) (.lit .i64 0)) (.cons (.bin .add .i64 (.v 8) (.neg .i64 (.bin .add .i64 (.v 10) (.lit .i64 1)))) (.cons (.bin .add .i64 (.v 9) (.lit .i64 0)) .nil))))))))))))
 (.br (.lt (.fn 3 (.cons (.v 0) (.cons (.v 1) (.cons (.v 2) (.cons (.v 3) (.cons (.bin .add .i64 (.v 4) (.lit .i64 0)) (.cons (.bin .add .i64 (.v 5) (.neg .i64 (.bin .add .i64 (.v 10) (.lit .i64 1)))) (.cons (.bin .add .i64 (.v 6) (.lit .i64 0)) (.cons (.bin .add .i64 (.v 7) (.lit .i64 0)) (.cons (.bin .add .i64 (.v 8) (.neg .i64 (.bin .add .i64 (.v 10) (.lit .i64 1)))) (.cons (.bin .add .i64 (.v 9) (.lit .i64 0)) .nil))))))))))) (.lit .i64 0))
 (.leaf (.clo (.bool true)))
 (.leaf (.clo (.bool true))))
 (.leaf (.clo (.bool true))))
 (.leaf (.clo (.bool true)))))
 (.br (.eq (.fn 2 (.cons (.bin .add .i64 (.v 4) (.lit .i64 0)) (.cons (.bin .add .i64 (.v 5) (.neg .i64 (.bin .add .i64 (.v 10) (.lit .i64 1)))) (.cons (.bin .add .i64 (.v 6) (.lit .i64 0)) (.cons (.bin .add .i64 (.v 7) (.lit .i64 0)) (.cons (.bin .add .i64 (.v 8) (.neg .i64 (.bin .add .i64 (.v 10) (.lit .i64 1)))) (.cons (.bin .add .i64 (.v 9) (.lit .i64 0)) .nil))))))) (.lit .i64 0))
 (.br (.lt (.lit .i64 0) (.fn 4 (.cons (.v 0) (.cons (.v 1) (.cons (.v 2) (.cons (.v 3) (.cons (.bin .add .i64 (.v 4) (.lit .i64 0)) (.cons (.bin .add .i64 (.v 5) (.neg .i64 (.bin .add .i64 (.v 10) (.lit .i64 1)))) (.cons (.bin .add .i64 (.v 6) (.lit .i64 0)) (.cons (.bin .add .i64 (.v 7) (.lit .i64 0)) (.cons (.bin .add .i64 (.v 8) (.neg .i64 (.bin .add .i64 (.v 10) (.lit .i64 1)))) (.cons (.bin .add .i64 (.v 9) (.lit .i64 0)) .nil))))))))))))
 (.br (.lt (.fn 3 (.cons (.v 0) (.cons (.v 1) (.cons (.v 2) (.cons (.v 3) (.cons (.bin .add .i64 (.v 4) (.lit .i64 0)) (.cons (.bin .add .i64 (.v 5) (.neg .i64 (.bin .add .i64 (.v 10) (.lit .i64 1)))) (.cons (.bin .add .i64 (.v 6) (.lit .i64 0)) (.cons (.bin .add .i64 (.v 7) (.lit .i64 0)) (.cons (.bin .add .i64 (.v 8) (.neg .i64 (.bin .add .i64 (.v 10) (.lit .i64 1)))) (.cons (.bin .add .i64 (.v 9) (.lit .i64 0)) .nil))))))))))) (.lit .i64 0))
 (.leaf (.clo (.bool true)))
 (.leaf (.clo (.bool true))))
 (.leaf (.clo (.bool true))))
 (.leaf (.clo (.bool true)))))))))
 (.leaf (.clo (.bool true))))
 (.leaf (.clo (.bool true))))

def TPlaneMoves4 : Tr :=
(.br (.eq (.fn 0 (.cons (.v 0) (.cons (.v 1) (.cons (.v 2) (.cons (.v 3) .nil))))) (.lit .i64 0))
 (.br (.eq (.fn 2 (.cons (.v 4) (.cons (.v 5) (.cons (.v 6) (.cons (.v 7) (.cons (.v 8) (.cons (.v 9) .nil))))))) (.lit .i64 0))
 (.br (.lt (.v 10) (.lit .i64 0))
 (.leaf (.clo (.bool true)))
 (.br (.lt (.lit .i64 1000000) (.v 10))
 (.leaf (.clo (.bool true)))
 (.br (.lt (.lit .i64 0) (.fn 4 (.cons (.v 0) (.cons (.v 1) (.cons (.v 2) (.cons (.v 3) (.cons (.v 4) (.cons (.v 5) (.cons (.v 6) (.cons (.v 7) (.cons (.v 8) (.cons (.v 9) .nil))))))))))))
 (.leaf (.clo (.bool true)))
 (.br (.lt (.lit .i64 0) (.v 2))
 (.br (.lt (.bin .mn .i64 (.v 10) (.bin .quo .i64 (.neg .i64 (.fn 4 (.cons (.v 0) (.cons (.v 1) (.cons (.v 2) (.cons (.v 3) (.cons (.v 4) (.cons (.v 5) (.cons (.v 6) (.cons (.v 7) (.cons (.v 8) (.cons (.v 9) .nil)))))))))))) (.v 2))) (.lit .i64 0))
 (.leaf (.clo (.bool false)))
 (.br (.lt (.v 10) (.bin .mn .i64 (.v 10) (.bin .quo .i64 (.neg .i64 (.fn 4 (.cons (.v 0) (.cons (.v 1) (.cons (.v 2) (.cons (.v 3) (.cons (.v 4) (.cons (.v 5) (.cons (.v 6) (.cons (.v 7) (.cons (.v 8) (.cons (.v 9) .nil)))))))))))) (.v 2))))
 (.leaf (.clo (.bool false)))
 (.br (.eq (.fn 2 (.cons (.bin .add .i64 (.v 4) (.lit .i64 0)) (.cons (.bin .add .i64 (.v 5) (.lit .i64 0)) (.cons (.bin .add .i64 (.v 6) (.bin .mn .i64 (.v 10) (.bin .quo .i64 (.neg .i64 (.fn 4 (.cons (.v 0) (.cons (.v 1) (.cons (.v 2) (.cons (.v 3) (.cons (.v 4) (.cons (.v 5) (.cons (.v 6) (.cons (.v 7) (.cons (.v 8) (.cons (.v 9) .nil)))))))))))) (.v 2)))) (.cons (.bin .add .i64 (.v 7) (.lit .i64 0)) (.cons (.bin .add .i64 (.v 8) (.lit .i64 0)) (.cons (.bin .add .i64 (.v 9) (.bin .mn .i64 (.v 10) (.bin .quo .i64 (.neg .i64 (.fn 4 (.cons (.v 0) (.cons (.v 1) (.cons (.v 2) (.cons (.v 3) (.cons (.v 4) (.cons (.v 5) (.cons (.v 6) (.cons (.v 7) (.cons (.v 8) (.cons (.v 9) .nil)))))))))))) (.v 2)))) .nil))))))) (.lit .i64 0))
 (.br (.lt (.lit .i64 0) (.fn 4 (.cons (.v 0) (.cons (.v 1) (.cons (.v 2) (.cons (.v 3) (.cons (.bin .add .i64 (.v 4) (.lit .i64 0)) (.cons (.bin .add .i64 (.v 5) (.lit .i64 0)) (.cons (.bin .add .i64 (.v 6) (.bin .mn .i64 (.v 10) (.bin .quo .i64 (.neg .i64 (.fn 4 (.cons (.v 0) (.cons (.v 1) (.cons (.v 2) (.cons (.v 3) (.cons (.v 4) (.cons (.v 5) (.cons (.v 6) (.cons (.v 7) (.cons (.v 8) (.cons (.v 9) .nil)))))))))))) (.v 2)))) (.cons (.bin .add .i64 (.v 7) (.lit .i64 0)) (.cons (.bin .add .i64 (.v 8) (.lit .i64 0)) (.cons (.bin .add .i64 (.v 9) (.bin .mn .i64 (.v 10) (.bin .quo .i64 (.neg .i64 (.fn 4 (.cons (.v 0) (.cons (.v 1) (.cons (.v 2) (.cons (.v 3) (.cons (.v 4) (.cons (.v 5) (.cons (.v 6) (.cons (.v 7) (.cons (.v 8) (.cons (.v 9) .nil)))))))))))) (.v 2)))) .nil))))))))))))
 (.br (.lt (.fn 3 (.cons (.v 0) (.cons (.v 1) (.cons (.v 2) (.cons (.v 3) (.cons (.bin .add .i64 (.v 4) (.lit .i64 0)) (.cons (.bin .add .i64 (.v 5) (.lit .i64 0)) (.cons (.bin .add .i64 (.v 6) (.bin .mn .i64 (.v 10) (.bin .quo .i64 (.neg .i64 (.fn 4 (.cons (.v 0) (.cons (.v 1) (.cons (.v 2) (.cons (.v 3) (.cons (.v 4) (.cons (.v 5) (.cons (.v 6) (.cons (.v 7) (.cons (.v 8) (.cons (.v 9) .nil)))))))))))) (.v 2)))) (.cons (.bin .add .i64 (.v 7) (.lit .i64 0)) (.cons (.bin .add .i64 (.v 8) (.lit .i64 0)) (.cons (.bin .add .i64 (.v 9) (.bin .mn .i64 (.v 10) (.bin .quo .i64 (.neg .i64 (.fn 4 (.cons (.v 0) (.cons (.v 1) (.cons (.v 2) (.cons (.v 3) (.cons (.v 4) (.cons (.v 5) (.cons (.v 6) (.cons (.v 7) (.cons (.v 8) (.cons (.v 9) .nil)))))))))))) (.v 2)))) .nil))))))))))) (.lit .i64 0))
 (.leaf (.clo (.bool false)))
 (.leaf (.clo (.bool false))))
 (.br (.eq (.fn 2 (.cons (.bin .add .i64 (.v 4) (.lit .i64 0)) (.cons (.bin .add .i64 (.v 5) (.lit .i64 0)) (.cons (.bin .add .i64 (.v 6) (.bin .add .i64 (.bin .mn .i64 (.v 10) (.bin .quo .i64 (.neg .i64 (.fn 4 (.cons (.v 0) (.cons (.v 1) (.cons (.v 2) (.cons (.v 3) (.cons (.v 4) (.cons (.v 5) (.cons (.v 6) (.cons (.v 7) (.cons (.v 8) (.cons (.v 9) .nil)))))))))))) (.v 2))) (.lit .i64 1))) (.cons (.bin .add .i64 (.v 7) (.lit .i64 0)) (.cons (.bin .add .i64 (.v 8) (.lit .i64 0)) (.cons (.bin .add .i64 (.v 9) (.bin .add .i64 (.bin .mn .i64 (.v 10) (.bin .quo .i64 (.neg .i64 (.fn 4 (.cons (.v 0) (.cons (.v 1) (.cons (.v 2) (.cons (.v 3) (.cons (.v 4) (.cons (.v 5) (.cons (.v 6) (.cons (.v 7) (.cons (.v 8) (.cons (.v 9) .nil)))))))))))) (.v 2))) (.lit .i64 1))) .nil))))))) (.lit .i64 0))
 (.br (.lt (.lit .i64 0) (.fn 4 (.cons (.v 0) (.cons (.v 1) (.cons (.v 2) (.cons (.v 3) (.cons (.bin .add .i64 (.v 4) (.lit .i64 0)) (.cons (.bin .add .i64 (.v 5) (.lit .i64 0)) (.cons (.bin .add .i64 (.v 6) (.bin .add .i64 (.bin .mn .i64 (.v 10) (.bin .quo .i64 (.neg .i64 (.fn 4 (.cons (.v 0) (.cons (.v 1) (.cons (.v 2) (.cons (.v 3) (.cons (.v 4) (.cons (.v 5) (.cons (.v 6) (.cons (.v 7) (.cons (.v 8) (.cons (.v 9) .nil)))))))))))) (.v 2))) (.lit .i64 1))) (.cons (.bin .add .i64 (.v 7) (.lit .i64 0)) (.cons (.bin .add .i64 (.v 8) (.lit .i64 0)) (.cons (.bin .add .i64 (.v 9) (.bin .add .i64 (.bin .mn .i64 (.v 10) (.bin .quo .i64 (.neg .i64 (.fn 4 (.cons (.v 0) (.cons (.v 1) (.cons (.v 2) (.cons (.v 3) (.cons (.v 4) (.cons (.v 5) (.cons (.v 6) (.cons (.v 7) (.cons (.v 8) (.cons (.v 9) .nil)))))))))))) (.v 2))) (.lit .i64 1))) .nil))))))))))))
 (.br (.lt (.fn 3 (.cons (.v 0) (.cons (.v 1) (.cons (.v 2) (.cons (.v 3) (.cons (.bin .add .i64 (.v 4) (.lit .i64 0)) (.cons (.bin .add .i64 (.v 5) (.lit .i64 0)) (.cons (.bin .add .i64 (.v 6) (.bin .add .i64 (.bin .mn .i64 (.v 10) (.bin .quo .i64 (.neg .i64 (.fn 4 (.cons (.v 0) (.cons (.v 1) (.cons (.v 2) (.cons (.v 3) (.cons (.v 4) (.cons (.v 5) (.cons (.v 6) (.cons (.v 7) (.cons (.v 8) (.cons (.v 9) .nil)))))))))))) (.v 2))) (.lit .i64 1))) (.cons (.bin .add .i64 (.v 7) (.lit .i64 0)) (.cons (.bin .add .i64 (.v 8) (.lit .i64 0)) (.cons (.bin .add .i64 (.v 9) (.bin .add .i64 (.bin .mn .i64 (.v 10) (.bin .quo .i64 (.neg .i64 (.fn 4 (.cons (.v 0) (.cons (.v 1) (.cons (.v 2) (.cons (.v 3) (.cons (.v 4) (.cons (.v 5) (.cons (.v 6) (.cons (.v 7) (.cons (.v 8) (.cons (.v 9) .nil)))))))))))) (.v 2))) (.lit .i64 1))) .nil))))))))))) (.lit .i64 0))
 (.br (.eq (.bin .mn .i64 (.v 10) (.bin .quo .i64 (.neg .i64 (.fn 4 (.cons (.v 0) (.cons (.v 1) (.cons (.v 2) (.cons (.v 3) (.cons (.v 4) (.cons (.v 5) (.cons (.v 6) (.cons (.v 7) (.cons (.v 8) (.cons (.v 9) .nil)))))))))))) (.v 2))) (.v 10))
 (.leaf (.clo (.bool true)))
 (.leaf (.clo (.bool true))))
 (.br (.eq (.bin .mn .i64 (.v 10) (.bin .quo .i64 (.neg .i64 (.fn 4 (.cons (.v 0) (.cons (.v 1) (.cons (.v 2) (.cons (.v 3) (.cons (.v 4) (.cons (.v 5) (.cons (.v 6) (.cons (.v 7) (.cons (.v 8) (.cons (.v 9) .nil)))))))))))) (.v 2))) (.v 10))
 (.leaf (.clo (.bool true)))
 (.leaf (.clo (.bool true)))))
 (.br (.eq (.bin .mn .i64 (.v 10) (.bin .quo .i64 (.neg .i64 (.fn 4 (.cons (.v 0) (.cons (.v 1) (.cons (.v 2) (.cons (.v 3) (.cons (.v 4) (.cons (.v 5) (.cons (.v 6) (.cons (.v 7) (.cons (.v 8) (.cons (.v 9) .nil)))))))))))) (.v 2))) (.v 10))
 (.leaf (.clo (.bool true)))
 (.leaf (.clo (.bool false)))))
 (.br (.eq (.bin .mn .i64 (.v 10) (.bin .quo .i64 (.neg .i64 (.fn 4 (.cons (.v 0) (.cons (.v 1) (.cons (.v 2) (.cons (.v 3) (.cons (.v 4) (.cons (.v 5) (.cons (.v 6) (.cons (.v 7) (.cons (.v 8) (.cons (.v 9) .nil)))))))))))) (.v 2))) (.v 10))
 (.leaf (.clo (.bool true)))
 (.leaf (.clo (.bool true))))))
 (.br (.eq (.fn 2 (.cons (.bin .add .i64 (.v 4) (.lit .i64 0)) (.cons (.bin .add .i64 (.v 5) (.lit .i64 0)) (.cons (.bin .add .i64 (.v 6) (.bin .add .i64 (.bin .mn .i64 (.v 10) (.bin .quo .i64 (.neg .i64 (.fn 4 (.cons (.v 0) (.cons (.v 1) (.cons (.v 2) (.cons (.v 3) (.cons (.v 4) (.cons (.v 5) (.cons (.v 6) (.cons (.v 7) (.cons (.v 8) (.cons (.v 9) .nil)))))))))))) (.v 2))) (.lit .i64 1))) (.cons (.bin .add .i64 (.v 7) (.lit .i64 0)) (.cons (.bin .add .i64 (.v 8) (.lit .i64 0)) (.cons (.bin .add .i64 (.v 9) (.bin .add .i64 (.bin .mn .i64 (.v 10) (.bin .quo .i64 (.neg .i64 (.fn 4 (.cons (.v 0) (.cons (.v 1) (.cons (.v 2) (.cons (.v 3) (.cons (.v 4) (.cons (.v 5) (.cons (.v 6) (.cons (.v 7) (.cons (.v 8) (.cons (.v 9) .nil)))))))))))) (.v 2))) (.lit .i64 1))) .nil))))))) (.lit .i64 0))
 (.br (.lt (.lit .i64 0) (.fn 4 (.cons (.v 0) (.cons (.v 1) (.cons (.v 2) (.cons (.v 3) (.cons (.bin .add .i64 (.v 4) (.lit .i64 0)) (.cons (.bin .add .i64 (.v 5) (.lit .i64 0)) (.cons (.bin .add .i64 (.v 6) (.bin .add .i64 (.bin .mn .i64 (.v 10) (.bin .quo .i64 (.neg .i64 (.fn 4 (.cons (.v 0) (.cons (.v 1) (.cons (.v 2) (.cons (.v 3) (.cons (.v 4) (.cons (.v 5) (.cons (.v 6) (.cons (.v 7) (.cons (.v 8) (.cons (.v 9) .nil)))))))))))) (.v 2))) (.lit .i64 1))) (.cons (.bin .add .i64 (.v 7) (.lit .i64 0)) (.cons (.bin .add .i64 (.v 8) (.lit .i64 0)) (.cons (.bin .add .i64 (.v 9) (.bin .add .i64 (.bin .mn .i64 (.v 10) (.bin .quo .i64 (.neg .i64 (.fn 4 (.cons (.v 0) (.cons (.v 1) (.cons (.v 2) (.cons (.v 3) (.cons (.v 4) (.cons (.v 5) (.cons (.v 6) (.cons (.v 7) (.cons (.v 8) (.cons (.v 9) .nil)))))))))))) (.v 2))) (.lit .i64 1))) .nil))))))))))))
 (.br (.lt (.fn 3 (.cons (.v 0) (.cons (.v 1) (.cons (.v 2) (.cons (.v 3) (.cons (.bin .add .i64 (.v 4) (.lit .i64 0)) (.cons (.bin .add .i64 (.v 5) (.lit .i64 0)) (.cons (.bin .add .i64 (.v 6) (.bin .add .i64 (.bin .mn .i64 (.v 10) (.bin .quo .i64 (.neg .i64 (.fn 4 (.cons (.v 0) (.cons (.v 1) (.cons (.v 2) (.cons (.v 3) (.cons (.v 4) (.cons (.v 5) (.cons (.v 6) (.cons (.v 7) (.cons (.v 8) (.cons (.v 9) .nil)))))))))))) (.v 2))) (.lit .i64 1))) (.cons (.bin .add .i64 (.v 7) (.lit .i64 0)) (.cons (.bin .add .i64 (.v 8) (.lit .i64 0)) (.cons (.bin .add .i64 (.v 9) (.bin .add .i64 (.bin .mn .i64 (.v 10) (.bin .quo .i64 (.neg .i64 (.fn 4 (.cons (.v 0) (.cons (.v 1) (.cons (.v 2) (.cons (.v 3) (.cons (.v 4) (.cons (.v 5) (.cons (.v 6) (.cons (.v 7) (.cons (.v 8) (.cons (.v 9) .nil)))))))))))) (.v 2))) (.lit .i64 1))) .nil))))))))))) (.lit .i64 0))
 (.br (.eq (.bin .mn .i64 (.v 10) (.bin .quo .i64 (.neg .i64 (.fn 4 (.cons (.v 0) (.cons (.v 1) (.cons (.v 2) (.cons (.v 3) (.cons (.v 4) (.cons (.v 5) (.cons (.v 6) (.cons (.v 7) (.cons (.v 8) (.cons (.v 9) .nil)))))))))))) (.v 2))) (.v 10))
 (.leaf (.clo (.bool true)))
 (.leaf (.clo (.bool true))))
 (.br (.eq (.bin .mn .i64 (.v 10) (.bin .quo .i64 (.neg .i64 (.fn 4 (.cons (.v 0) (.cons (.v 1) (.cons (.v 2) (.cons (.v 3) (.cons (.v 4) (.cons (.v 5) (.cons (.v 6) (.cons (.v 7) (.cons (.v 8) (.cons (.v 9) .nil)))))))))))) (.v 2))) (.v 10))
 (.leaf (.clo (.bool true)))
 (.leaf (.clo (.bool true)))))
 (.br (.eq (.bin .mn .i64 (.v 10) (.bin .quo .i64 (.neg .i64 (.fn 4 (.cons (.v 0) (.cons (.v 1) (.cons (.v 2) (.cons (.v 3) (.cons (.v 4) (.cons (.v 5) (.cons (.v 6) (.cons (.v 7) (.cons (.v 8) (.cons (.v 9) .nil)))))))))))) (.v 2))) (.v 10))
 (.leaf (.clo (.bool true)))
 (.leaf (.clo (.bool false)))))
 (.br (.eq (.bin .mn .i64 (.v 10) (.bin .quo .i64 (.neg .i64 (.fn 4 (.cons (.v 0) (.cons (.v 1) (.cons (.v 2) (.cons (.v 3) (.cons (.v 4) (.cons (.v 5) (.cons (.v 6) (.cons (.v 7) (.cons (.v 8) (.cons (.v 9) .nil)))))))))))) (.v 2))) (.v 10))
 (.leaf (.clo (.bool true)))
 (.leaf (.clo (.bool true))))))))
 (.br (.eq (.fn 2 (.cons (.bin .add .i64 (.v 4) (.lit .i64 0)) (.cons (.bin .add .i64 (.v 5) (.lit .i64 0)) (.cons (.bin .add .i64 (.v 6) (.v 10)) (.cons (.bin .add .i64 (.v 7) (.lit .i64 0)) (.cons (.bin .add .i64 (.v 8) (.lit .i64 0)) (.cons (.bin .add .i64 (.v 9) (.v 10)) .nil))))))) (.lit .i64 0))
 (.br (.lt (.lit .i64 0) (.fn 4 (.cons (.v 0) (.cons (.v 1) (.cons (.v 2) (.cons (.v 3) (.cons (.bin .add .i64 (.v 4) (.lit .i64 0)) (.cons (.bin .add .i64 (.v 5) (.lit .i64 0)) (.cons (.bin .add .i64 (.v 6) (.v 10)) (.cons (.bin .add .i64 (.v 7) (.lit .i64 0)) (.cons (.bin .add .i64 (.v 8) (.lit .i64 0)) (.cons (.bin .add .i64 (.v 9) (.v 10)) .nil))))))))))))
 (.br (.lt (.fn 3 (.cons (.v 0) (.cons (.v 1) (.cons (.v 2) (.cons (.v 3) (.cons (.bin .add .i64 (.v 4) (.lit .i64 0)) (.cons (.bin .add .i64 (.v 5) (.lit .i64 0)) (.cons (.bin .add .i64 (.v 6) (.v 10)) (.cons (.bin .add .i64 (.v 7) (.lit .i64 0)) (.cons (.bin .add .i64 (.v 8) (.lit .i64 0)) (.cons (.bin .add .i64 (.v 9) (.v 10)) .nil))))))))))) (.lit .i64 0))
 (.leaf (.clo (.bool false)))
 (.leaf (.clo (.bool false))))
 (.br (.eq (.fn 2 (.cons (.bin .add .i64 (.v 4) (.lit .i64 0)) (.cons (.bin .add .i64 (.v 5) (.lit .i64 0)) (.cons (.bin .add .i64 (.v 6) (.bin .add .i64 (.v 10) (.lit .i64 1))) (.cons (.bin .add .i64 (.v 7) (.lit .i64 0)) (.cons (.bin .add .i64 (.v 8) (.lit .i64 0)) (.cons (.bin .add .i64 (.v 9) (.bin .add .i64 (.v 10) (.lit .i64 1))) .nil))))))) (.lit .i64 0))
 (.br (.lt (.lit .i64 0) (.fn 4 (.cons (.v 0) (.cons (.v 1) (.cons (.v 2) (.cons (.v 3) (.cons (.bin .add .i64 (.v 4) (.lit .i64 0)) (.cons (.bin .add .i64 (.v 5) (.lit .i64 0)) (.cons (.bin .add .i64 (.v 6) (.bin .add .i64 (.v 10) (.lit .i64 1))) (.cons (.bin .add .i64 (.v 7) (.lit .i64 0)) (.cons (.bin .add .i64 (.v 8) (.lit .i64 0)) (.cons (.bin .add .i64 (.v 9) (.bin .add .i64 (.v 10) (.lit .i64 1))) .nil))))))))))))
 (.br (.lt (.fn 3 (.cons (.v 0) (.cons (.v 1) (.cons (.v 2) (.cons (.v 3) (.cons (.bin .add .i64 (.v 4) (.lit .i64 0)) (.cons (.bin .add .i64 (.v 5) (.lit .i64 0)) (.cons (.bin .add .i64 (.v 6) (.bin .add .i64 (.v 10) (.lit .i64 1))) (.cons (.bin .add .i64 (.v 7) (.lit .i64 0)) (.cons (.bin .add .i64 (.v 8) (.lit .i64 0)) (.cons (.bin .add .i64 (.v 9) (.bin .add .i64 (.v 10) (.lit .i64 1))) .nil))))))))))) (.lit .i64 0))
 (.leaf (.clo (.bool true)))
 (.leaf (.clo (.bool true))))
 (.leaf (.clo (.bool true))))
 (.leaf (.clo (.bool true)))))
 (.br (.eq (.fn 2 (.cons (.bin .add .i64 (.v 4) (.lit .i64 0)) (.cons (.bin .add .i64 (.v 5) (.lit .i64 0)) (.cons (.bin .add .i64 (.v 6) (.bin .add .i64 (.v 10) (.lit .i64 1))) (.cons (.bin .add .i64 (.v 7) (.lit .i64 0)) (.cons (.bin .add .i64 (.v 8) (.lit .i64 0)) (.cons (.bin .add .i64 (.v 9) (.bin .add .i64 (.v 10) (.lit .i64 1))) .nil))))))) (.lit .i64 0))
 (.br (.lt (.lit .i64 0) (.fn 4 (.cons (.v 0) (.cons (.v 1) (.cons (.v 2) (.cons (.v 3) (.cons (.bin .add .i64 (.v 4) (.lit .i64 0)) (.cons (.bin .add .i64 (.v 5) (.lit .i64 0)) (.cons (.bin .add .i64 (.v 6) (.bin .add .i64 (.v 10) (.lit .i64 1))) (.cons (.bin .add .i64 (.v 7) (.lit .i64 0)) (.cons (.bin .add .i64 (.v 8) (.lit .i64 0)) (.cons (.bin .add .i64 (.v 9) (.bin .add .i64 (.v 10) (.lit .i64 1))) .nil))))))))))))
 (.br (.lt (.fn 3 (.cons (.v 0) (.cons (.v 1) (.cons (.v 2) (.cons (.v 3) (.cons (.bin .add .i64 (.v 4) (.lit .i64 0)) (.cons (.bin .add .i64 (.v 5) (.lit .i64 0)) (.cons (.bin .add .i64 (.v 6) (.bin .add .i64 (.v 10) (.lit .i64 1))) (.cons (.bin .add .i64 (.v 7) (.lit .i64 0)) (.cons (.bin .add .i64 (.v 8) (.lit .i64 0)) (.cons (.bin .add .i64 (.v 9) (.bin .add .i64 (.v 10) (.lit .i64 1))) .nil))))))))))) (.lit .i64 0))
 (.leaf (.clo (.bool true)))
 (.leaf (.clo (.bool true))))
 (.leaf (.clo (.bool true))))
 (.leaf (.clo (.bool true)))))))))
 (.leaf (.clo (.bool true))))
 (.leaf (.clo (.bool true))))

def TPlaneMoves5 : Tr :=
(.br (.eq (.fn 0 (.cons (.v 0) (.cons (.v 1) (.cons (.v 2) (.cons (.v 3) .nil))))) (.lit .i64 0))
 (.br (.eq (.fn 2 (.cons (.v 4) (.cons (.v 5) (.cons (.v 6) (.cons (.v 7) (.cons (.v 8) (.cons (.v 9) .nil))))))) (.lit .i64 0))
 (.br (.lt (.v 10) (.lit .i64 0))
 (.leaf (.clo (.bool true)))
 (.br (.lt (.lit .i64 1000000) (.v 10))
 (.leaf (.clo (.bool true)))
 (.br (.lt (.lit .i64 0) (.fn 4 (.cons (.v 0) (.cons (.v 1) (.cons (.v 2) (.cons (.v 3) (.cons (.v 4) (.cons (.v 5) (.cons (.v 6) (.cons (.v 7) (.cons (.v 8) (.cons (.v 9) .nil))))))))))))
 (.leaf (.clo (.bool true)))
 (.br (.lt (.lit .i64 0) (.neg .i64 (.v 2)))
 (.br (.lt (.bin .mn .i64 (.v 10) (.bin .quo .i64 (.neg .i64 (.fn 4 (.cons (.v 0) (.cons (.v 1) (.cons (.v 2) (.cons (.v 3) (.cons (.v 4) (.cons (.v 5) (.cons (.v 6) (.cons (.v 7) (.cons (.v 8) (.cons (.v 9) .nil)))))))))))) (.neg .i64 (.v 2)))) (.lit .i64 0))
 (.leaf (.clo (.bool false)))
 (.br (.lt (.v 10) (.bin .mn .i64 (.v 10) (.bin .quo .i64 (.neg .i64 (.fn 4 (.cons (.v 0) (.cons (.v 1) (.cons (.v 2) (.cons (.v 3) (.cons (.v 4) (.cons (.v 5) (.cons (.v 6) (.cons (.v 7) (.cons (.v 8) (.cons (.v 9) .nil)))))))))))) (.neg .i64 (.v 2)))))
 (.leaf (.clo (.bool false)))
 (.br (.eq (.fn 2 (.cons (.bin .add .i64 (.v 4) (.lit .i64 0)) (.cons (.bin .add .i64 (.v 5) (.lit .i64 0)) (.cons (.bin .add .i64 (.v 6) (.neg .i64 (.bin .mn .i64 (.v 10) (.bin .quo .i64 (.neg .i64 (.fn 4 (.cons (.v 0) (.cons (.v 1) (.cons (.v 2) (.cons (.v 3) (.cons (.v 4) (.cons (.v 5) (.cons (.v 6) (.cons (.v 7) (.cons (.v 8) (.cons (.v 9) .nil)))))))))))) (.neg .i64 (.v 2)))))) (.cons (.bin .add .i64 (.v 7) (.lit .i64 0)) (.cons (.bin .add .i64 (.v 8) (.lit .i64 0)) (.cons (.bin .add .i64 (.v 9) (.neg .i64 (.bin .mn .i64 (.v 10) (.bin .quo .i64 (.neg .i64 (.fn 4 (.cons (.v 0) (.cons (.v 1) (.cons (.v 2) (.cons (.v 3) (.cons (.v 4) (.cons (.v 5) (.cons (.v 6) (.cons (.v 7) (.cons (.v 8) (.cons (.v 9) .nil)))))))))))) (.neg .i64 (.v 2)))))) .nil))))))) (.lit .i64 0))
 (.br (.lt (.lit .i64 0) (.fn 4 (.cons (.v 0) (.cons (.v 1) (.cons (.v 2) (.cons (.v 3) (.cons (.bin .add .i64 (.v 4) (.lit .i64 0)) (.cons (.bin .add .i64 (.v 5) (.lit .i64 0)) (.cons (.bin .add .i64 (.v 6) (.neg .i64 (.bin .mn .i64 (.v 10) (.bin .quo .i64 (.neg .i64 (.fn 4 (.cons (.v 0) (.cons (.v 1) (.cons (.v 2) (.cons (.v 3) (.cons (.v 4) (.cons (.v 5) (.cons (.v 6) (.cons (.v 7) (.cons (.v 8) (.cons (.v 9) .nil)))))))))))) (.neg .i64 (.v 2)))))) (.cons (.bin .add .i64 (.v 7) (.lit .i64 0)) (.cons (.bin .add .i64 (.v 8) (.lit .i64 0)) (.cons (.bin .add .i64 (.v 9) (.neg .i64 (.bin .mn .i64 (.v 10) (.bin .quo .i64 (.neg .i64 (.fn 4 (.cons (.v 0) (.cons (.v 1) (.cons (.v 2) (.cons (.v 3) (.cons (.v 4) (.cons (.v 5) (.cons (.v 6) (.cons (.v 7) (.cons (.v 8) (.cons (.v 9) .nil)))))))))))) (.neg .i64 (.v 2)))))) .nil))))))))))))
 (.br (.lt (.fn 3 (.cons (.v 0) (.cons (.v 1) (.cons (.v 2) (.cons (.v 3) (.cons (.bin .add .i64 (.v 4) (.lit .i64 0)) (.cons (.bin .add .i64 (.v 5) (.lit .i64 0)) (.cons (.bin .add .i64 (.v 6) (.neg .i64 (.bin .mn .i64 (.v 10) (.bin .quo .i64 (.neg .i64 (.fn 4 (.cons (.v 0) (.cons (.v 1) (.cons (.v 2) (.cons (.v 3) (.cons (.v 4) (.cons (.v 5) (.cons (.v 6) (.cons (.v 7) (.cons (.v 8) (.cons (.v 9) .nil)))))))))))) (.neg .i64 (.v 2)))))) (.cons (.bin .add .i64 (.v 7) (.lit .i64 0)) (.cons (.bin .add .i64 (.v 8) (.lit .i64 0)) (.cons (.bin .add .i64 (.v 9) (.neg .i64 (.bin .mn .i64 (.v 10) (.bin .quo .i64 (.neg .i64 (.fn 4 (.cons (.v 0) (.cons (.v 1) (.cons (.v 2) (.cons (.v 3) (.cons (.v 4) (.cons (.v 5) (.cons (.v 6) (.cons (.v 7) (.cons (.v 8) (.cons (.v 9) .nil)))))))))))) (.neg .i64 (.v 2)))))) .nil))))))))))) (.lit .i64 0))
 (.leaf (.clo (.bool false)))
 (.leaf (.clo (.bool false))))
 (.br (.eq (.fn 2 (.cons (.bin .add .i64 (.v 4) (.lit .i64 0)) (.cons (.bin .add .i64 (.v 5) (.lit .i64 0)) (.cons (.bin .add .i64 (.v 6) (.neg .i64 (.bin .add .i64 (.bin .mn .i64 (.v 10) (.bin .quo .i64 (.neg .i64 (.fn 4 (.cons (.v 0) (.cons (.v 1) (.cons (.v 2) (.cons (.v 3) (.cons (.v 4) (.cons (.v 5) (.cons (.v 6) (.cons (.v 7) (.cons (.v 8) (.cons (.v 9) .nil)))))))))))) (.neg .i64 (.v 2)))) (.lit .i64 1)))) (.cons (.bin .add .i64 (.v 7) (.lit .i64 0)) (.cons (.bin .add .i64 (.v 8) (.lit .i64 0)) (.cons (.bin .add .i64 (.v 9) (.neg .i64 (.bin .add .i64 (.bin .mn .i64 (.v 10) (.bin .quo .i64 (.neg .i64 (.fn 4 (.cons (.v 0) (.cons (.v 1) (.cons (.v 2) (.cons (.v 3) (.cons (.v 4) (.cons (.v 5) (.cons (.v 6) (.cons (.v 7) (.cons (.v 8) (.cons (.v 9) .nil)))))))))))) (.neg .i64 (.v 2)))) (.lit .i64 1)))) .nil))))))) (.lit .i64 0))
 (.br (.lt (.lit .i64 0) (.fn 4 (.cons (.v 0) (.cons (.v 1) (.cons (.v 2) (.cons (.v 3) (.cons (.bin .add .i64 (.v 4) (.lit .i64 0)) (.cons (.bin .add .i64 (.v 5) (.lit .i64 0)) (.cons (.bin .add .i64 (.v 6) (.neg .i64 (.bin .add .i64 (.bin .mn .i64 (.v 10) (.bin .quo .i64 (.neg .i64 (.fn 4 (.cons (.v 0) (.cons (.v 1) (.cons (.v 2) (.cons (.v 3) (.cons (.v 4) (.cons (.v 5) (.cons (.v 6) (.cons (.v 7) (.cons (.v 8) (.cons (.v 9) .nil)))))))))))) (.neg .i64 (.v 2)))) (.lit .i64 1)))) (.cons (.bin .add .i64 (.v 7) (.lit .i64 0)) (.cons (.bin .add .i64 (.v 8) (.lit .i64 0)) (.cons (.bin .add .i64 (.v 9) (.neg .i64 (.bin .add .i64 (.bin .mn .i64 (.v 10) (.bin .quo .i64 (.neg .i64 (.fn 4 (.cons (.v 0) (.cons (.v 1) (.cons (.v 2) (.cons (.v 3) (.cons (.v 4) (.cons (.v 5) (.cons (.v 6) (.cons (.v 7) (.cons (.v 8) (.cons (.v 9) .nil)))))))))))) (.neg .i64 (.v 2)))) (.lit .i64 1)))) .nil))))))))))))
 (.br (.lt (.fn 3 (.cons (.v 0) (.cons (.v 1) (.cons (.v 2) (.cons (.v 3) (.cons (.bin .add .i64 (.v 4) (.lit .i64 0)) (.cons (.bin .add .i64 (.v 5) (.lit .i64 0)) (.cons (.bin .add .i64 (.v 6) (.neg .i64 (.bin .add .i64 (.bin .mn .i64 (.v 10) (.bin .quo .i64 (.neg .i64 (.fn 4 (.cons (.v 0) (.cons (.v 1) (.cons (.v 2) (.cons (.v 3) (.cons (.v 4) (.cons (.v 5) (.cons (.v 6) (.cons (.v 7) (.cons (.v 8) (.cons (.v 9) .nil)))))))))))) (.neg .i64 (.v 2)))) (.lit .i64 1)))) (.cons (.bin .add .i64 (.v 7) (.lit .i64 0)) (.cons (.bin .add .i64 (.v 8) (.lit .i64 0)) (.cons (.bin .add .i64 (.v 9) (.neg .i64 (.bin .add .i64 (.bin .mn .i64 (.v 10) (.bin .quo .i64 (.neg .i64 (.fn 4 (.cons (.v 0) (.cons (.v 1) (.cons (.v 2) (.cons (.v 3) (.cons (.v 4) (.cons (.v 5) (.cons (.v 6) (.cons (.v 7) (.cons (.v 8) (.cons (.v 9) .nil)))))))))))) (.neg .i64 (.v 2)))) (.lit .i64 1)))) .nil))))))))))) (.lit .i64 0))
 (.br (.eq (.bin .mn .i64 (.v 10) (.bin .quo .i64 (.neg .i64 (.fn 4 (.cons (.v 0) (.cons (.v 1) (.cons (.v 2) (.cons (.v 3) (.cons (.v 4) (.cons (.v 5) (.cons (.v 6) (.cons (.v 7) (.cons (.v 8) (.cons (.v 9) .nil)))))))))))) (.neg .i64 (.v 2)))) (.v 10))
 (.leaf (.clo (.bool true)))
 (.leaf (.clo (.bool true))))
 (.br (.eq (.bin .mn .i64 (.v 10) (.bin .quo .i64 (.neg .i64 (.fn 4 (.cons (.v 0) (.cons (.v 1) (.cons (.v 2) (.cons (.v 3) (.cons (.v 4) (.cons (.v 5) (.cons (.v 6) (.cons (.v 7) (.cons (.v 8) (.cons (.v 9) .nil)))))))))))) (.neg .i64 (.v 2)))) (.v 10))
 (.leaf (.clo (.bool true)))
 (.leaf (.clo (.bool true)))))
 (.br (.eq (.bin .mn .i64 (.v 10) (.bin .quo .i64 (.neg .i64 (.fn 4 (.cons (.v 0) (.cons (.v 1) (.cons (.v 2) (.cons (.v 3) (.cons (.v 4) (.cons (.v 5) (.cons (.v 6) (.cons (.v 7) (.cons (.v 8) (.cons (.v 9) .nil)))))))))))) (.neg .i64 (.v 2)))) (.v 10))
 (.leaf (.clo (.bool true)))
 (.leaf (.clo (.bool false)))))
 (.br (.eq (.bin .mn .i64 (.v 10) (.bin .quo .i64 (.neg .i64 (.fn 4 (.cons (.v 0) (.cons (.v 1) (.cons (.v 2) (.cons (.v 3) (.cons (.v 4) (.cons (.v 5) (.cons (.v 6) (.cons (.v 7) (.cons (.v 8) (.cons (.v 9) .nil)))))))))))) (.neg .i64 (.v 2)))) (.v 10))
 (.leaf (.clo (.bool true)))
 (.leaf (.clo (.bool true))))))
 (.br (.eq (.fn 2 (.cons (.bin .add .i64 (.v 4) (.lit .i64 0)) (.cons (.bin .add .i64 (.v 5) (.lit .i64 0)) (.cons (.bin .add .i64 (.v 6) (.neg .i64 (.bin .add .i64 (.bin .mn .i64 (.v 10) (.bin .quo .i64 (.neg .i64 (.fn 4 (.cons (.v 0) (.cons (.v 1) (.cons (.v 2) (.cons (.v 3) (.cons (.v 4) (.cons (.v 5) (.cons (.v 6) (.cons (.v 7) (.cons (.v 8) (.cons (.v 9) .nil)))))))))))) (.neg .i64 (.v 2)))) (.lit .i64 1)))) (.cons (.bin .add .i64 (.v 7) (.lit .i64 0)) (.cons (.bin .add .i64 (.v 8) (.lit .i64 0)) (.cons (.bin .add .i64 (.v 9) (.neg .i64 (.bin .add .i64 (.bin .mn .i64 (.v 10) (.bin .quo .i64 (.neg .i64 (.fn 4 (.cons (.v 0) (.cons (.v 1) (.cons (.v 2) (.cons (.v 3) (.cons (.v 4) (.cons (.v 5) (.cons (.v 6) (.cons (.v 7) (.cons (.v 8) (.cons (.v 9) .nil)))))))))))) (.neg .i64 (.v 2)))) (.lit .i64 1)))) .nil))))))) (.lit .i64 0))
 (.br (.lt (.lit .i64 0) (.fn 4 (.cons (.v 0) (.cons (.v 1) (.cons (.v 2) (.cons (.v 3) (.cons (.bin .add .i64 (.v 4) (.lit .i64 0)) (.cons (.bin .add .i64 (.v 5) (.lit .i64 0)) (.cons (.bin .add .i64 (.v 6) (.neg .i64 (.bin .add .i64 (.bin .mn .i64 (.v 10) (.bin .quo .i64 (.neg .i64 (.fn 4 (.cons (.v 0) (.cons (.v 1) (.cons (.v 2) (.cons (.v 3) (.cons (.v 4) (.cons (.v 5) (.cons (.v 6) (.cons (.v 7) (.cons (.v 8) (.cons (.v 9) .nil)))))))))))) (.neg .i64 (.v 2)))) (.lit .i64 1)))) (.cons (.bin .add .i64 (.v 7) (.lit .i64 0)) (.cons (.bin .add .i64 (.v 8) (.lit .i64 0)) (.cons (.bin .add .i64 (.v 9) (.neg .i64 (.bin .add .i64 (.bin .mn .i64 (.v 10) (.bin .quo .i64 (.neg .i64 (.fn 4 (.cons (.v 0) (.cons (.v 1) (.cons (.v 2) (.cons (.v 3) (.cons (.v 4) (.cons (.v 5) (.cons (.v 6) (.cons (.v 7) (.cons (.v 8) (.cons (.v 9) .nil)))))))))))) (.neg .i64 (.v 2)))) (.lit .i64 1)))) .nil))))))))))))
 (.br (.lt (.fn 3 (.cons (.v 0) (.cons (.v 1) (.cons (.v 2) (.cons (.v 3) (.cons (.bin .add .i64 (.v 4) (.lit .i64 0)) (.cons (.bin .add .i64 (.v 5) (.lit .i64 0)) (.cons (.bin .add .i64 (.v 6) (.neg .i64 (.bin .add .i64 (.bin .mn .i64 (.v 10) (.bin .quo .i64 (.neg .i64 (.fn 4 (.cons (.v 0) (.cons (.v 1) (.cons (.v 2) (.cons (.v 3) (.cons (.v 4) (.cons (.v 5) (.cons (.v 6) (.cons (.v 7) (.cons (.v 8) (.cons (.v 9) .nil)))))))))))) (.neg .i64 (.v 2)))) (.lit .i64 1)))) (.cons (.bin .add .i64 (.v 7) (.lit .i64 0)) (.cons (.bin .add .i64 (.v 8) (.lit .i64 0)) (.cons (.bin .add .i64 (.v 9) (.neg .i64 (.bin .add .i64 (.bin .mn .i64 (.v 10) (.bin .quo .i64 (.neg .i64 (.fn 4 (.cons (.v 0) (.cons (.v 1) (.cons (.v 2) (.cons (.v 3) (.cons (.v 4) (.cons (.v 5) (.cons (.v 6) (.cons (.v 7) (.cons (.v 8) (.cons (.v 9) .nil)))))))))))) (.neg .i64 (.v 2)))) (.lit .i64 1)))) .nil))))))))))) (.lit .i64 0))
 (.br (.eq (.bin .mn .i64 (.v 10) (.bin .quo .i64 (.neg .i64 (.fn 4 (.cons (.v 0) (.cons (.v 1) (.cons (.v 2) (.cons (.v 3) (.cons (.v 4) (.cons (.v 5) (.cons (.v 6) (.cons (.v 7) (.cons (.v 8) (.cons (.v 9) .nil)))))))))))) (.neg .i64 (.v 2)))) (.v 10))
 (.leaf (.clo (.bool true)))
 (.leaf (.clo (.bool true))))
 (.br (.eq (.bin .mn .i64 (.v 10) (.bin .quo .i64 (.neg .i64 (.fn 4 (.cons (.v 0) (.cons (.v 1) (.cons (.v 2) (.cons (.v 3) (.cons (.v 4) (.cons (.v 5) (.cons (.v 6) (.cons (.v 7) (.cons (.v 8) (.cons (.v 9) .nil)))))))))))) (.neg .i64 (.v 2)))) (.v 10))
 (.leaf (.clo (.bool true)))
 (.leaf (.clo (.bool true)))))
 (.br (.eq (.bin .mn .i64 (.v 10) (.bin .quo .i64 (.neg .i64 (.fn 4 (.cons (.v 0) (.cons (.v 1) (.cons (.v 2) (.cons (.v 3) (.cons (.v 4) (.cons (.v 5) (.cons (.v 6) (.cons (.v 7) (.cons (.v 8) (.cons (.v 9) .nil)))))))))))) (.neg .i64 (.v 2)))) (.v 10))
 (.leaf (.clo (.bool true)))
 (.leaf (.clo (.bool false)))))
 (.br (.eq (.bin .mn .i64 (.v 10) (.bin .quo .i64 (.neg .i64 (.fn 4 (.cons (.v 0) (.cons (.v 1) (.cons (.v 2) (.cons (.v 3) (.cons (.v 4) (.cons (.v 5) (.cons (.v 6) (.cons (.v 7) (.cons (.v 8) (.cons (.v 9) .nil)))))))))))) (.neg .i64 (.v 2)))) (.v 10))
 (.leaf (.clo (.bool true)))
 (.leaf (.clo (.bool true))))))))
 (.br (.eq (.fn 2 (.cons (.bin .add .i64 (.v 4) (.lit .i64 0)) (.cons (.bin .add .i64 (.v 5) (.lit .i64 0)) (.cons (.bin .add .i64 (.v 6) (.neg .i64 (.v 10))) (.cons (.bin .add .i64 (.v 7) (.lit .i64 0)) (.cons (.bin .add .i64 (.v 8) (.lit .i64 0)) (.cons (.bin .add .i64 (.v 9) (.neg .i64 (.v 10))) .nil))))))) (.lit .i64 0))
 (.br (.lt (.lit .i64 0) (.fn 4 (.cons (.v 0) (.cons (.v 1) (.cons (.v 2) (.cons (.v 3) (.cons (.bin .add .i64 (.v 4) (.lit .i64 0)) (.cons (.bin .add .i64 (.v 5) (.lit .i64 0)) (.cons (.bin .add .i64 (.v 6) (.neg .i64 (.v 10))) (.cons (.bin .add .i64 (.v 7) (.lit .i64 0)) (.cons (.bin .add .i64 (.v 8) (.lit .i64 0)) (.cons (.bin .add .i64 (.v 9) (.neg .i64 (.v 10))) .nil))))))))))))
 (.br (.lt (.fn 3 (.cons (.v 0) (.cons (.v 1) (.cons (.v 2) (.cons (.v 3) (.cons (.bin .add .i64 (.v 4) (.lit .i64 0)) (.cons (.bin .add .i64 (.v 5) (.lit .i64 0)) (.cons (.bin .add .i64 (.v 6) (.neg .i64 (.v 10))) (.cons (.bin .add .i64 (.v 7) (.lit .i64 0)) (.cons (.bin .add .i64 (.v 8) (.lit .i64 0)) (.cons (.bin .add .i64 (.v 9) (.neg .i64 (.v 10))) .nil))))))))))) (.lit .i64 0))
 (.leaf (.clo (.bool false)))
 (.leaf (.clo (.bool false))))
 (.br (.eq (.fn 2 (.cons (.bin .add .i64 (.v 4) (.lit .i64 0)) (.cons (.bin .add .i64 (.v 5) (.lit .i64 0)) (.cons (.bin .add .i64 (.v 6) (.neg .i64 (.bin .add .i64 (.v 10) (.lit .i64 1)))) (.cons (.bin .add .i64 (.v 7) (.lit .i64 0)) (.cons (.bin .add .i64 (.v 8) (.lit .i64 0)) (.cons (.bin .add .i64 (.v 9) (.neg .i64 (.bin .add .i64 (.v 10) (.lit .i64 1)))) .nil))))))) (.lit .i64 0))
 (.br (.lt (.lit .i64 0) (.fn 4 (.cons (.v 0) (.cons (.v 1) (.cons (.v 2) (.cons (.v 3) (.cons (.bin .add .i64 (.v 4) (.lit .i64 0)) (.cons (.bin .add .i64 (.v 5) (.lit .i64 0)) (.cons (.bin .add .i64 (.v 6) (.neg .i64 (.bin .add .i64 (.v 10) (.lit .i64 1)))) (.cons (.bin .add .i64 (.v 7) (.lit .i64 0)) (.cons (.bin .add .i64 (.v 8) (.lit .i64 0)) (.cons (.bin .add .i64 (.v 9) (.neg .i64 (.bin .add .i64 (.v 10) (.lit .i64 1)))) .nil))))))))))))
 (.br (.lt (.fn 3 (.cons (.v 0) (.cons (.v 1) (.cons (.v 2) (.cons (.v 3) (.cons (.bin .add .i64 (.v 4) (.lit .i64 0)) (.cons (.bin .add .i64 (.v 5) (.lit .i64 0)) (.cons (.bin .add .i64 (.v 6) (.neg .i64 (.bin .add .i64 (.v 10) (.lit .i64 1)))) (.cons (.bin .add .i64 (.v 7) (.lit .i64 0)) (.cons (.bin .add .i64 (.v 8) (.lit .i64 0)) (.cons (.bin .add .i64 (.v 9) (.neg .i64 (.bin .add .i64 (.v 10) (.lit .i64 1)))) .nil))))))))))) (.lit .i64 0))
 (.leaf (.clo (.bool true)))
 (.leaf (.clo (.bool true))))
 (.leaf (.clo (.bool true))))
 (.leaf (.clo (.bool true)))))
 (.br (.eq (.fn 2 (.cons (.bin .add .i64 (.v 4) (.lit .i64 0)) (.cons (.bin .add .i64 (.v 5) (.lit .i64 0)) (.cons (.bin .add .i64 (.v 6) (.neg .i64 (.bin .add .i64 (.v 10) (.lit .i64 1)))) (.cons (.bin .add .i64 (.v 7) (.lit .i64 0)) (.cons (.bin .add .i64 (.v 8) (.lit .i64 0)) (.cons (.bin .add .i64 (.v 9) (.neg .i64 (.bin .add .i64 (.v 10) (.lit .i64 1)))) .nil))))))) (.lit .i64 0))
 (.br (.lt (.lit .i64 0) (.fn 4 (.cons (.v 0) (.cons (.v 1) (.cons (.v 2) (.cons (.v 3) (.cons (.bin .add .i64 (.v 4) (.lit .i64 0)) (.cons (.bin .add .i64 (.v 5) (.lit .i64 0)) (.cons (.bin .add .i64 (.v 6) (.neg .i64 (.bin .add .i64 (.v 10) (.lit .i64 1)))) (.cons (.bin .add .i64 (.v 7) (.lit .i64 0)) (.cons (.bin .add .i64 (.v 8) (.lit .i64 0)) (.cons (.bin .add .i64 (.v 9) (.neg .i64 (.bin .add .i64 (.v 10) (.lit .i64 1)))) .nil))))))))))))
 (.br (.lt (.fn 3 (.cons (.v 0) (.cons (.v 1) (.cons (.v 2) (.cons (.v 3) (.cons (.bin .add .i64 (.v 4) (.lit .i64 0)) (.cons (.bin .add .i64 (.v 5) (.lit .i64 0)) (.cons (.bin .add .i64 (.v 6) (.neg .i64 (.bin .add .i64 (.v 10) (.lit .i64 1)))) (.cons (.bin .add .i64 (.v 7) (.lit .i64 0)) (.cons (.bin .add .i64 (.v 8) (.lit .i64 0)) (.cons (.bin .add .i64 (.v 9) (.neg .i64 (.bin .add .i64 (.v 10) (.lit .i64 1)))) .nil))))))))))) (.lit .i64 0))
 (.leaf (.clo (.bool true)))
 (.leaf (.clo (.bool true))))
 (.leaf (.clo (.bool true))))
 (.leaf (.clo (.bool true)))))))))
 (.leaf (.clo (.bool true))))
 (.leaf (.clo (.bool true))))

def TPlaneMoves6 : Tr :=
(.br (.eq (.fn 0 (.cons (.v 0) (.cons (.v 1) (.cons (.v 2) (.cons (.v 3) .nil))))) (.lit .i64 0))
 (.br (.eq (.fn 2 (.cons (.v 4) (.cons (.v 5) (.cons (.v 6) (.cons (.v 7) (.cons (.v 8) (.cons (.v 9) .nil))))))) (.lit .i64 0))
 (.leaf (.clo (.bool true)))
 (.leaf (.clo (.bool true))))
 (.leaf (.clo (.bool true))))

def TPlaneMoves7 : Tr :=
(.br (.eq (.fn 0 (.cons (.v 0) (.cons (.v 1) (.cons (.v 2) (.cons (.v 3) .nil))))) (.lit .i64 0))
 (.br (.eq (.fn 2 (.cons (.v 4) (.cons (.v 5) (.cons (.v 6) (.cons (.v 7) (.cons (.v 8) (.cons (.v 9) .nil))))))) (.lit .i64 0))
 (.leaf (.clo (.bool true)))
 (.leaf (.clo (.bool true))))
 (.leaf (.clo (.bool true))))

theorem PlaneMoves_0 (a b c d x y z u v w0 k : Int) (h : ∀ q ∈ [a, b, c, d, x, y, z, u, v, w0, k], R64 q) (w : World) : Calls Try.prog 11 #[.agg #[.int .i64 a, .int .i64 b, .int .i64 c, .int .i64 d], .agg #[.int .i64 x, .int .i64 y, .int .i64 z, .int .i64 u, .int .i64 v, .int .i64 w0], .int .i64 0, .int .i64 k] w fun e w' => e = .returned (.bool true) ∧ Below w.heap.size w w' := by
  refine law_of (F := plF) [] mixed (cons := plCons) (eqs := plEqs) plCons_ok plEqs_ok (n := 300) (args := [a4 0, a6 4, .clo (.int .i64 0), .sy (.v 10)]) (T := TPlaneMoves0) (fun S => by kernel_rfl) h (xs := [.agg #[.int .i64 a, .int .i64 b, .int .i64 c, .int .i64 d], .agg #[.int .i64 x, .int .i64 y, .int .i64 z, .int .i64 u, .int .i64 v, .int .i64 w0], .int .i64 0, .int .i64 k]) rfl sat_nil ?_ w
  have key : chkH a b c d = 0 → chkB x y z u v w0 = 0 → 0 ≤ k → k ≤ 1000000 → exHi a b c d x y z u v w0 ≤ 0 →
      (0 < a → 0 ≤ mn2 k (W ((W (-exHi a b c d x y z u v w0)).tdiv (a))) ∧ mn2 k (W ((W (-exHi a b c d x y z u v w0)).tdiv (a))) ≤ k ∧ (chkB (W (x + mn2 k (W ((W (-exHi a b c d x y z u v w0)).tdiv (a))))) (W (y + 0)) (W (z + 0)) (W (u + mn2 k (W ((W (-exHi a b c d x y z u v w0)).tdiv (a))))) (W (v + 0)) (W (w0 + 0)) = 0 → exHi a b c d (W (x + mn2 k (W ((W (-exHi a b c d x y z u v w0)).tdiv (a))))) (W (y + 0)) (W (z + 0)) (W (u + mn2 k (W ((W (-exHi a b c d x y z u v w0)).tdiv (a))))) (W (v + 0)) (W (w0 + 0)) ≤ 0) ∧ (mn2 k (W ((W (-exHi a b c d x y z u v w0)).tdiv (a))) ≠ k → chkB (W (x + W (mn2 k (W ((W (-exHi a b c d x y z u v w0)).tdiv (a))) + 1))) (W (y + 0)) (W (z + 0)) (W (u + W (mn2 k (W ((W (-exHi a b c d x y z u v w0)).tdiv (a))) + 1))) (W (v + 0)) (W (w0 + 0)) = 0 → 0 < exHi a b c d (W (x + W (mn2 k (W ((W (-exHi a b c d x y z u v w0)).tdiv (a))) + 1))) (W (y + 0)) (W (z + 0)) (W (u + W (mn2 k (W ((W (-exHi a b c d x y z u v w0)).tdiv (a))) + 1))) (W (v + 0)) (W (w0 + 0)))) ∧
      (a ≤ 0 → chkB (W (x + k)) (W (y + 0)) (W (z + 0)) (W (u + k)) (W (v + 0)) (W (w0 + 0)) = 0 → exHi a b c d (W (x + k)) (W (y + 0)) (W (z + 0)) (W (u + k)) (W (v + 0)) (W (w0 + 0)) ≤ 0) := by
    intro hH hB hk0 hk1 hle
    have hb := exHi_bd hH hB
    have hco := (chkH_ok.1 hH)
    have eg : a = a := rfl
    refine ⟨fun hg => ?_, fun hg hm => ?_⟩
    · have df := depth_facts (k := k) ⟨hb.1, hle⟩ hg hk0
      generalize hN : mn2 k (W ((W (-exHi a b c d x y z u v w0)).tdiv (a))) = N at *
      refine ⟨df.1, df.2.1, fun hm => ?_, fun hne hm => ?_⟩
      · have e1 : exHi a b c d (W (x + N)) (W (y + 0)) (W (z + 0)) (W (u + N)) (W (v + 0)) (W (w0 + 0)) = exHi a b c d x y z u v w0 + a * N := by rw [moveX hH hB (t := N) (by omega) hm]
        have e2 := df.2.2.1
        rw [eg] at e2
        skip
        omega
      · have e3 : W (N + 1) = N + 1 := by unfold W; exact wrap64 _ (by omega)
        rw [e3] at hm ⊢
        have e1 : exHi a b c d (W (x + (N + 1))) (W (y + 0)) (W (z + 0)) (W (u + (N + 1))) (W (v + 0)) (W (w0 + 0)) = exHi a b c d x y z u v w0 + a * (N + 1) := by rw [moveX hH hB (t := (N + 1)) (by omega) hm]
        have e2 := df.2.2.2 hne
        rw [eg] at e2
        skip
        omega
    · have e1 : exHi a b c d (W (x + k)) (W (y + 0)) (W (z + 0)) (W (u + k)) (W (v + 0)) (W (w0 + 0)) = exHi a b c d x y z u v w0 + a * k := by rw [moveX hH hB (t := k) (by omega) hm]
      have e2 := mul_nonpos (g := a) (by omega) hk0
      rw [eg] at e2
      skip
      omega
  simp only [W] at key
  unfold TPlaneMoves0
  repeat' ((with_reducible refine br_val ?_ ?_) <;> (intro h; simp only [at_lt_t, at_lt_f, at_eq_t, at_eq_f, at_p, tv, row, bV_add, bV_sub, bV_mul, bV_quo, bV_rem, bV_mn, bV_mx, val64_vv, val64_fv, val64_pv, fv0, fv1, fv2, fv3, fv4, fv5, fv6, fv7, fv8, fv10, fv11, fv12, fv13, fv14, fv15, fv16, fv20, fv21, fv22, fv23, pv0, pv1, List.getD_cons_zero, List.getD_cons_succ] at h))
  all_goals first
    | rfl
    | (exfalso; omega)

theorem PlaneMoves_1 (a b c d x y z u v w0 k : Int) (h : ∀ q ∈ [a, b, c, d, x, y, z, u, v, w0, k], R64 q) (w : World) : Calls Try.prog 11 #[.agg #[.int .i64 a, .int .i64 b, .int .i64 c, .int .i64 d], .agg #[.int .i64 x, .int .i64 y, .int .i64 z, .int .i64 u, .int .i64 v, .int .i64 w0], .int .i64 1, .int .i64 k] w fun e w' => e = .returned (.bool true) ∧ Below w.heap.size w w' := by
  refine law_of (F := plF) [] mixed (cons := plCons) (eqs := plEqs) plCons_ok plEqs_ok (n := 300) (args := [a4 0, a6 4, .clo (.int .i64 1), .sy (.v 10)]) (T := TPlaneMoves1) (fun S => by kernel_rfl) h (xs := [.agg #[.int .i64 a, .int .i64 b, .int .i64 c, .int .i64 d], .agg #[.int .i64 x, .int .i64 y, .int .i64 z, .int .i64 u, .int .i64 v, .int .i64 w0], .int .i64 1, .int .i64 k]) rfl sat_nil ?_ w
  have key : chkH a b c d = 0 → chkB x y z u v w0 = 0 → 0 ≤ k → k ≤ 1000000 → exHi a b c d x y z u v w0 ≤ 0 →
      (0 < W (-a) → 0 ≤ mn2 k (W ((W (-exHi a b c d x y z u v w0)).tdiv (W (-a)))) ∧ mn2 k (W ((W (-exHi a b c d x y z u v w0)).tdiv (W (-a)))) ≤ k ∧ (chkB (W (x + W (-(mn2 k (W ((W (-exHi a b c d x y z u v w0)).tdiv (W (-a)))))))) (W (y + 0)) (W (z + 0)) (W (u + W (-(mn2 k (W ((W (-exHi a b c d x y z u v w0)).tdiv (W (-a)))))))) (W (v + 0)) (W (w0 + 0)) = 0 → exHi a b c d (W (x + W (-(mn2 k (W ((W (-exHi a b c d x y z u v w0)).tdiv (W (-a)))))))) (W (y + 0)) (W (z + 0)) (W (u + W (-(mn2 k (W ((W (-exHi a b c d x y z u v w0)).tdiv (W (-a)))))))) (W (v + 0)) (W (w0 + 0)) ≤ 0) ∧ (mn2 k (W ((W (-exHi a b c d x y z u v w0)).tdiv (W (-a)))) ≠ k → chkB (W (x + W (-(W (mn2 k (W ((W (-exHi a b c d x y z u v w0)).tdiv (W (-a)))) + 1))))) (W (y + 0)) (W (z + 0)) (W (u + W (-(W (mn2 k (W ((W (-exHi a b c d x y z u v w0)).tdiv (W (-a)))) + 1))))) (W (v + 0)) (W (w0 + 0)) = 0 → 0 < exHi a b c d (W (x + W (-(W (mn2 k (W ((W (-exHi a b c d x y z u v w0)).tdiv (W (-a)))) + 1))))) (W (y + 0)) (W (z + 0)) (W (u + W (-(W (mn2 k (W ((W (-exHi a b c d x y z u v w0)).tdiv (W (-a)))) + 1))))) (W (v + 0)) (W (w0 + 0)))) ∧
      (W (-a) ≤ 0 → chkB (W (x + W (-(k)))) (W (y + 0)) (W (z + 0)) (W (u + W (-(k)))) (W (v + 0)) (W (w0 + 0)) = 0 → exHi a b c d (W (x + W (-(k)))) (W (y + 0)) (W (z + 0)) (W (u + W (-(k)))) (W (v + 0)) (W (w0 + 0)) ≤ 0) := by
    intro hH hB hk0 hk1 hle
    have hb := exHi_bd hH hB
    have hco := (chkH_ok.1 hH)
    have eg : W (-a) = -a := by unfold W; exact wrap64 _ (by omega)
    refine ⟨fun hg => ?_, fun hg hm => ?_⟩
    · have df := depth_facts (k := k) ⟨hb.1, hle⟩ hg hk0
      generalize hN : mn2 k (W ((W (-exHi a b c d x y z u v w0)).tdiv (W (-a)))) = N at *
      refine ⟨df.1, df.2.1, fun hm => ?_, fun hne hm => ?_⟩
      · have e1 : exHi a b c d (W (x + W (-(N)))) (W (y + 0)) (W (z + 0)) (W (u + W (-(N)))) (W (v + 0)) (W (w0 + 0)) = exHi a b c d x y z u v w0 + -(a * N) := by rw [moveX hH hB (t := W (-(N))) (by unfold W; rw [wrap64 (-(N)) (by omega)]; omega) hm]; unfold W; rw [wrap64 (-(N)) (by omega), Int.mul_neg]
        have e2 := df.2.2.1
        rw [eg] at e2
        rw [Int.neg_mul] at e2
        omega
      · have e3 : W (N + 1) = N + 1 := by unfold W; exact wrap64 _ (by omega)
        rw [e3] at hm ⊢
        have e1 : exHi a b c d (W (x + W (-((N + 1))))) (W (y + 0)) (W (z + 0)) (W (u + W (-((N + 1))))) (W (v + 0)) (W (w0 + 0)) = exHi a b c d x y z u v w0 + -(a * (N + 1)) := by rw [moveX hH hB (t := W (-((N + 1)))) (by unfold W; rw [wrap64 (-((N + 1))) (by omega)]; omega) hm]; unfold W; rw [wrap64 (-((N + 1))) (by omega), Int.mul_neg]
        have e2 := df.2.2.2 hne
        rw [eg] at e2
        rw [Int.neg_mul] at e2
        omega
    · have e1 : exHi a b c d (W (x + W (-(k)))) (W (y + 0)) (W (z + 0)) (W (u + W (-(k)))) (W (v + 0)) (W (w0 + 0)) = exHi a b c d x y z u v w0 + -(a * k) := by rw [moveX hH hB (t := W (-(k))) (by unfold W; rw [wrap64 (-(k)) (by omega)]; omega) hm]; unfold W; rw [wrap64 (-(k)) (by omega), Int.mul_neg]
      have e2 := mul_nonpos (g := W (-a)) (by omega) hk0
      rw [eg] at e2
      rw [Int.neg_mul] at e2
      omega
  simp only [W] at key
  unfold TPlaneMoves1
  repeat' ((with_reducible refine br_val ?_ ?_) <;> (intro h; simp only [at_lt_t, at_lt_f, at_eq_t, at_eq_f, at_p, tv, row, bV_add, bV_sub, bV_mul, bV_quo, bV_rem, bV_mn, bV_mx, val64_vv, val64_fv, val64_pv, fv0, fv1, fv2, fv3, fv4, fv5, fv6, fv7, fv8, fv10, fv11, fv12, fv13, fv14, fv15, fv16, fv20, fv21, fv22, fv23, pv0, pv1, List.getD_cons_zero, List.getD_cons_succ] at h))
  all_goals first
    | rfl
    | (exfalso; omega)

theorem PlaneMoves_2 (a b c d x y z u v w0 k : Int) (h : ∀ q ∈ [a, b, c, d, x, y, z, u, v, w0, k], R64 q) (w : World) : Calls Try.prog 11 #[.agg #[.int .i64 a, .int .i64 b, .int .i64 c, .int .i64 d], .agg #[.int .i64 x, .int .i64 y, .int .i64 z, .int .i64 u, .int .i64 v, .int .i64 w0], .int .i64 2, .int .i64 k] w fun e w' => e = .returned (.bool true) ∧ Below w.heap.size w w' := by
  refine law_of (F := plF) [] mixed (cons := plCons) (eqs := plEqs) plCons_ok plEqs_ok (n := 300) (args := [a4 0, a6 4, .clo (.int .i64 2), .sy (.v 10)]) (T := TPlaneMoves2) (fun S => by kernel_rfl) h (xs := [.agg #[.int .i64 a, .int .i64 b, .int .i64 c, .int .i64 d], .agg #[.int .i64 x, .int .i64 y, .int .i64 z, .int .i64 u, .int .i64 v, .int .i64 w0], .int .i64 2, .int .i64 k]) rfl sat_nil ?_ w
  have key : chkH a b c d = 0 → chkB x y z u v w0 = 0 → 0 ≤ k → k ≤ 1000000 → exHi a b c d x y z u v w0 ≤ 0 →
      (0 < b → 0 ≤ mn2 k (W ((W (-exHi a b c d x y z u v w0)).tdiv (b))) ∧ mn2 k (W ((W (-exHi a b c d x y z u v w0)).tdiv (b))) ≤ k ∧ (chkB (W (x + 0)) (W (y + mn2 k (W ((W (-exHi a b c d x y z u v w0)).tdiv (b))))) (W (z + 0)) (W (u + 0)) (W (v + mn2 k (W ((W (-exHi a b c d x y z u v w0)).tdiv (b))))) (W (w0 + 0)) = 0 → exHi a b c d (W (x + 0)) (W (y + mn2 k (W ((W (-exHi a b c d x y z u v w0)).tdiv (b))))) (W (z + 0)) (W (u + 0)) (W (v + mn2 k (W ((W (-exHi a b c d x y z u v w0)).tdiv (b))))) (W (w0 + 0)) ≤ 0) ∧ (mn2 k (W ((W (-exHi a b c d x y z u v w0)).tdiv (b))) ≠ k → chkB (W (x + 0)) (W (y + W (mn2 k (W ((W (-exHi a b c d x y z u v w0)).tdiv (b))) + 1))) (W (z + 0)) (W (u + 0)) (W (v + W (mn2 k (W ((W (-exHi a b c d x y z u v w0)).tdiv (b))) + 1))) (W (w0 + 0)) = 0 → 0 < exHi a b c d (W (x + 0)) (W (y + W (mn2 k (W ((W (-exHi a b c d x y z u v w0)).tdiv (b))) + 1))) (W (z + 0)) (W (u + 0)) (W (v + W (mn2 k (W ((W (-exHi a b c d x y z u v w0)).tdiv (b))) + 1))) (W (w0 + 0)))) ∧
      (b ≤ 0 → chkB (W (x + 0)) (W (y + k)) (W (z + 0)) (W (u + 0)) (W (v + k)) (W (w0 + 0)) = 0 → exHi a b c d (W (x + 0)) (W (y + k)) (W (z + 0)) (W (u + 0)) (W (v + k)) (W (w0 + 0)) ≤ 0) := by
    intro hH hB hk0 hk1 hle
    have hb := exHi_bd hH hB
    have hco := (chkH_ok.1 hH)
    have eg : b = b := rfl
    refine ⟨fun hg => ?_, fun hg hm => ?_⟩
    · have df := depth_facts (k := k) ⟨hb.1, hle⟩ hg hk0
      generalize hN : mn2 k (W ((W (-exHi a b c d x y z u v w0)).tdiv (b))) = N at *
      refine ⟨df.1, df.2.1, fun hm => ?_, fun hne hm => ?_⟩
      · have e1 : exHi a b c d (W (x + 0)) (W (y + N)) (W (z + 0)) (W (u + 0)) (W (v + N)) (W (w0 + 0)) = exHi a b c d x y z u v w0 + b * N := by rw [moveY hH hB (t := N) (by omega) hm]
        have e2 := df.2.2.1
        rw [eg] at e2
        skip
        omega
      · have e3 : W (N + 1) = N + 1 := by unfold W; exact wrap64 _ (by omega)
        rw [e3] at hm ⊢
        have e1 : exHi a b c d (W (x + 0)) (W (y + (N + 1))) (W (z + 0)) (W (u + 0)) (W (v + (N + 1))) (W (w0 + 0)) = exHi a b c d x y z u v w0 + b * (N + 1) := by rw [moveY hH hB (t := (N + 1)) (by omega) hm]
        have e2 := df.2.2.2 hne
        rw [eg] at e2
        skip
        omega
    · have e1 : exHi a b c d (W (x + 0)) (W (y + k)) (W (z + 0)) (W (u + 0)) (W (v + k)) (W (w0 + 0)) = exHi a b c d x y z u v w0 + b * k := by rw [moveY hH hB (t := k) (by omega) hm]
      have e2 := mul_nonpos (g := b) (by omega) hk0
      rw [eg] at e2
      skip
      omega
  simp only [W] at key
  unfold TPlaneMoves2
  repeat' ((with_reducible refine br_val ?_ ?_) <;> (intro h; simp only [at_lt_t, at_lt_f, at_eq_t, at_eq_f, at_p, tv, row, bV_add, bV_sub, bV_mul, bV_quo, bV_rem, bV_mn, bV_mx, val64_vv, val64_fv, val64_pv, fv0, fv1, fv2, fv3, fv4, fv5, fv6, fv7, fv8, fv10, fv11, fv12, fv13, fv14, fv15, fv16, fv20, fv21, fv22, fv23, pv0, pv1, List.getD_cons_zero, List.getD_cons_succ] at h))
  all_goals first
    | rfl
    | (exfalso; omega)

theorem PlaneMoves_3 (a b c d x y z u v w0 k : Int) (h : ∀ q ∈ [a, b, c, d, x, y, z, u, v, w0, k], R64 q) (w : World) : Calls Try.prog 11 #[.agg #[.int .i64 a, .int .i64 b, .int .i64 c, .int .i64 d], .agg #[.int .i64 x, .int .i64 y, .int .i64 z, .int .i64 u, .int .i64 v, .int .i64 w0], .int .i64 3, .int .i64 k] w fun e w' => e = .returned (.bool true) ∧ Below w.heap.size w w' := by
  refine law_of (F := plF) [] mixed (cons := plCons) (eqs := plEqs) plCons_ok plEqs_ok (n := 300) (args := [a4 0, a6 4, .clo (.int .i64 3), .sy (.v 10)]) (T := TPlaneMoves3) (fun S => by kernel_rfl) h (xs := [.agg #[.int .i64 a, .int .i64 b, .int .i64 c, .int .i64 d], .agg #[.int .i64 x, .int .i64 y, .int .i64 z, .int .i64 u, .int .i64 v, .int .i64 w0], .int .i64 3, .int .i64 k]) rfl sat_nil ?_ w
  have key : chkH a b c d = 0 → chkB x y z u v w0 = 0 → 0 ≤ k → k ≤ 1000000 → exHi a b c d x y z u v w0 ≤ 0 →
      (0 < W (-b) → 0 ≤ mn2 k (W ((W (-exHi a b c d x y z u v w0)).tdiv (W (-b)))) ∧ mn2 k (W ((W (-exHi a b c d x y z u v w0)).tdiv (W (-b)))) ≤ k ∧ (chkB (W (x + 0)) (W (y + W (-(mn2 k (W ((W (-exHi a b c d x y z u v w0)).tdiv (W (-b)))))))) (W (z + 0)) (W (u + 0)) (W (v + W (-(mn2 k (W ((W (-exHi a b c d x y z u v w0)).tdiv (W (-b)))))))) (W (w0 + 0)) = 0 → exHi a b c d (W (x + 0)) (W (y + W (-(mn2 k (W ((W (-exHi a b c d x y z u v w0)).tdiv (W (-b)))))))) (W (z + 0)) (W (u + 0)) (W (v + W (-(mn2 k (W ((W (-exHi a b c d x y z u v w0)).tdiv (W (-b)))))))) (W (w0 + 0)) ≤ 0) ∧ (mn2 k (W ((W (-exHi a b c d x y z u v w0)).tdiv (W (-b)))) ≠ k → chkB (W (x + 0)) (W (y + W (-(W (mn2 k (W ((W (-exHi a b c d x y z u v w0)).tdiv (W (-b)))) + 1))))) (W (z + 0)) (W (u + 0)) (W (v + W (-(W (mn2 k (W ((W (-exHi a b c d x y z u v w0)).tdiv (W (-b)))) + 1))))) (W (w0 + 0)) = 0 → 0 < exHi a b c d (W (x + 0)) (W (y + W (-(W (mn2 k (W ((W (-exHi a b c d x y z u v w0)).tdiv (W (-b)))) + 1))))) (W (z + 0)) (W (u + 0)) (W (v + W (-(W (mn2 k (W ((W (-exHi a b c d x y z u v w0)).tdiv (W (-b)))) + 1))))) (W (w0 + 0)))) ∧
      (W (-b) ≤ 0 → chkB (W (x + 0)) (W (y + W (-(k)))) (W (z + 0)) (W (u + 0)) (W (v + W (-(k)))) (W (w0 + 0)) = 0 → exHi a b c d (W (x + 0)) (W (y + W (-(k)))) (W (z + 0)) (W (u + 0)) (W (v + W (-(k)))) (W (w0 + 0)) ≤ 0) := by
    intro hH hB hk0 hk1 hle
    have hb := exHi_bd hH hB
    have hco := (chkH_ok.1 hH)
    have eg : W (-b) = -b := by unfold W; exact wrap64 _ (by omega)
    refine ⟨fun hg => ?_, fun hg hm => ?_⟩
    · have df := depth_facts (k := k) ⟨hb.1, hle⟩ hg hk0
      generalize hN : mn2 k (W ((W (-exHi a b c d x y z u v w0)).tdiv (W (-b)))) = N at *
      refine ⟨df.1, df.2.1, fun hm => ?_, fun hne hm => ?_⟩
      · have e1 : exHi a b c d (W (x + 0)) (W (y + W (-(N)))) (W (z + 0)) (W (u + 0)) (W (v + W (-(N)))) (W (w0 + 0)) = exHi a b c d x y z u v w0 + -(b * N) := by rw [moveY hH hB (t := W (-(N))) (by unfold W; rw [wrap64 (-(N)) (by omega)]; omega) hm]; unfold W; rw [wrap64 (-(N)) (by omega), Int.mul_neg]
        have e2 := df.2.2.1
        rw [eg] at e2
        rw [Int.neg_mul] at e2
        omega
      · have e3 : W (N + 1) = N + 1 := by unfold W; exact wrap64 _ (by omega)
        rw [e3] at hm ⊢
        have e1 : exHi a b c d (W (x + 0)) (W (y + W (-((N + 1))))) (W (z + 0)) (W (u + 0)) (W (v + W (-((N + 1))))) (W (w0 + 0)) = exHi a b c d x y z u v w0 + -(b * (N + 1)) := by rw [moveY hH hB (t := W (-((N + 1)))) (by unfold W; rw [wrap64 (-((N + 1))) (by omega)]; omega) hm]; unfold W; rw [wrap64 (-((N + 1))) (by omega), Int.mul_neg]
        have e2 := df.2.2.2 hne
        rw [eg] at e2
        rw [Int.neg_mul] at e2
        omega
    · have e1 : exHi a b c d (W (x + 0)) (W (y + W (-(k)))) (W (z + 0)) (W (u + 0)) (W (v + W (-(k)))) (W (w0 + 0)) = exHi a b c d x y z u v w0 + -(b * k) := by rw [moveY hH hB (t := W (-(k))) (by unfold W; rw [wrap64 (-(k)) (by omega)]; omega) hm]; unfold W; rw [wrap64 (-(k)) (by omega), Int.mul_neg]
      have e2 := mul_nonpos (g := W (-b)) (by omega) hk0
      rw [eg] at e2
      rw [Int.neg_mul] at e2
      omega
  simp only [W] at key
  unfold TPlaneMoves3
  repeat' ((with_reducible refine br_val ?_ ?_) <;> (intro h; simp only [at_lt_t, at_lt_f, at_eq_t, at_eq_f, at_p, tv, row, bV_add, bV_sub, bV_mul, bV_quo, bV_rem, bV_mn, bV_mx, val64_vv, val64_fv, val64_pv, fv0, fv1, fv2, fv3, fv4, fv5, fv6, fv7, fv8, fv10, fv11, fv12, fv13, fv14, fv15, fv16, fv20, fv21, fv22, fv23, pv0, pv1, List.getD_cons_zero, List.getD_cons_succ] at h))
  all_goals first
    | rfl
    | (exfalso; omega)

theorem PlaneMoves_4 (a b c d x y z u v w0 k : Int) (h : ∀ q ∈ [a, b, c, d, x, y, z, u, v, w0, k], R64 q) (w : World) : Calls Try.prog 11 #[.agg #[.int .i64 a, .int .i64 b, .int .i64 c, .int .i64 d], .agg #[.int .i64 x, .int .i64 y, .int .i64 z, .int .i64 u, .int .i64 v, .int .i64 w0], .int .i64 4, .int .i64 k] w fun e w' => e = .returned (.bool true) ∧ Below w.heap.size w w' := by
  refine law_of (F := plF) [] mixed (cons := plCons) (eqs := plEqs) plCons_ok plEqs_ok (n := 300) (args := [a4 0, a6 4, .clo (.int .i64 4), .sy (.v 10)]) (T := TPlaneMoves4) (fun S => by kernel_rfl) h (xs := [.agg #[.int .i64 a, .int .i64 b, .int .i64 c, .int .i64 d], .agg #[.int .i64 x, .int .i64 y, .int .i64 z, .int .i64 u, .int .i64 v, .int .i64 w0], .int .i64 4, .int .i64 k]) rfl sat_nil ?_ w
  have key : chkH a b c d = 0 → chkB x y z u v w0 = 0 → 0 ≤ k → k ≤ 1000000 → exHi a b c d x y z u v w0 ≤ 0 →
      (0 < c → 0 ≤ mn2 k (W ((W (-exHi a b c d x y z u v w0)).tdiv (c))) ∧ mn2 k (W ((W (-exHi a b c d x y z u v w0)).tdiv (c))) ≤ k ∧ (chkB (W (x + 0)) (W (y + 0)) (W (z + mn2 k (W ((W (-exHi a b c d x y z u v w0)).tdiv (c))))) (W (u + 0)) (W (v + 0)) (W (w0 + mn2 k (W ((W (-exHi a b c d x y z u v w0)).tdiv (c))))) = 0 → exHi a b c d (W (x + 0)) (W (y + 0)) (W (z + mn2 k (W ((W (-exHi a b c d x y z u v w0)).tdiv (c))))) (W (u + 0)) (W (v + 0)) (W (w0 + mn2 k (W ((W (-exHi a b c d x y z u v w0)).tdiv (c))))) ≤ 0) ∧ (mn2 k (W ((W (-exHi a b c d x y z u v w0)).tdiv (c))) ≠ k → chkB (W (x + 0)) (W (y + 0)) (W (z + W (mn2 k (W ((W (-exHi a b c d x y z u v w0)).tdiv (c))) + 1))) (W (u + 0)) (W (v + 0)) (W (w0 + W (mn2 k (W ((W (-exHi a b c d x y z u v w0)).tdiv (c))) + 1))) = 0 → 0 < exHi a b c d (W (x + 0)) (W (y + 0)) (W (z + W (mn2 k (W ((W (-exHi a b c d x y z u v w0)).tdiv (c))) + 1))) (W (u + 0)) (W (v + 0)) (W (w0 + W (mn2 k (W ((W (-exHi a b c d x y z u v w0)).tdiv (c))) + 1))))) ∧
      (c ≤ 0 → chkB (W (x + 0)) (W (y + 0)) (W (z + k)) (W (u + 0)) (W (v + 0)) (W (w0 + k)) = 0 → exHi a b c d (W (x + 0)) (W (y + 0)) (W (z + k)) (W (u + 0)) (W (v + 0)) (W (w0 + k)) ≤ 0) := by
    intro hH hB hk0 hk1 hle
    have hb := exHi_bd hH hB
    have hco := (chkH_ok.1 hH)
    have eg : c = c := rfl
    refine ⟨fun hg => ?_, fun hg hm => ?_⟩
    · have df := depth_facts (k := k) ⟨hb.1, hle⟩ hg hk0
      generalize hN : mn2 k (W ((W (-exHi a b c d x y z u v w0)).tdiv (c))) = N at *
      refine ⟨df.1, df.2.1, fun hm => ?_, fun hne hm => ?_⟩
      · have e1 : exHi a b c d (W (x + 0)) (W (y + 0)) (W (z + N)) (W (u + 0)) (W (v + 0)) (W (w0 + N)) = exHi a b c d x y z u v w0 + c * N := by rw [moveZ hH hB (t := N) (by omega) hm]
        have e2 := df.2.2.1
        rw [eg] at e2
        skip
        omega
      · have e3 : W (N + 1) = N + 1 := by unfold W; exact wrap64 _ (by omega)
        rw [e3] at hm ⊢
        have e1 : exHi a b c d (W (x + 0)) (W (y + 0)) (W (z + (N + 1))) (W (u + 0)) (W (v + 0)) (W (w0 + (N + 1))) = exHi a b c d x y z u v w0 + c * (N + 1) := by rw [moveZ hH hB (t := (N + 1)) (by omega) hm]
        have e2 := df.2.2.2 hne
        rw [eg] at e2
        skip
        omega
    · have e1 : exHi a b c d (W (x + 0)) (W (y + 0)) (W (z + k)) (W (u + 0)) (W (v + 0)) (W (w0 + k)) = exHi a b c d x y z u v w0 + c * k := by rw [moveZ hH hB (t := k) (by omega) hm]
      have e2 := mul_nonpos (g := c) (by omega) hk0
      rw [eg] at e2
      skip
      omega
  simp only [W] at key
  unfold TPlaneMoves4
  repeat' ((with_reducible refine br_val ?_ ?_) <;> (intro h; simp only [at_lt_t, at_lt_f, at_eq_t, at_eq_f, at_p, tv, row, bV_add, bV_sub, bV_mul, bV_quo, bV_rem, bV_mn, bV_mx, val64_vv, val64_fv, val64_pv, fv0, fv1, fv2, fv3, fv4, fv5, fv6, fv7, fv8, fv10, fv11, fv12, fv13, fv14, fv15, fv16, fv20, fv21, fv22, fv23, pv0, pv1, List.getD_cons_zero, List.getD_cons_succ] at h))
  all_goals first
    | rfl
    | (exfalso; omega)

theorem PlaneMoves_5 (a b c d x y z u v w0 k : Int) (h : ∀ q ∈ [a, b, c, d, x, y, z, u, v, w0, k], R64 q) (w : World) : Calls Try.prog 11 #[.agg #[.int .i64 a, .int .i64 b, .int .i64 c, .int .i64 d], .agg #[.int .i64 x, .int .i64 y, .int .i64 z, .int .i64 u, .int .i64 v, .int .i64 w0], .int .i64 5, .int .i64 k] w fun e w' => e = .returned (.bool true) ∧ Below w.heap.size w w' := by
  refine law_of (F := plF) [] mixed (cons := plCons) (eqs := plEqs) plCons_ok plEqs_ok (n := 300) (args := [a4 0, a6 4, .clo (.int .i64 5), .sy (.v 10)]) (T := TPlaneMoves5) (fun S => by kernel_rfl) h (xs := [.agg #[.int .i64 a, .int .i64 b, .int .i64 c, .int .i64 d], .agg #[.int .i64 x, .int .i64 y, .int .i64 z, .int .i64 u, .int .i64 v, .int .i64 w0], .int .i64 5, .int .i64 k]) rfl sat_nil ?_ w
  have key : chkH a b c d = 0 → chkB x y z u v w0 = 0 → 0 ≤ k → k ≤ 1000000 → exHi a b c d x y z u v w0 ≤ 0 →
      (0 < W (-c) → 0 ≤ mn2 k (W ((W (-exHi a b c d x y z u v w0)).tdiv (W (-c)))) ∧ mn2 k (W ((W (-exHi a b c d x y z u v w0)).tdiv (W (-c)))) ≤ k ∧ (chkB (W (x + 0)) (W (y + 0)) (W (z + W (-(mn2 k (W ((W (-exHi a b c d x y z u v w0)).tdiv (W (-c)))))))) (W (u + 0)) (W (v + 0)) (W (w0 + W (-(mn2 k (W ((W (-exHi a b c d x y z u v w0)).tdiv (W (-c)))))))) = 0 → exHi a b c d (W (x + 0)) (W (y + 0)) (W (z + W (-(mn2 k (W ((W (-exHi a b c d x y z u v w0)).tdiv (W (-c)))))))) (W (u + 0)) (W (v + 0)) (W (w0 + W (-(mn2 k (W ((W (-exHi a b c d x y z u v w0)).tdiv (W (-c)))))))) ≤ 0) ∧ (mn2 k (W ((W (-exHi a b c d x y z u v w0)).tdiv (W (-c)))) ≠ k → chkB (W (x + 0)) (W (y + 0)) (W (z + W (-(W (mn2 k (W ((W (-exHi a b c d x y z u v w0)).tdiv (W (-c)))) + 1))))) (W (u + 0)) (W (v + 0)) (W (w0 + W (-(W (mn2 k (W ((W (-exHi a b c d x y z u v w0)).tdiv (W (-c)))) + 1))))) = 0 → 0 < exHi a b c d (W (x + 0)) (W (y + 0)) (W (z + W (-(W (mn2 k (W ((W (-exHi a b c d x y z u v w0)).tdiv (W (-c)))) + 1))))) (W (u + 0)) (W (v + 0)) (W (w0 + W (-(W (mn2 k (W ((W (-exHi a b c d x y z u v w0)).tdiv (W (-c)))) + 1))))))) ∧
      (W (-c) ≤ 0 → chkB (W (x + 0)) (W (y + 0)) (W (z + W (-(k)))) (W (u + 0)) (W (v + 0)) (W (w0 + W (-(k)))) = 0 → exHi a b c d (W (x + 0)) (W (y + 0)) (W (z + W (-(k)))) (W (u + 0)) (W (v + 0)) (W (w0 + W (-(k)))) ≤ 0) := by
    intro hH hB hk0 hk1 hle
    have hb := exHi_bd hH hB
    have hco := (chkH_ok.1 hH)
    have eg : W (-c) = -c := by unfold W; exact wrap64 _ (by omega)
    refine ⟨fun hg => ?_, fun hg hm => ?_⟩
    · have df := depth_facts (k := k) ⟨hb.1, hle⟩ hg hk0
      generalize hN : mn2 k (W ((W (-exHi a b c d x y z u v w0)).tdiv (W (-c)))) = N at *
      refine ⟨df.1, df.2.1, fun hm => ?_, fun hne hm => ?_⟩
      · have e1 : exHi a b c d (W (x + 0)) (W (y + 0)) (W (z + W (-(N)))) (W (u + 0)) (W (v + 0)) (W (w0 + W (-(N)))) = exHi a b c d x y z u v w0 + -(c * N) := by rw [moveZ hH hB (t := W (-(N))) (by unfold W; rw [wrap64 (-(N)) (by omega)]; omega) hm]; unfold W; rw [wrap64 (-(N)) (by omega), Int.mul_neg]
        have e2 := df.2.2.1
        rw [eg] at e2
        rw [Int.neg_mul] at e2
        omega
      · have e3 : W (N + 1) = N + 1 := by unfold W; exact wrap64 _ (by omega)
        rw [e3] at hm ⊢
        have e1 : exHi a b c d (W (x + 0)) (W (y + 0)) (W (z + W (-((N + 1))))) (W (u + 0)) (W (v + 0)) (W (w0 + W (-((N + 1))))) = exHi a b c d x y z u v w0 + -(c * (N + 1)) := by rw [moveZ hH hB (t := W (-((N + 1)))) (by unfold W; rw [wrap64 (-((N + 1))) (by omega)]; omega) hm]; unfold W; rw [wrap64 (-((N + 1))) (by omega), Int.mul_neg]
        have e2 := df.2.2.2 hne
        rw [eg] at e2
        rw [Int.neg_mul] at e2
        omega
    · have e1 : exHi a b c d (W (x + 0)) (W (y + 0)) (W (z + W (-(k)))) (W (u + 0)) (W (v + 0)) (W (w0 + W (-(k)))) = exHi a b c d x y z u v w0 + -(c * k) := by rw [moveZ hH hB (t := W (-(k))) (by unfold W; rw [wrap64 (-(k)) (by omega)]; omega) hm]; unfold W; rw [wrap64 (-(k)) (by omega), Int.mul_neg]
      have e2 := mul_nonpos (g := W (-c)) (by omega) hk0
      rw [eg] at e2
      rw [Int.neg_mul] at e2
      omega
  simp only [W] at key
  unfold TPlaneMoves5
  repeat' ((with_reducible refine br_val ?_ ?_) <;> (intro h; simp only [at_lt_t, at_lt_f, at_eq_t, at_eq_f, at_p, tv, row, bV_add, bV_sub, bV_mul, bV_quo, bV_rem, bV_mn, bV_mx, val64_vv, val64_fv, val64_pv, fv0, fv1, fv2, fv3, fv4, fv5, fv6, fv7, fv8, fv10, fv11, fv12, fv13, fv14, fv15, fv16, fv20, fv21, fv22, fv23, pv0, pv1, List.getD_cons_zero, List.getD_cons_succ] at h))
  all_goals first
    | rfl
    | (exfalso; omega)

theorem PlaneMoves_6 (a b c d x y z u v w0 e k : Int) (h : ∀ q ∈ [a, b, c, d, x, y, z, u, v, w0, e, k], R64 q) (he : e < 0) (w : World) : Calls Try.prog 11 #[.agg #[.int .i64 a, .int .i64 b, .int .i64 c, .int .i64 d], .agg #[.int .i64 x, .int .i64 y, .int .i64 z, .int .i64 u, .int .i64 v, .int .i64 w0], .int .i64 e, .int .i64 k] w fun e w' => e = .returned (.bool true) ∧ Below w.heap.size w w' := by
  refine law_of (F := plF) [(.lt (.v 10) (.lit .i64 0), true)] mixed (cons := plCons) (eqs := plEqs) plCons_ok plEqs_ok (n := 300) (args := [a4 0, a6 4, .sy (.v 10), .sy (.v 11)]) (T := TPlaneMoves6) (fun S => by kernel_rfl) h (xs := [.agg #[.int .i64 a, .int .i64 b, .int .i64 c, .int .i64 d], .agg #[.int .i64 x, .int .i64 y, .int .i64 z, .int .i64 u, .int .i64 v, .int .i64 w0], .int .i64 e, .int .i64 k]) rfl (sat_cons (at_lt_t.2 he) sat_nil) ?_ w
  unfold TPlaneMoves6
  repeat' (refine br_val (fun _ => ?_) (fun _ => ?_))
  all_goals rfl

theorem PlaneMoves_7 (a b c d x y z u v w0 e k : Int) (h : ∀ q ∈ [a, b, c, d, x, y, z, u, v, w0, e, k], R64 q) (he : 5 < e) (w : World) : Calls Try.prog 11 #[.agg #[.int .i64 a, .int .i64 b, .int .i64 c, .int .i64 d], .agg #[.int .i64 x, .int .i64 y, .int .i64 z, .int .i64 u, .int .i64 v, .int .i64 w0], .int .i64 e, .int .i64 k] w fun e w' => e = .returned (.bool true) ∧ Below w.heap.size w w' := by
  refine law_of (F := plF) [(.lt (.lit .i64 5) (.v 10), true)] mixed (cons := plCons) (eqs := plEqs) plCons_ok plEqs_ok (n := 300) (args := [a4 0, a6 4, .sy (.v 10), .sy (.v 11)]) (T := TPlaneMoves7) (fun S => by kernel_rfl) h (xs := [.agg #[.int .i64 a, .int .i64 b, .int .i64 c, .int .i64 d], .agg #[.int .i64 x, .int .i64 y, .int .i64 z, .int .i64 u, .int .i64 v, .int .i64 w0], .int .i64 e, .int .i64 k]) rfl (sat_cons (at_lt_t.2 he) sat_nil) ?_ w
  unfold TPlaneMoves7
  repeat' (refine br_val (fun _ => ?_) (fun _ => ?_))
  all_goals rfl

set_option maxHeartbeats 8000000 in
theorem planeMoves_any (zs : List Int) (hr : InRng (shK [s4, s6, .i .i64, .i .i64]) zs) (w : World) : Calls Try.prog 11 (shV [s4, s6, .i .i64, .i .i64] zs).toArray w fun e w' => e = .returned (.bool true) ∧ Below w.heap.size w w' := by
  have h := rng64 (by rfl) hr
  have hl := InRng_length hr
  obtain ⟨a, b, c, d, x, y, z, u, v, w0, e, k, rfl⟩ := len12 hl
  have hh : ∀ q ∈ [a, b, c, d, x, y, z, u, v, w0, k], R64 q := fun q hq => h q (by simp only [List.mem_cons, List.not_mem_nil, or_false] at hq ⊢; rcases hq with hq | hq | hq | hq | hq | hq | hq | hq | hq | hq | hq <;> simp [hq])
  by_cases h0 : e < 0
  · exact PlaneMoves_6 a b c d x y z u v w0 e k h h0 w
  · by_cases h5 : 5 < e
    · exact PlaneMoves_7 a b c d x y z u v w0 e k h h5 w
    · have h6 : e = 0 ∨ e = 1 ∨ e = 2 ∨ e = 3 ∨ e = 4 ∨ e = 5 := by omega
      rcases h6 with rfl | rfl | rfl | rfl | rfl | rfl
      · exact PlaneMoves_0 a b c d x y z u v w0 k hh w
      · exact PlaneMoves_1 a b c d x y z u v w0 k hh w
      · exact PlaneMoves_2 a b c d x y z u v w0 k hh w
      · exact PlaneMoves_3 a b c d x y z u v w0 k hh w
      · exact PlaneMoves_4 a b c d x y z u v w0 k hh w
      · exact PlaneMoves_5 a b c d x y z u v w0 k hh w

end Go.Proofs.Ytopjcpdhfohccaa
