/-
  DERIVED. GIVEN WITH THE SEED: THE CARDS: each row of YtbhkbhaepefdgaaDoorRows.lean that lists a variable, with what it lists TIED to the program's text (the seventh form; the later family's looks); each row that meets fmt, with fmt's text TOLD by the authors' own Lean function (tested against real Go, not proved from fmt's source: count such statements apart). THE CARD IS WHAT COUNTS. Prove the row's statement (the work); the ties are given (YtbhkbhaepefdgaaDoorTie.lean); close each card by the builder's one call (the guide's Derived/Test/ToyasCard.lean, 'card_holds'). Laid BY PROGRAM, IN A SANDBOX (cutbox-door.mjs). By AI agents, Wed Nov 11 2026. No macro, syntax, notation, axiom, sorry.
-/
import Derived.Test.YtbhkbhaepefdgaaDoorRows
import GoSem.ClaimSeven
namespace Go.Proofs.YtbhkbhaepefdgaaDoor
namespace Rows

/-- THE TIED CARD OF 'gangsawlaw01.SpanPairs'. -/
def spanPairsCard : Claim7 := { stood := { row := spanPairsRow, standIns := [], harness := (true, "ff01adb90566ca6e0e89c307637cad96fd79ed63ab24bb52279101fa3aca8444"), looks := false }, kinds := [], alts := [], laidByText := true, laidKinds := [.data], laidTests := true, laidLooks := .later }
def SpanPairsCardSaid : Prop := Claim7.holds Tryd.pinned (.plain (OpenSpec.ofChange spanPairsSpec)) spanPairsCard

/-- THE TIED CARD OF 'gangsawlaw01.SpanSets'. -/
def spanSetsCard : Claim7 := { stood := { row := spanSetsRow, standIns := [], harness := (true, "ff01adb90566ca6e0e89c307637cad96fd79ed63ab24bb52279101fa3aca8444"), looks := false }, kinds := [], alts := [], laidByText := true, laidKinds := [.data], laidTests := true, laidLooks := .later }
def SpanSetsCardSaid : Prop := Claim7.holds Tryd.pinned (.plain (OpenSpec.ofChange spanSetsSpec)) spanSetsCard

/-- THE TIED CARD OF 'gangsawlaw01.SpanMembers'. -/
def spanMembersCard : Claim7 := { stood := { row := spanMembersRow, standIns := [], harness := (true, "ff01adb90566ca6e0e89c307637cad96fd79ed63ab24bb52279101fa3aca8444"), looks := false }, kinds := [], alts := [], laidByText := true, laidKinds := [.data], laidTests := true, laidLooks := .later }
def SpanMembersCardSaid : Prop := Claim7.holds Tryd.pinned (.plain (OpenSpec.ofChange spanMembersSpec)) spanMembersCard

/-- THE TIED CARD OF 'gangsawlaw01.SpanAlgebra'. -/
def spanAlgebraCard : Claim7 := { stood := { row := spanAlgebraRow, standIns := [], harness := (true, "ff01adb90566ca6e0e89c307637cad96fd79ed63ab24bb52279101fa3aca8444"), looks := false }, kinds := [], alts := [], laidByText := true, laidKinds := [.data], laidTests := true, laidLooks := .later }
def SpanAlgebraCardSaid : Prop := Claim7.holds Tryd.pinned (.plain (OpenSpec.ofChange spanAlgebraSpec)) spanAlgebraCard

/-- THE TIED CARD OF 'gangsawlaw02.CodecEncodes'. -/
def codecEncodesCard : Claim7 := { stood := { row := codecEncodesRow, standIns := [], harness := (true, "ff01adb90566ca6e0e89c307637cad96fd79ed63ab24bb52279101fa3aca8444"), looks := false }, kinds := [], alts := [], laidByText := true, laidKinds := [.data, .data, .data], laidTests := true, laidLooks := .later }
def CodecEncodesCardSaid : Prop := Claim7.holds Tryd.pinned (.plain (OpenSpec.ofChange codecEncodesSpec)) codecEncodesCard

/-- THE TIED CARD OF 'gangsawlaw02.CodecDecodes'. -/
def codecDecodesCard : Claim7 := { stood := { row := codecDecodesRow, standIns := [], harness := (true, "ff01adb90566ca6e0e89c307637cad96fd79ed63ab24bb52279101fa3aca8444"), looks := false }, kinds := [], alts := [], laidByText := true, laidKinds := [.data, .data, .data], laidTests := true, laidLooks := .later }
def CodecDecodesCardSaid : Prop := Claim7.holds Tryd.pinned (.plain (OpenSpec.ofChange codecDecodesSpec)) codecDecodesCard

/-- THE TIED CARD OF 'gangsawlaw02.CodecBack'. -/
def codecBackCard : Claim7 := { stood := { row := codecBackRow, standIns := [], harness := (true, "ff01adb90566ca6e0e89c307637cad96fd79ed63ab24bb52279101fa3aca8444"), looks := false }, kinds := [], alts := [], laidByText := true, laidKinds := [.data, .data, .data], laidTests := true, laidLooks := .later }
def CodecBackCardSaid : Prop := Claim7.holds Tryd.pinned (.plain (OpenSpec.ofChange codecBackSpec)) codecBackCard

/-- THE TIED CARD OF 'gangsawlaw02.CodecFirst'. -/
def codecFirstCard : Claim7 := { stood := { row := codecFirstRow, standIns := [], harness := (true, "ff01adb90566ca6e0e89c307637cad96fd79ed63ab24bb52279101fa3aca8444"), looks := false }, kinds := [], alts := [], laidByText := true, laidKinds := [.data, .data, .data], laidTests := true, laidLooks := .later }
def CodecFirstCardSaid : Prop := Claim7.holds Tryd.pinned (.plain (OpenSpec.ofChange codecFirstSpec)) codecFirstCard

/-- THE TIED CARD OF 'gangsawlaw02.CodecCompares'. -/
def codecComparesCard : Claim7 := { stood := { row := codecComparesRow, standIns := [], harness := (true, "ff01adb90566ca6e0e89c307637cad96fd79ed63ab24bb52279101fa3aca8444"), looks := false }, kinds := [], alts := [], laidByText := true, laidKinds := [.data, .data, .data], laidTests := true, laidLooks := .later }
def CodecComparesCardSaid : Prop := Claim7.holds Tryd.pinned (.plain (OpenSpec.ofChange codecComparesSpec)) codecComparesCard

/-- THE SECOND FORM's CARD OF 'gangsawlaw01.SpanPairs'. -/
def spanPairsUptoCard : Claim7 := { stood := { row := spanPairsUptoRow, standIns := [], harness := (true, "ff01adb90566ca6e0e89c307637cad96fd79ed63ab24bb52279101fa3aca8444"), looks := false }, kinds := [], alts := [], laidByText := true, laidKinds := [.data], laidTests := true, laidLooks := .later }
def SpanPairsUptoCardSaid : Prop := Claim7.holds Tryd.pinned (.plain (OpenSpec.upto spanPairsSpec)) spanPairsUptoCard

/-- THE SECOND FORM's CARD OF 'gangsawlaw01.SpanSets'. -/
def spanSetsUptoCard : Claim7 := { stood := { row := spanSetsUptoRow, standIns := [], harness := (true, "ff01adb90566ca6e0e89c307637cad96fd79ed63ab24bb52279101fa3aca8444"), looks := false }, kinds := [], alts := [], laidByText := true, laidKinds := [.data], laidTests := true, laidLooks := .later }
def SpanSetsUptoCardSaid : Prop := Claim7.holds Tryd.pinned (.plain (OpenSpec.upto spanSetsSpec)) spanSetsUptoCard

/-- THE SECOND FORM's CARD OF 'gangsawlaw01.SpanMembers'. -/
def spanMembersUptoCard : Claim7 := { stood := { row := spanMembersUptoRow, standIns := [], harness := (true, "ff01adb90566ca6e0e89c307637cad96fd79ed63ab24bb52279101fa3aca8444"), looks := false }, kinds := [], alts := [], laidByText := true, laidKinds := [.data], laidTests := true, laidLooks := .later }
def SpanMembersUptoCardSaid : Prop := Claim7.holds Tryd.pinned (.plain (OpenSpec.upto spanMembersSpec)) spanMembersUptoCard

/-- THE SECOND FORM's CARD OF 'gangsawlaw01.SpanAlgebra'. -/
def spanAlgebraUptoCard : Claim7 := { stood := { row := spanAlgebraUptoRow, standIns := [], harness := (true, "ff01adb90566ca6e0e89c307637cad96fd79ed63ab24bb52279101fa3aca8444"), looks := false }, kinds := [], alts := [], laidByText := true, laidKinds := [.data], laidTests := true, laidLooks := .later }
def SpanAlgebraUptoCardSaid : Prop := Claim7.holds Tryd.pinned (.plain (OpenSpec.upto spanAlgebraSpec)) spanAlgebraUptoCard

/-- THE SECOND FORM's CARD OF 'gangsawlaw02.CodecEncodes'. -/
def codecEncodesUptoCard : Claim7 := { stood := { row := codecEncodesUptoRow, standIns := [], harness := (true, "ff01adb90566ca6e0e89c307637cad96fd79ed63ab24bb52279101fa3aca8444"), looks := false }, kinds := [], alts := [], laidByText := true, laidKinds := [.data, .data, .data], laidTests := true, laidLooks := .later }
def CodecEncodesUptoCardSaid : Prop := Claim7.holds Tryd.pinned (.plain (OpenSpec.upto codecEncodesSpec)) codecEncodesUptoCard

/-- THE SECOND FORM's CARD OF 'gangsawlaw02.CodecDecodes'. -/
def codecDecodesUptoCard : Claim7 := { stood := { row := codecDecodesUptoRow, standIns := [], harness := (true, "ff01adb90566ca6e0e89c307637cad96fd79ed63ab24bb52279101fa3aca8444"), looks := false }, kinds := [], alts := [], laidByText := true, laidKinds := [.data, .data, .data], laidTests := true, laidLooks := .later }
def CodecDecodesUptoCardSaid : Prop := Claim7.holds Tryd.pinned (.plain (OpenSpec.upto codecDecodesSpec)) codecDecodesUptoCard

/-- THE SECOND FORM's CARD OF 'gangsawlaw02.CodecBack'. -/
def codecBackUptoCard : Claim7 := { stood := { row := codecBackUptoRow, standIns := [], harness := (true, "ff01adb90566ca6e0e89c307637cad96fd79ed63ab24bb52279101fa3aca8444"), looks := false }, kinds := [], alts := [], laidByText := true, laidKinds := [.data, .data, .data], laidTests := true, laidLooks := .later }
def CodecBackUptoCardSaid : Prop := Claim7.holds Tryd.pinned (.plain (OpenSpec.upto codecBackSpec)) codecBackUptoCard

/-- THE SECOND FORM's CARD OF 'gangsawlaw02.CodecFirst'. -/
def codecFirstUptoCard : Claim7 := { stood := { row := codecFirstUptoRow, standIns := [], harness := (true, "ff01adb90566ca6e0e89c307637cad96fd79ed63ab24bb52279101fa3aca8444"), looks := false }, kinds := [], alts := [], laidByText := true, laidKinds := [.data, .data, .data], laidTests := true, laidLooks := .later }
def CodecFirstUptoCardSaid : Prop := Claim7.holds Tryd.pinned (.plain (OpenSpec.upto codecFirstSpec)) codecFirstUptoCard

/-- THE SECOND FORM's CARD OF 'gangsawlaw02.CodecCompares'. -/
def codecComparesUptoCard : Claim7 := { stood := { row := codecComparesUptoRow, standIns := [], harness := (true, "ff01adb90566ca6e0e89c307637cad96fd79ed63ab24bb52279101fa3aca8444"), looks := false }, kinds := [], alts := [], laidByText := true, laidKinds := [.data, .data, .data], laidTests := true, laidLooks := .later }
def CodecComparesUptoCardSaid : Prop := Claim7.holds Tryd.pinned (.plain (OpenSpec.upto codecComparesSpec)) codecComparesUptoCard
end Rows
end Go.Proofs.YtbhkbhaepefdgaaDoor
