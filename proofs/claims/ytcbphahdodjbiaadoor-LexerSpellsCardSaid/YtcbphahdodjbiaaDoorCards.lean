/-
  DERIVED. GIVEN WITH THE SEED: THE CARDS: each row of YtcbphahdodjbiaaDoorRows.lean that lists a variable, with what it lists TIED to the program's text (the seventh form; the later family's looks); each row that meets fmt, with fmt's text TOLD by the authors' own Lean function (tested against real Go, not proved from fmt's source: count such statements apart). THE CARD IS WHAT COUNTS. Prove the row's statement (the work); the ties are given (YtcbphahdodjbiaaDoorTie.lean); close each card by the builder's one call (the guide's Derived/Test/ToyasCard.lean, 'card_holds'). Laid BY PROGRAM, IN A SANDBOX (cutbox-door.mjs). By AI agents, Wed Nov 11 2026. No macro, syntax, notation, axiom, sorry.
-/
import Derived.Test.YtcbphahdodjbiaaDoorRows
import GoSem.ClaimSeven
namespace Go.Proofs.YtcbphahdodjbiaaDoor
namespace Rows

/-- THE TIED CARD OF 'gangsawlaw09.LexerSpells'. -/
def lexerSpellsCard : Claim7 := { stood := { row := lexerSpellsRow, standIns := [], harness := (true, "219e5eb532279e7233a7370aad4cac44429aa482a3f82003898163080c761d30"), looks := true }, kinds := [], alts := [], laidByText := true, laidKinds := [.data, .data, .data, .sentinel, .sentinel], laidTests := true, laidLooks := .later }
def LexerSpellsCardSaid : Prop := Claim7.holds Tryd.pinned (.plain (OpenSpec.ofChange lexerSpellsSpec)) lexerSpellsCard

/-- THE SECOND FORM's CARD OF 'gangsawlaw09.LexerSpells'. -/
def lexerSpellsUptoCard : Claim7 := { stood := { row := lexerSpellsUptoRow, standIns := [], harness := (true, "219e5eb532279e7233a7370aad4cac44429aa482a3f82003898163080c761d30"), looks := true }, kinds := [], alts := [], laidByText := true, laidKinds := [.data, .data, .data, .sentinel, .sentinel], laidTests := true, laidLooks := .later }
def LexerSpellsUptoCardSaid : Prop := Claim7.holds Tryd.pinned (.plain (OpenSpec.upto lexerSpellsSpec)) lexerSpellsUptoCard
end Rows
end Go.Proofs.YtcbphahdodjbiaaDoor
