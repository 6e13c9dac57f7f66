/-
  No cell of these rows narrows 'for every input' (looked for: loops, veiled, ifaces, maps, wideKeys, modest, calm, conditions, laid).
  DERIVED. THE GIVEN ROWS OF THIS SEAT. 3 by the template 'for every input the law returns true; each argument reads behind the call as it read before'; 0 by the template 'total and deterministic' (their statements: YtllnglofbhmcgaaGreatTotals.lean).
  GIVEN WITH THE SEED: the statements are not yours to turn. If you find one false, say at which input.
  Laid BY PROGRAM, IN A SANDBOX (cutbox-rows.mjs): the forced cells as the released guide's own fill.sh prints them over the translation f8c862353e2ef719… (all of the seat's roots in one cut). By AI agents, Wed Nov 11 2026. No macro, syntax, notation, axiom, sorry.
-/
import Derived.Test.YtllnglofbhmcgaaGreatChecked
import GoSem.Claim
import GoSem.ClaimJoined
import GoSem.ClaimMapViews
import Derived.JoinedTies
import Derived.KernelRfl
namespace Go.Proofs.YtllnglofbhmcgaaGreat
/- THE CELL 'sum', in the pinned program and in every row, IS THE sha256 OF THE DUMP (.gsa) THAT YtllnglofbhmcgaaGreatProg.lean LOADS. Nothing in Lean hashes anything: it is a label: what it is worth is what the hold of that sum in a sandbox is worth. -/
noncomputable def Tryz.pinned : Pinned := { name := "ytllnglofbhmcgaagreat", sum := "f8c862353e2ef7198e758eac18e6b5910dc3ec15d9629c1b227697ce55ddd202", checked := Tryz.checked }
namespace Rows
def none {H : Type} : Left H := { results := [], args := [] }

/-- 'gangsawlaw14.BoringChecks': WHATEVER THE INPUT: true; the input reads as it did. -/
def boringChecksSpec : ChangeSpec := { name := "boringChecks", fn := fun _ => fun
  | [d1, d2] => { results := [.lit (.bool true)], args := [d1, d2] }
  | _ => none }
def boringChecksRow : OpenClaim := { program := "ytllnglofbhmcgaagreat", sum := "f8c862353e2ef7198e758eac18e6b5910dc3ec15d9629c1b227697ce55ddd202", func := "gangsaw/gangsawlaw14.BoringChecks", spec := "boringChecks", unfollowed := true, recurses := true, apart := false }
def BoringChecksSaid : Prop := boringChecksRow.holds Tryz.pinned (OpenSpec.ofChange boringChecksSpec)

/-- ITS FALSE NEIGHBOUR: 'it returns false'. Refute it at one input. -/
def boringChecksWrong : ChangeSpec := { name := "boringChecks", fn := fun _ => fun
  | [d1, d2] => { results := [.lit (.bool false)], args := [d1, d2] }
  | _ => none }
def BoringChecksWrongFalsely : Prop := boringChecksRow.holds Tryz.pinned (OpenSpec.ofChange boringChecksWrong)

/-- 'gangsawlaw14.BoringSays': WHATEVER THE INPUT: true; the input reads as it did. -/
def boringSaysSpec : ChangeSpec := { name := "boringSays", fn := fun _ => fun
  | [d1, d2, d3] => { results := [.lit (.bool true)], args := [d1, d2, d3] }
  | _ => none }
def boringSaysRow : OpenClaim := { program := "ytllnglofbhmcgaagreat", sum := "f8c862353e2ef7198e758eac18e6b5910dc3ec15d9629c1b227697ce55ddd202", func := "gangsaw/gangsawlaw14.BoringSays", spec := "boringSays", unfollowed := true, recurses := true, apart := false }
def BoringSaysSaid : Prop := boringSaysRow.holds Tryz.pinned (OpenSpec.ofChange boringSaysSpec)

/-- ITS FALSE NEIGHBOUR: 'it returns false'. Refute it at one input. -/
def boringSaysWrong : ChangeSpec := { name := "boringSays", fn := fun _ => fun
  | [d1, d2, d3] => { results := [.lit (.bool false)], args := [d1, d2, d3] }
  | _ => none }
def BoringSaysWrongFalsely : Prop := boringSaysRow.holds Tryz.pinned (OpenSpec.ofChange boringSaysWrong)

/-- 'gangsawlaw14.BoringNearest': WHATEVER THE INPUT: true; the input reads as it did. -/
def boringNearestSpec : ChangeSpec := { name := "boringNearest", fn := fun _ => fun
  | [d1, d2] => { results := [.lit (.bool true)], args := [d1, d2] }
  | _ => none }
def boringNearestRow : OpenClaim := { program := "ytllnglofbhmcgaagreat", sum := "f8c862353e2ef7198e758eac18e6b5910dc3ec15d9629c1b227697ce55ddd202", func := "gangsaw/gangsawlaw14.BoringNearest", spec := "boringNearest", unfollowed := true, recurses := true, apart := false }
def BoringNearestSaid : Prop := boringNearestRow.holds Tryz.pinned (OpenSpec.ofChange boringNearestSpec)

/-- ITS FALSE NEIGHBOUR: 'it returns false'. Refute it at one input. -/
def boringNearestWrong : ChangeSpec := { name := "boringNearest", fn := fun _ => fun
  | [d1, d2] => { results := [.lit (.bool false)], args := [d1, d2] }
  | _ => none }
def BoringNearestWrongFalsely : Prop := boringNearestRow.holds Tryz.pinned (OpenSpec.ofChange boringNearestWrong)

/- THE SECOND FORM. 'bulk': how many values and letters a reading holds, each counted each time it is reached (what is shared counts as often as it is met; a slice's spare places count too). A statement '..UptoSaid' is the law's where the arguments, and the package variables that the reading takes, are together of bulk at most 1048576: NARROWER than '..Said'. Prove '..Said' where nothing that the law and all that it calls make is longer than what came in: it says more and counts as full. Else prove '..UptoSaid'. A law counts once. -/
mutual
def uptoBulk {H : Type} : DataW H → Nat
  | .lit (.string bytes) => bytes.length + 1
  | .lit _ => 1
  | .nil => 1
  | .ptr d => uptoBulk d + 1
  | .slice elems spare => uptoBulkAll elems + uptoBulkAll spare + 1
  | .agg parts => uptoBulkAll parts + 1
  | .iface _ d => uptoBulk d + 1
  | .map entries => uptoBulkEntries entries + 1
  | .held _ => 1
def uptoBulkAll {H : Type} : List (DataW H) → Nat
  | [] => 0
  | d :: r => uptoBulk d + uptoBulkAll r
def uptoBulkEntries {H : Type} : List (Lit × DataW H) → Nat
  | [] => 0
  | x :: r => uptoBulkEntry x + uptoBulkEntries r
def uptoBulkEntry {H : Type} : Lit × DataW H → Nat
  | (.string bytes, d) => bytes.length + uptoBulk d + 1
  | (_, d) => uptoBulk d + 1
 end
def uptoSmall : (H : Type) → List (DataW H) → Bool := fun _ ds => decide (uptoBulkAll ds ≤ 1048576)
def OpenSpec.upto (s : _root_.Go.ChangeSpec) : _root_.Go.OpenSpec := { _root_.Go.OpenSpec.ofChange s with cond := some uptoSmall }

/-- 'gangsawlaw14.BoringChecks', WHERE WHAT IT READS IS OF BULK AT MOST 1048576: true; the input reads as it did. -/
def boringChecksUptoRow : OpenClaim := { program := "ytllnglofbhmcgaagreat", sum := "f8c862353e2ef7198e758eac18e6b5910dc3ec15d9629c1b227697ce55ddd202", func := "gangsaw/gangsawlaw14.BoringChecks", spec := "boringChecks", unfollowed := true, recurses := true, apart := false, narrowed := true }
def BoringChecksUptoSaid : Prop := boringChecksUptoRow.holds Tryz.pinned (OpenSpec.upto boringChecksSpec)

/-- 'gangsawlaw14.BoringSays', WHERE WHAT IT READS IS OF BULK AT MOST 1048576: true; the input reads as it did. -/
def boringSaysUptoRow : OpenClaim := { program := "ytllnglofbhmcgaagreat", sum := "f8c862353e2ef7198e758eac18e6b5910dc3ec15d9629c1b227697ce55ddd202", func := "gangsaw/gangsawlaw14.BoringSays", spec := "boringSays", unfollowed := true, recurses := true, apart := false, narrowed := true }
def BoringSaysUptoSaid : Prop := boringSaysUptoRow.holds Tryz.pinned (OpenSpec.upto boringSaysSpec)

/-- 'gangsawlaw14.BoringNearest', WHERE WHAT IT READS IS OF BULK AT MOST 1048576: true; the input reads as it did. -/
def boringNearestUptoRow : OpenClaim := { program := "ytllnglofbhmcgaagreat", sum := "f8c862353e2ef7198e758eac18e6b5910dc3ec15d9629c1b227697ce55ddd202", func := "gangsaw/gangsawlaw14.BoringNearest", spec := "boringNearest", unfollowed := true, recurses := true, apart := false, narrowed := true }
def BoringNearestUptoSaid : Prop := boringNearestUptoRow.holds Tryz.pinned (OpenSpec.upto boringNearestSpec)

end Rows
end Go.Proofs.YtllnglofbhmcgaaGreat
