/-
  No cell of these rows narrows 'for every input' (looked for: loops, veiled, ifaces, maps, wideKeys, modest, calm, conditions, laid).
  DERIVED. THE GIVEN ROWS OF THIS SEAT. 4 by the template 'for every input the law returns true; each argument reads behind the call as it read before'; 0 by the template 'total and deterministic' (their statements: YtcjgobephedpdaaTotals.lean).
  GIVEN WITH THE SEED: the statements are not yours to turn. If you find one false, say at which input.
  Laid BY PROGRAM, IN A SANDBOX (cutbox-rows.mjs): the forced cells as the released guide's own fill.sh prints them over the translation cdf64b3e4415574f… (all of the seat's roots in one cut). By AI agents, Wed Nov 11 2026. No macro, syntax, notation, axiom, sorry.
-/
import Derived.Test.YtcjgobephedpdaaChecked
import GoSem.Claim
import GoSem.ClaimJoined
import GoSem.ClaimMapViews
import Derived.JoinedTies
import Derived.KernelRfl
namespace Go.Proofs.Ytcjgobephedpdaa
/- THE CELL 'sum', in the pinned program and in every row, IS THE sha256 OF THE DUMP (.gsa) THAT YtcjgobephedpdaaProg.lean LOADS. Nothing in Lean hashes anything: it is a label: what it is worth is what the hold of that sum in a sandbox is worth. -/
noncomputable def Try.pinned : Pinned := { name := "ytcjgobephedpdaa", sum := "cdf64b3e4415574fee0ef8b9e751c3de001e6a6dc9bcd4090af1c22dae462d42", checked := Try.checked }
namespace Rows
def none {H : Type} : Left H := { results := [], args := [] }

/-- 'gangsawlaw06.BoxSubtracts': WHATEVER THE INPUT: true; the input reads as it did. -/
def boxSubtractsSpec : ChangeSpec := { name := "boxSubtracts", fn := fun _ => fun
  | [d1, d2, d3] => { results := [.lit (.bool true)], args := [d1, d2, d3] }
  | _ => none }
def boxSubtractsRow : OpenClaim := { program := "ytcjgobephedpdaa", sum := "cdf64b3e4415574fee0ef8b9e751c3de001e6a6dc9bcd4090af1c22dae462d42", func := "gangsaw/gangsawlaw06.BoxSubtracts", spec := "boxSubtracts", unfollowed := true, recurses := true, apart := false }
def BoxSubtractsSaid : Prop := boxSubtractsRow.holds Try.pinned (OpenSpec.ofChange boxSubtractsSpec)

/-- ITS FALSE NEIGHBOUR: 'it returns false'. Refute it at one input. -/
def boxSubtractsWrong : ChangeSpec := { name := "boxSubtracts", fn := fun _ => fun
  | [d1, d2, d3] => { results := [.lit (.bool false)], args := [d1, d2, d3] }
  | _ => none }
def BoxSubtractsWrongFalsely : Prop := boxSubtractsRow.holds Try.pinned (OpenSpec.ofChange boxSubtractsWrong)

/-- 'gangsawlaw06.BoxCounts': WHATEVER THE INPUT: true; the input reads as it did. -/
def boxCountsSpec : ChangeSpec := { name := "boxCounts", fn := fun _ => fun
  | [d1, d2] => { results := [.lit (.bool true)], args := [d1, d2] }
  | _ => none }
def boxCountsRow : OpenClaim := { program := "ytcjgobephedpdaa", sum := "cdf64b3e4415574fee0ef8b9e751c3de001e6a6dc9bcd4090af1c22dae462d42", func := "gangsaw/gangsawlaw06.BoxCounts", spec := "boxCounts", unfollowed := true, recurses := true, apart := false }
def BoxCountsSaid : Prop := boxCountsRow.holds Try.pinned (OpenSpec.ofChange boxCountsSpec)

/-- ITS FALSE NEIGHBOUR: 'it returns false'. Refute it at one input. -/
def boxCountsWrong : ChangeSpec := { name := "boxCounts", fn := fun _ => fun
  | [d1, d2] => { results := [.lit (.bool false)], args := [d1, d2] }
  | _ => none }
def BoxCountsWrongFalsely : Prop := boxCountsRow.holds Try.pinned (OpenSpec.ofChange boxCountsWrong)

/-- 'gangsawlaw06.BoxVolumes': WHATEVER THE INPUT: true; the input reads as it did. -/
def boxVolumesSpec : ChangeSpec := { name := "boxVolumes", fn := fun _ => fun
  | [d1, d2, d3] => { results := [.lit (.bool true)], args := [d1, d2, d3] }
  | _ => none }
def boxVolumesRow : OpenClaim := { program := "ytcjgobephedpdaa", sum := "cdf64b3e4415574fee0ef8b9e751c3de001e6a6dc9bcd4090af1c22dae462d42", func := "gangsaw/gangsawlaw06.BoxVolumes", spec := "boxVolumes", unfollowed := true, recurses := true, apart := false }
def BoxVolumesSaid : Prop := boxVolumesRow.holds Try.pinned (OpenSpec.ofChange boxVolumesSpec)

/-- ITS FALSE NEIGHBOUR: 'it returns false'. Refute it at one input. -/
def boxVolumesWrong : ChangeSpec := { name := "boxVolumes", fn := fun _ => fun
  | [d1, d2, d3] => { results := [.lit (.bool false)], args := [d1, d2, d3] }
  | _ => none }
def BoxVolumesWrongFalsely : Prop := boxVolumesRow.holds Try.pinned (OpenSpec.ofChange boxVolumesWrong)

/-- 'gangsawlaw06.BoxGap': WHATEVER THE INPUT: true; the input reads as it did. -/
def boxGapSpec : ChangeSpec := { name := "boxGap", fn := fun _ => fun
  | [d1, d2, d3] => { results := [.lit (.bool true)], args := [d1, d2, d3] }
  | _ => none }
def boxGapRow : OpenClaim := { program := "ytcjgobephedpdaa", sum := "cdf64b3e4415574fee0ef8b9e751c3de001e6a6dc9bcd4090af1c22dae462d42", func := "gangsaw/gangsawlaw06.BoxGap", spec := "boxGap", unfollowed := true, recurses := true, apart := false }
def BoxGapSaid : Prop := boxGapRow.holds Try.pinned (OpenSpec.ofChange boxGapSpec)

/-- ITS FALSE NEIGHBOUR: 'it returns false'. Refute it at one input. -/
def boxGapWrong : ChangeSpec := { name := "boxGap", fn := fun _ => fun
  | [d1, d2, d3] => { results := [.lit (.bool false)], args := [d1, d2, d3] }
  | _ => none }
def BoxGapWrongFalsely : Prop := boxGapRow.holds Try.pinned (OpenSpec.ofChange boxGapWrong)

/- THE SECOND FORM. 'bulk': how many values and letters a reading holds, each counted each time it is reached (what is shared counts as often as it is met; a slice's spare places count too). A statement '..UptoSaid' is the law's where the arguments, and the package variables that the reading takes, are together of bulk at most 1048576: NARROWER than '..Said'. Prove '..Said' where nothing that the law and all that it calls make is longer than what came in: it says more and counts as full. Else prove '..UptoSaid'. A law counts once. -/
mutual
def uptoBulk {H : Type} : DataW H → Nat
  | .lit (.string bytes) => bytes.length + 1
  | .lit _ => 1
  | .nil => 1
  | .ptr d => uptoBulk d + 1
  | .slice elems spare => uptoBulkAll elems + uptoBulkAll spare + 1
  | .agg parts => uptoBulkAll parts + 1
  | .iface _ d => uptoBulk d + 1
  | .map entries => uptoBulkEntries entries + 1
  | .held _ => 1
def uptoBulkAll {H : Type} : List (DataW H) → Nat
  | [] => 0
  | d :: r => uptoBulk d + uptoBulkAll r
def uptoBulkEntries {H : Type} : List (Lit × DataW H) → Nat
  | [] => 0
  | x :: r => uptoBulkEntry x + uptoBulkEntries r
def uptoBulkEntry {H : Type} : Lit × DataW H → Nat
  | (.string bytes, d) => bytes.length + uptoBulk d + 1
  | (_, d) => uptoBulk d + 1
 end
def uptoSmall : (H : Type) → List (DataW H) → Bool := fun _ ds => decide (uptoBulkAll ds ≤ 1048576)
def OpenSpec.upto (s : _root_.Go.ChangeSpec) : _root_.Go.OpenSpec := { _root_.Go.OpenSpec.ofChange s with cond := some uptoSmall }

/-- 'gangsawlaw06.BoxSubtracts', WHERE WHAT IT READS IS OF BULK AT MOST 1048576: true; the input reads as it did. -/
def boxSubtractsUptoRow : OpenClaim := { program := "ytcjgobephedpdaa", sum := "cdf64b3e4415574fee0ef8b9e751c3de001e6a6dc9bcd4090af1c22dae462d42", func := "gangsaw/gangsawlaw06.BoxSubtracts", spec := "boxSubtracts", unfollowed := true, recurses := true, apart := false, narrowed := true }
def BoxSubtractsUptoSaid : Prop := boxSubtractsUptoRow.holds Try.pinned (OpenSpec.upto boxSubtractsSpec)

/-- 'gangsawlaw06.BoxCounts', WHERE WHAT IT READS IS OF BULK AT MOST 1048576: true; the input reads as it did. -/
def boxCountsUptoRow : OpenClaim := { program := "ytcjgobephedpdaa", sum := "cdf64b3e4415574fee0ef8b9e751c3de001e6a6dc9bcd4090af1c22dae462d42", func := "gangsaw/gangsawlaw06.BoxCounts", spec := "boxCounts", unfollowed := true, recurses := true, apart := false, narrowed := true }
def BoxCountsUptoSaid : Prop := boxCountsUptoRow.holds Try.pinned (OpenSpec.upto boxCountsSpec)

/-- 'gangsawlaw06.BoxVolumes', WHERE WHAT IT READS IS OF BULK AT MOST 1048576: true; the input reads as it did. -/
def boxVolumesUptoRow : OpenClaim := { program := "ytcjgobephedpdaa", sum := "cdf64b3e4415574fee0ef8b9e751c3de001e6a6dc9bcd4090af1c22dae462d42", func := "gangsaw/gangsawlaw06.BoxVolumes", spec := "boxVolumes", unfollowed := true, recurses := true, apart := false, narrowed := true }
def BoxVolumesUptoSaid : Prop := boxVolumesUptoRow.holds Try.pinned (OpenSpec.upto boxVolumesSpec)

/-- 'gangsawlaw06.BoxGap', WHERE WHAT IT READS IS OF BULK AT MOST 1048576: true; the input reads as it did. -/
def boxGapUptoRow : OpenClaim := { program := "ytcjgobephedpdaa", sum := "cdf64b3e4415574fee0ef8b9e751c3de001e6a6dc9bcd4090af1c22dae462d42", func := "gangsaw/gangsawlaw06.BoxGap", spec := "boxGap", unfollowed := true, recurses := true, apart := false, narrowed := true }
def BoxGapUptoSaid : Prop := boxGapUptoRow.holds Try.pinned (OpenSpec.upto boxGapSpec)

end Rows
end Go.Proofs.Ytcjgobephedpdaa
