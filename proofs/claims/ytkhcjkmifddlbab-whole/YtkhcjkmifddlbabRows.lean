/-
  No cell of these rows narrows 'for every input' (looked for: loops, veiled, ifaces, maps, wideKeys, modest, calm, conditions, laid).
  DERIVED. THE GIVEN ROWS OF THIS SEAT. 4 by the template 'for every input the law returns true; each argument reads behind the call as it read before'; 0 by the template 'total and deterministic' (their statements: YtkhcjkmifddlbabTotals.lean).
  GIVEN WITH THE SEED: the statements are not yours to turn. If you find one false, say at which input.
  Laid BY PROGRAM, IN A SANDBOX (cutbox-rows.mjs): the forced cells as the released guide's own fill.sh prints them over the translation 464303c1343b1a0f… (all of the seat's roots in one cut). By AI agents, Wed Nov 11 2026. No macro, syntax, notation, axiom, sorry.
-/
import Derived.Test.YtkhcjkmifddlbabChecked
import GoSem.Claim
import GoSem.ClaimJoined
import GoSem.ClaimMapViews
import Derived.JoinedTies
import Derived.KernelRfl
namespace Go.Proofs.Ytkhcjkmifddlbab
/- THE CELL 'sum', in the pinned program and in every row, IS THE sha256 OF THE DUMP (.gsa) THAT YtkhcjkmifddlbabProg.lean LOADS. Nothing in Lean hashes anything: it is a label: what it is worth is what the hold of that sum in a sandbox is worth. -/
noncomputable def Try.pinned : Pinned := { name := "ytkhcjkmifddlbab", sum := "464303c1343b1a0febdc3ef9ac9286a0a230d615d6514950f5976fa3d807b3cf", checked := Try.checked }
namespace Rows
def none {H : Type} : Left H := { results := [], args := [] }

/-- 'glyphkeep.Shifted': WHATEVER THE INPUT: true; the input reads as it did. -/
def shiftedSpec : ChangeSpec := { name := "shifted", fn := fun _ => fun
  | [d1, d2, d3, d4, d5, d6, d7, d8, d9] => { results := [.lit (.bool true)], args := [d1, d2, d3, d4, d5, d6, d7, d8, d9] }
  | _ => none }
def shiftedRow : OpenClaim := { program := "ytkhcjkmifddlbab", sum := "464303c1343b1a0febdc3ef9ac9286a0a230d615d6514950f5976fa3d807b3cf", func := "glyph/glyphkeep.Shifted", spec := "shifted", apart := false }
def ShiftedSaid : Prop := shiftedRow.holds Try.pinned (OpenSpec.ofChange shiftedSpec)

/-- ITS FALSE NEIGHBOUR: 'it returns false'. Refute it at one input. -/
def shiftedWrong : ChangeSpec := { name := "shifted", fn := fun _ => fun
  | [d1, d2, d3, d4, d5, d6, d7, d8, d9] => { results := [.lit (.bool false)], args := [d1, d2, d3, d4, d5, d6, d7, d8, d9] }
  | _ => none }
def ShiftedWrongFalsely : Prop := shiftedRow.holds Try.pinned (OpenSpec.ofChange shiftedWrong)

/-- 'glyphkeep.Summed': WHATEVER THE INPUT: true; the input reads as it did. -/
def summedSpec : ChangeSpec := { name := "summed", fn := fun _ => fun
  | [d1, d2, d3, d4, d5, d6, d7, d8] => { results := [.lit (.bool true)], args := [d1, d2, d3, d4, d5, d6, d7, d8] }
  | _ => none }
def summedRow : OpenClaim := { program := "ytkhcjkmifddlbab", sum := "464303c1343b1a0febdc3ef9ac9286a0a230d615d6514950f5976fa3d807b3cf", func := "glyph/glyphkeep.Summed", spec := "summed", apart := false }
def SummedSaid : Prop := summedRow.holds Try.pinned (OpenSpec.ofChange summedSpec)

/-- ITS FALSE NEIGHBOUR: 'it returns false'. Refute it at one input. -/
def summedWrong : ChangeSpec := { name := "summed", fn := fun _ => fun
  | [d1, d2, d3, d4, d5, d6, d7, d8] => { results := [.lit (.bool false)], args := [d1, d2, d3, d4, d5, d6, d7, d8] }
  | _ => none }
def SummedWrongFalsely : Prop := summedRow.holds Try.pinned (OpenSpec.ofChange summedWrong)

/-- 'glyphkeep.Whole': WHATEVER THE INPUT: true; the input reads as it did. -/
def wholeSpec : ChangeSpec := { name := "whole", fn := fun _ => fun
  | [d1, d2, d3, d4] => { results := [.lit (.bool true)], args := [d1, d2, d3, d4] }
  | _ => none }
def wholeRow : OpenClaim := { program := "ytkhcjkmifddlbab", sum := "464303c1343b1a0febdc3ef9ac9286a0a230d615d6514950f5976fa3d807b3cf", func := "glyph/glyphkeep.Whole", spec := "whole", apart := false }
def WholeSaid : Prop := wholeRow.holds Try.pinned (OpenSpec.ofChange wholeSpec)

/-- ITS FALSE NEIGHBOUR: 'it returns false'. Refute it at one input. -/
def wholeWrong : ChangeSpec := { name := "whole", fn := fun _ => fun
  | [d1, d2, d3, d4] => { results := [.lit (.bool false)], args := [d1, d2, d3, d4] }
  | _ => none }
def WholeWrongFalsely : Prop := wholeRow.holds Try.pinned (OpenSpec.ofChange wholeWrong)

/-- 'glyphlaw.Laid': WHATEVER THE INPUT: true; the input reads as it did. -/
def laidSpec : ChangeSpec := { name := "laid", fn := fun _ => fun
  | [d1, d2, d3, d4, d5] => { results := [.lit (.bool true)], args := [d1, d2, d3, d4, d5] }
  | _ => none }
def laidRow : OpenClaim := { program := "ytkhcjkmifddlbab", sum := "464303c1343b1a0febdc3ef9ac9286a0a230d615d6514950f5976fa3d807b3cf", func := "glyph/glyphlaw.Laid", spec := "laid", apart := false }
def LaidSaid : Prop := laidRow.holds Try.pinned (OpenSpec.ofChange laidSpec)

/-- ITS FALSE NEIGHBOUR: 'it returns false'. Refute it at one input. -/
def laidWrong : ChangeSpec := { name := "laid", fn := fun _ => fun
  | [d1, d2, d3, d4, d5] => { results := [.lit (.bool false)], args := [d1, d2, d3, d4, d5] }
  | _ => none }
def LaidWrongFalsely : Prop := laidRow.holds Try.pinned (OpenSpec.ofChange laidWrong)

/- THE SECOND FORM. 'bulk': how many values and letters a reading holds, each counted each time it is reached (what is shared counts as often as it is met; a slice's spare places count too). A statement '..UptoSaid' is the law's where the arguments, and the package variables that the reading takes, are together of bulk at most 1048576: NARROWER than '..Said'. Prove '..Said' where nothing that the law and all that it calls make is longer than what came in: it says more and counts as full. Else prove '..UptoSaid'. A law counts once. -/
mutual
def uptoBulk {H : Type} : DataW H → Nat
  | .lit (.string bytes) => bytes.length + 1
  | .lit _ => 1
  | .nil => 1
  | .ptr d => uptoBulk d + 1
  | .slice elems spare => uptoBulkAll elems + uptoBulkAll spare + 1
  | .agg parts => uptoBulkAll parts + 1
  | .iface _ d => uptoBulk d + 1
  | .map entries => uptoBulkEntries entries + 1
  | .held _ => 1
def uptoBulkAll {H : Type} : List (DataW H) → Nat
  | [] => 0
  | d :: r => uptoBulk d + uptoBulkAll r
def uptoBulkEntries {H : Type} : List (Lit × DataW H) → Nat
  | [] => 0
  | x :: r => uptoBulkEntry x + uptoBulkEntries r
def uptoBulkEntry {H : Type} : Lit × DataW H → Nat
  | (.string bytes, d) => bytes.length + uptoBulk d + 1
  | (_, d) => uptoBulk d + 1
 end
def uptoSmall : (H : Type) → List (DataW H) → Bool := fun _ ds => decide (uptoBulkAll ds ≤ 1048576)
def OpenSpec.upto (s : _root_.Go.ChangeSpec) : _root_.Go.OpenSpec := { _root_.Go.OpenSpec.ofChange s with cond := some uptoSmall }

/-- 'glyphkeep.Shifted', WHERE WHAT IT READS IS OF BULK AT MOST 1048576: true; the input reads as it did. -/
def shiftedUptoRow : OpenClaim := { program := "ytkhcjkmifddlbab", sum := "464303c1343b1a0febdc3ef9ac9286a0a230d615d6514950f5976fa3d807b3cf", func := "glyph/glyphkeep.Shifted", spec := "shifted", apart := false, narrowed := true }
def ShiftedUptoSaid : Prop := shiftedUptoRow.holds Try.pinned (OpenSpec.upto shiftedSpec)

/-- 'glyphkeep.Summed', WHERE WHAT IT READS IS OF BULK AT MOST 1048576: true; the input reads as it did. -/
def summedUptoRow : OpenClaim := { program := "ytkhcjkmifddlbab", sum := "464303c1343b1a0febdc3ef9ac9286a0a230d615d6514950f5976fa3d807b3cf", func := "glyph/glyphkeep.Summed", spec := "summed", apart := false, narrowed := true }
def SummedUptoSaid : Prop := summedUptoRow.holds Try.pinned (OpenSpec.upto summedSpec)

/-- 'glyphkeep.Whole', WHERE WHAT IT READS IS OF BULK AT MOST 1048576: true; the input reads as it did. -/
def wholeUptoRow : OpenClaim := { program := "ytkhcjkmifddlbab", sum := "464303c1343b1a0febdc3ef9ac9286a0a230d615d6514950f5976fa3d807b3cf", func := "glyph/glyphkeep.Whole", spec := "whole", apart := false, narrowed := true }
def WholeUptoSaid : Prop := wholeUptoRow.holds Try.pinned (OpenSpec.upto wholeSpec)

/-- 'glyphlaw.Laid', WHERE WHAT IT READS IS OF BULK AT MOST 1048576: true; the input reads as it did. -/
def laidUptoRow : OpenClaim := { program := "ytkhcjkmifddlbab", sum := "464303c1343b1a0febdc3ef9ac9286a0a230d615d6514950f5976fa3d807b3cf", func := "glyph/glyphlaw.Laid", spec := "laid", apart := false, narrowed := true }
def LaidUptoSaid : Prop := laidUptoRow.holds Try.pinned (OpenSpec.upto laidSpec)

end Rows
end Go.Proofs.Ytkhcjkmifddlbab
