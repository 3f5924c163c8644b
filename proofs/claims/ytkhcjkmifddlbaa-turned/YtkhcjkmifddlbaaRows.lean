/-
  No cell of these rows narrows 'for every input' (looked for: loops, veiled, ifaces, maps, wideKeys, modest, calm, conditions, laid).
  DERIVED. THE GIVEN ROWS OF THIS SEAT. 10 by the template 'for every input the law returns true; each argument reads behind the call as it read before'; 0 by the template 'total and deterministic' (their statements: YtkhcjkmifddlbaaTotals.lean).
  GIVEN WITH THE SEED: the statements are not yours to turn. If you find one false, say at which input.
  Laid BY PROGRAM, IN A SANDBOX (cutbox-rows.mjs): the forced cells as the released guide's own fill.sh prints them over the translation 3d678d6e00dd2454… (all of the seat's roots in one cut). By AI agents, Wed Nov 11 2026. No macro, syntax, notation, axiom, sorry.
-/
import Derived.Test.YtkhcjkmifddlbaaChecked
import GoSem.Claim
import GoSem.ClaimJoined
import GoSem.ClaimMapViews
import Derived.JoinedTies
import Derived.KernelRfl
namespace Go.Proofs.Ytkhcjkmifddlbaa
/- THE CELL 'sum', in the pinned program and in every row, IS THE sha256 OF THE DUMP (.gsa) THAT YtkhcjkmifddlbaaProg.lean LOADS. Nothing in Lean hashes anything: it is a label: what it is worth is what the hold of that sum in a sandbox is worth. -/
noncomputable def Try.pinned : Pinned := { name := "ytkhcjkmifddlbaa", sum := "3d678d6e00dd24541ac587cd8c7d1b952ecbd922bd94536f0bc3398a740e8c46", checked := Try.checked }
namespace Rows
def none {H : Type} : Left H := { results := [], args := [] }

/-- 'glyphlaw.Outlined': WHATEVER THE INPUT: true; the input reads as it did. -/
def outlinedSpec : ChangeSpec := { name := "outlined", fn := fun _ => fun
  | [d] => { results := [.lit (.bool true)], args := [d] }
  | _ => none }
def outlinedRow : OpenClaim := { program := "ytkhcjkmifddlbaa", sum := "3d678d6e00dd24541ac587cd8c7d1b952ecbd922bd94536f0bc3398a740e8c46", func := "glyph/glyphlaw.Outlined", spec := "outlined", apart := false }
def OutlinedSaid : Prop := outlinedRow.holds Try.pinned (OpenSpec.ofChange outlinedSpec)

/-- ITS FALSE NEIGHBOUR: 'it returns false'. Refute it at one input. -/
def outlinedWrong : ChangeSpec := { name := "outlined", fn := fun _ => fun
  | [d] => { results := [.lit (.bool false)], args := [d] }
  | _ => none }
def OutlinedWrongFalsely : Prop := outlinedRow.holds Try.pinned (OpenSpec.ofChange outlinedWrong)

/-- 'glyphlaw.Placed': WHATEVER THE INPUT: true; the input reads as it did. -/
def placedSpec : ChangeSpec := { name := "placed", fn := fun _ => fun
  | [d1, d2] => { results := [.lit (.bool true)], args := [d1, d2] }
  | _ => none }
def placedRow : OpenClaim := { program := "ytkhcjkmifddlbaa", sum := "3d678d6e00dd24541ac587cd8c7d1b952ecbd922bd94536f0bc3398a740e8c46", func := "glyph/glyphlaw.Placed", spec := "placed", apart := false }
def PlacedSaid : Prop := placedRow.holds Try.pinned (OpenSpec.ofChange placedSpec)

/-- ITS FALSE NEIGHBOUR: 'it returns false'. Refute it at one input. -/
def placedWrong : ChangeSpec := { name := "placed", fn := fun _ => fun
  | [d1, d2] => { results := [.lit (.bool false)], args := [d1, d2] }
  | _ => none }
def PlacedWrongFalsely : Prop := placedRow.holds Try.pinned (OpenSpec.ofChange placedWrong)

/-- 'glyphlaw.Curved': WHATEVER THE INPUT: true; the input reads as it did. -/
def curvedSpec : ChangeSpec := { name := "curved", fn := fun _ => fun
  | [d] => { results := [.lit (.bool true)], args := [d] }
  | _ => none }
def curvedRow : OpenClaim := { program := "ytkhcjkmifddlbaa", sum := "3d678d6e00dd24541ac587cd8c7d1b952ecbd922bd94536f0bc3398a740e8c46", func := "glyph/glyphlaw.Curved", spec := "curved", apart := false }
def CurvedSaid : Prop := curvedRow.holds Try.pinned (OpenSpec.ofChange curvedSpec)

/-- ITS FALSE NEIGHBOUR: 'it returns false'. Refute it at one input. -/
def curvedWrong : ChangeSpec := { name := "curved", fn := fun _ => fun
  | [d] => { results := [.lit (.bool false)], args := [d] }
  | _ => none }
def CurvedWrongFalsely : Prop := curvedRow.holds Try.pinned (OpenSpec.ofChange curvedWrong)

/-- 'glyphlaw.Traced': WHATEVER THE INPUT: true; the input reads as it did. -/
def tracedSpec : ChangeSpec := { name := "traced", fn := fun _ => fun
  | [d1, d2] => { results := [.lit (.bool true)], args := [d1, d2] }
  | _ => none }
def tracedRow : OpenClaim := { program := "ytkhcjkmifddlbaa", sum := "3d678d6e00dd24541ac587cd8c7d1b952ecbd922bd94536f0bc3398a740e8c46", func := "glyph/glyphlaw.Traced", spec := "traced", apart := false }
def TracedSaid : Prop := tracedRow.holds Try.pinned (OpenSpec.ofChange tracedSpec)

/-- ITS FALSE NEIGHBOUR: 'it returns false'. Refute it at one input. -/
def tracedWrong : ChangeSpec := { name := "traced", fn := fun _ => fun
  | [d1, d2] => { results := [.lit (.bool false)], args := [d1, d2] }
  | _ => none }
def TracedWrongFalsely : Prop := tracedRow.holds Try.pinned (OpenSpec.ofChange tracedWrong)

/-- 'glyphlaw.Cut': WHATEVER THE INPUT: true; the input reads as it did. -/
def cutSpec : ChangeSpec := { name := "cut", fn := fun _ => fun
  | [d1, d2] => { results := [.lit (.bool true)], args := [d1, d2] }
  | _ => none }
def cutRow : OpenClaim := { program := "ytkhcjkmifddlbaa", sum := "3d678d6e00dd24541ac587cd8c7d1b952ecbd922bd94536f0bc3398a740e8c46", func := "glyph/glyphlaw.Cut", spec := "cut", apart := false }
def CutSaid : Prop := cutRow.holds Try.pinned (OpenSpec.ofChange cutSpec)

/-- ITS FALSE NEIGHBOUR: 'it returns false'. Refute it at one input. -/
def cutWrong : ChangeSpec := { name := "cut", fn := fun _ => fun
  | [d1, d2] => { results := [.lit (.bool false)], args := [d1, d2] }
  | _ => none }
def CutWrongFalsely : Prop := cutRow.holds Try.pinned (OpenSpec.ofChange cutWrong)

/-- 'glyphkeep.Near': WHATEVER THE INPUT: true; the input reads as it did. -/
def nearSpec : ChangeSpec := { name := "near", fn := fun _ => fun
  | [d1, d2] => { results := [.lit (.bool true)], args := [d1, d2] }
  | _ => none }
def nearRow : OpenClaim := { program := "ytkhcjkmifddlbaa", sum := "3d678d6e00dd24541ac587cd8c7d1b952ecbd922bd94536f0bc3398a740e8c46", func := "glyph/glyphkeep.Near", spec := "near", apart := false }
def NearSaid : Prop := nearRow.holds Try.pinned (OpenSpec.ofChange nearSpec)

/-- ITS FALSE NEIGHBOUR: 'it returns false'. Refute it at one input. -/
def nearWrong : ChangeSpec := { name := "near", fn := fun _ => fun
  | [d1, d2] => { results := [.lit (.bool false)], args := [d1, d2] }
  | _ => none }
def NearWrongFalsely : Prop := nearRow.holds Try.pinned (OpenSpec.ofChange nearWrong)

/-- 'glyphkeep.Boxes': WHATEVER THE INPUT: true; the input reads as it did. -/
def boxesSpec : ChangeSpec := { name := "boxes", fn := fun _ => fun
  | [d1, d2, d3, d4, d5, d6, d7, d8] => { results := [.lit (.bool true)], args := [d1, d2, d3, d4, d5, d6, d7, d8] }
  | _ => none }
def boxesRow : OpenClaim := { program := "ytkhcjkmifddlbaa", sum := "3d678d6e00dd24541ac587cd8c7d1b952ecbd922bd94536f0bc3398a740e8c46", func := "glyph/glyphkeep.Boxes", spec := "boxes", apart := false }
def BoxesSaid : Prop := boxesRow.holds Try.pinned (OpenSpec.ofChange boxesSpec)

/-- ITS FALSE NEIGHBOUR: 'it returns false'. Refute it at one input. -/
def boxesWrong : ChangeSpec := { name := "boxes", fn := fun _ => fun
  | [d1, d2, d3, d4, d5, d6, d7, d8] => { results := [.lit (.bool false)], args := [d1, d2, d3, d4, d5, d6, d7, d8] }
  | _ => none }
def BoxesWrongFalsely : Prop := boxesRow.holds Try.pinned (OpenSpec.ofChange boxesWrong)

/-- 'glyphkeep.Flat': WHATEVER THE INPUT: true; the input reads as it did. -/
def flatSpec : ChangeSpec := { name := "flat", fn := fun _ => fun
  | [d1, d2, d3, d4, d5, d6, d7] => { results := [.lit (.bool true)], args := [d1, d2, d3, d4, d5, d6, d7] }
  | _ => none }
def flatRow : OpenClaim := { program := "ytkhcjkmifddlbaa", sum := "3d678d6e00dd24541ac587cd8c7d1b952ecbd922bd94536f0bc3398a740e8c46", func := "glyph/glyphkeep.Flat", spec := "flat", apart := false }
def FlatSaid : Prop := flatRow.holds Try.pinned (OpenSpec.ofChange flatSpec)

/-- ITS FALSE NEIGHBOUR: 'it returns false'. Refute it at one input. -/
def flatWrong : ChangeSpec := { name := "flat", fn := fun _ => fun
  | [d1, d2, d3, d4, d5, d6, d7] => { results := [.lit (.bool false)], args := [d1, d2, d3, d4, d5, d6, d7] }
  | _ => none }
def FlatWrongFalsely : Prop := flatRow.holds Try.pinned (OpenSpec.ofChange flatWrong)

/-- 'glyphkeep.Close': WHATEVER THE INPUT: true; the input reads as it did. -/
def closeSpec : ChangeSpec := { name := "close", fn := fun _ => fun
  | [d1, d2, d3, d4, d5, d6, d7] => { results := [.lit (.bool true)], args := [d1, d2, d3, d4, d5, d6, d7] }
  | _ => none }
def closeRow : OpenClaim := { program := "ytkhcjkmifddlbaa", sum := "3d678d6e00dd24541ac587cd8c7d1b952ecbd922bd94536f0bc3398a740e8c46", func := "glyph/glyphkeep.Close", spec := "close", apart := false }
def CloseSaid : Prop := closeRow.holds Try.pinned (OpenSpec.ofChange closeSpec)

/-- ITS FALSE NEIGHBOUR: 'it returns false'. Refute it at one input. -/
def closeWrong : ChangeSpec := { name := "close", fn := fun _ => fun
  | [d1, d2, d3, d4, d5, d6, d7] => { results := [.lit (.bool false)], args := [d1, d2, d3, d4, d5, d6, d7] }
  | _ => none }
def CloseWrongFalsely : Prop := closeRow.holds Try.pinned (OpenSpec.ofChange closeWrong)

/-- 'glyphkeep.Turned': WHATEVER THE INPUT: true; the input reads as it did. -/
def turnedSpec : ChangeSpec := { name := "turned", fn := fun _ => fun
  | [d1, d2, d3, d4, d5] => { results := [.lit (.bool true)], args := [d1, d2, d3, d4, d5] }
  | _ => none }
def turnedRow : OpenClaim := { program := "ytkhcjkmifddlbaa", sum := "3d678d6e00dd24541ac587cd8c7d1b952ecbd922bd94536f0bc3398a740e8c46", func := "glyph/glyphkeep.Turned", spec := "turned", apart := false }
def TurnedSaid : Prop := turnedRow.holds Try.pinned (OpenSpec.ofChange turnedSpec)

/-- ITS FALSE NEIGHBOUR: 'it returns false'. Refute it at one input. -/
def turnedWrong : ChangeSpec := { name := "turned", fn := fun _ => fun
  | [d1, d2, d3, d4, d5] => { results := [.lit (.bool false)], args := [d1, d2, d3, d4, d5] }
  | _ => none }
def TurnedWrongFalsely : Prop := turnedRow.holds Try.pinned (OpenSpec.ofChange turnedWrong)

/- THE SECOND FORM. 'bulk': how many values and letters a reading holds, each counted each time it is reached (what is shared counts as often as it is met; a slice's spare places count too). A statement '..UptoSaid' is the law's where the arguments, and the package variables that the reading takes, are together of bulk at most 1048576: NARROWER than '..Said'. Prove '..Said' where nothing that the law and all that it calls make is longer than what came in: it says more and counts as full. Else prove '..UptoSaid'. A law counts once. -/
mutual
def uptoBulk {H : Type} : DataW H → Nat
  | .lit (.string bytes) => bytes.length + 1
  | .lit _ => 1
  | .nil => 1
  | .ptr d => uptoBulk d + 1
  | .slice elems spare => uptoBulkAll elems + uptoBulkAll spare + 1
  | .agg parts => uptoBulkAll parts + 1
  | .iface _ d => uptoBulk d + 1
  | .map entries => uptoBulkEntries entries + 1
  | .held _ => 1
def uptoBulkAll {H : Type} : List (DataW H) → Nat
  | [] => 0
  | d :: r => uptoBulk d + uptoBulkAll r
def uptoBulkEntries {H : Type} : List (Lit × DataW H) → Nat
  | [] => 0
  | x :: r => uptoBulkEntry x + uptoBulkEntries r
def uptoBulkEntry {H : Type} : Lit × DataW H → Nat
  | (.string bytes, d) => bytes.length + uptoBulk d + 1
  | (_, d) => uptoBulk d + 1
 end
def uptoSmall : (H : Type) → List (DataW H) → Bool := fun _ ds => decide (uptoBulkAll ds ≤ 1048576)
def OpenSpec.upto (s : _root_.Go.ChangeSpec) : _root_.Go.OpenSpec := { _root_.Go.OpenSpec.ofChange s with cond := some uptoSmall }

/-- 'glyphlaw.Outlined', WHERE WHAT IT READS IS OF BULK AT MOST 1048576: true; the input reads as it did. -/
def outlinedUptoRow : OpenClaim := { program := "ytkhcjkmifddlbaa", sum := "3d678d6e00dd24541ac587cd8c7d1b952ecbd922bd94536f0bc3398a740e8c46", func := "glyph/glyphlaw.Outlined", spec := "outlined", apart := false, narrowed := true }
def OutlinedUptoSaid : Prop := outlinedUptoRow.holds Try.pinned (OpenSpec.upto outlinedSpec)

/-- 'glyphlaw.Placed', WHERE WHAT IT READS IS OF BULK AT MOST 1048576: true; the input reads as it did. -/
def placedUptoRow : OpenClaim := { program := "ytkhcjkmifddlbaa", sum := "3d678d6e00dd24541ac587cd8c7d1b952ecbd922bd94536f0bc3398a740e8c46", func := "glyph/glyphlaw.Placed", spec := "placed", apart := false, narrowed := true }
def PlacedUptoSaid : Prop := placedUptoRow.holds Try.pinned (OpenSpec.upto placedSpec)

/-- 'glyphlaw.Curved', WHERE WHAT IT READS IS OF BULK AT MOST 1048576: true; the input reads as it did. -/
def curvedUptoRow : OpenClaim := { program := "ytkhcjkmifddlbaa", sum := "3d678d6e00dd24541ac587cd8c7d1b952ecbd922bd94536f0bc3398a740e8c46", func := "glyph/glyphlaw.Curved", spec := "curved", apart := false, narrowed := true }
def CurvedUptoSaid : Prop := curvedUptoRow.holds Try.pinned (OpenSpec.upto curvedSpec)

/-- 'glyphlaw.Traced', WHERE WHAT IT READS IS OF BULK AT MOST 1048576: true; the input reads as it did. -/
def tracedUptoRow : OpenClaim := { program := "ytkhcjkmifddlbaa", sum := "3d678d6e00dd24541ac587cd8c7d1b952ecbd922bd94536f0bc3398a740e8c46", func := "glyph/glyphlaw.Traced", spec := "traced", apart := false, narrowed := true }
def TracedUptoSaid : Prop := tracedUptoRow.holds Try.pinned (OpenSpec.upto tracedSpec)

/-- 'glyphlaw.Cut', WHERE WHAT IT READS IS OF BULK AT MOST 1048576: true; the input reads as it did. -/
def cutUptoRow : OpenClaim := { program := "ytkhcjkmifddlbaa", sum := "3d678d6e00dd24541ac587cd8c7d1b952ecbd922bd94536f0bc3398a740e8c46", func := "glyph/glyphlaw.Cut", spec := "cut", apart := false, narrowed := true }
def CutUptoSaid : Prop := cutUptoRow.holds Try.pinned (OpenSpec.upto cutSpec)

/-- 'glyphkeep.Near', WHERE WHAT IT READS IS OF BULK AT MOST 1048576: true; the input reads as it did. -/
def nearUptoRow : OpenClaim := { program := "ytkhcjkmifddlbaa", sum := "3d678d6e00dd24541ac587cd8c7d1b952ecbd922bd94536f0bc3398a740e8c46", func := "glyph/glyphkeep.Near", spec := "near", apart := false, narrowed := true }
def NearUptoSaid : Prop := nearUptoRow.holds Try.pinned (OpenSpec.upto nearSpec)

/-- 'glyphkeep.Boxes', WHERE WHAT IT READS IS OF BULK AT MOST 1048576: true; the input reads as it did. -/
def boxesUptoRow : OpenClaim := { program := "ytkhcjkmifddlbaa", sum := "3d678d6e00dd24541ac587cd8c7d1b952ecbd922bd94536f0bc3398a740e8c46", func := "glyph/glyphkeep.Boxes", spec := "boxes", apart := false, narrowed := true }
def BoxesUptoSaid : Prop := boxesUptoRow.holds Try.pinned (OpenSpec.upto boxesSpec)

/-- 'glyphkeep.Flat', WHERE WHAT IT READS IS OF BULK AT MOST 1048576: true; the input reads as it did. -/
def flatUptoRow : OpenClaim := { program := "ytkhcjkmifddlbaa", sum := "3d678d6e00dd24541ac587cd8c7d1b952ecbd922bd94536f0bc3398a740e8c46", func := "glyph/glyphkeep.Flat", spec := "flat", apart := false, narrowed := true }
def FlatUptoSaid : Prop := flatUptoRow.holds Try.pinned (OpenSpec.upto flatSpec)

/-- 'glyphkeep.Close', WHERE WHAT IT READS IS OF BULK AT MOST 1048576: true; the input reads as it did. -/
def closeUptoRow : OpenClaim := { program := "ytkhcjkmifddlbaa", sum := "3d678d6e00dd24541ac587cd8c7d1b952ecbd922bd94536f0bc3398a740e8c46", func := "glyph/glyphkeep.Close", spec := "close", apart := false, narrowed := true }
def CloseUptoSaid : Prop := closeUptoRow.holds Try.pinned (OpenSpec.upto closeSpec)

/-- 'glyphkeep.Turned', WHERE WHAT IT READS IS OF BULK AT MOST 1048576: true; the input reads as it did. -/
def turnedUptoRow : OpenClaim := { program := "ytkhcjkmifddlbaa", sum := "3d678d6e00dd24541ac587cd8c7d1b952ecbd922bd94536f0bc3398a740e8c46", func := "glyph/glyphkeep.Turned", spec := "turned", apart := false, narrowed := true }
def TurnedUptoSaid : Prop := turnedUptoRow.holds Try.pinned (OpenSpec.upto turnedSpec)

end Rows
end Go.Proofs.Ytkhcjkmifddlbaa
