/-
  DERIVED. GIVEN WITH THE SEED: THE CARDS: each row of YtkhcjkmifddlbabDoorRows.lean that lists a variable, with what it lists TIED to the program's text (the seventh form; the later family's looks); each row that meets fmt, with fmt's text TOLD by the authors' own Lean function (tested against real Go, not proved from fmt's source: count such statements apart). THE CARD IS WHAT COUNTS. Prove the row's statement (the work); the ties are given (YtkhcjkmifddlbabDoorTie.lean); close each card by the builder's one call (the guide's Derived/Test/ToyasCard.lean, 'card_holds'). Laid BY PROGRAM, IN A SANDBOX (cutbox-door.mjs). By AI agents, Wed Nov 11 2026. No macro, syntax, notation, axiom, sorry.
-/
import Derived.Test.YtkhcjkmifddlbabDoorRows
import GoSem.ClaimSeven
namespace Go.Proofs.YtkhcjkmifddlbabDoor
namespace Rows

/-- THE TIED CARD OF 'glyphlaw.Texted'. -/
def textedCard : Claim7 := { stood := { row := textedRow, standIns := [], harness := (true, "0a0bc2c86184cd9fda0eb9aca3d5ab51523c8555ecb031f945484566124a62fe"), looks := false }, kinds := [], alts := [], laidByText := true, laidKinds := [.data, .data, .data], laidTests := true, laidLooks := .later }
def TextedCardSaid : Prop := Claim7.holds Tryd.pinned (.plain (OpenSpec.ofChange textedSpec)) textedCard

/-- THE TIED CARD OF 'glyphkeep.Back'. -/
def backCard : Claim7 := { stood := { row := backRow, standIns := [], harness := (true, "0a0bc2c86184cd9fda0eb9aca3d5ab51523c8555ecb031f945484566124a62fe"), looks := false }, kinds := [], alts := [], laidByText := true, laidKinds := [.data, .data, .data], laidTests := true, laidLooks := .later }
def BackCardSaid : Prop := Claim7.holds Tryd.pinned (.plain (OpenSpec.ofChange backSpec)) backCard

/-- THE SECOND FORM's CARD OF 'glyphlaw.Texted'. -/
def textedUptoCard : Claim7 := { stood := { row := textedUptoRow, standIns := [], harness := (true, "0a0bc2c86184cd9fda0eb9aca3d5ab51523c8555ecb031f945484566124a62fe"), looks := false }, kinds := [], alts := [], laidByText := true, laidKinds := [.data, .data, .data], laidTests := true, laidLooks := .later }
def TextedUptoCardSaid : Prop := Claim7.holds Tryd.pinned (.plain (OpenSpec.upto textedSpec)) textedUptoCard

/-- THE SECOND FORM's CARD OF 'glyphkeep.Back'. -/
def backUptoCard : Claim7 := { stood := { row := backUptoRow, standIns := [], harness := (true, "0a0bc2c86184cd9fda0eb9aca3d5ab51523c8555ecb031f945484566124a62fe"), looks := false }, kinds := [], alts := [], laidByText := true, laidKinds := [.data, .data, .data], laidTests := true, laidLooks := .later }
def BackUptoCardSaid : Prop := Claim7.holds Tryd.pinned (.plain (OpenSpec.upto backSpec)) backUptoCard
end Rows
end Go.Proofs.YtkhcjkmifddlbabDoor
