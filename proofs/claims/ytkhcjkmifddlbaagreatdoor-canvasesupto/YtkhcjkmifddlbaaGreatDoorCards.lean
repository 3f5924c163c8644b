/-
  DERIVED. GIVEN WITH THE SEED: THE CARDS: each row of YtkhcjkmifddlbaaGreatDoorRows.lean that lists a variable, with what it lists TIED to the program's text (the seventh form; the later family's looks); each row that meets fmt, with fmt's text TOLD by the authors' own Lean function (tested against real Go, not proved from fmt's source: count such statements apart). THE CARD IS WHAT COUNTS. Prove the row's statement (the work); the ties are given (YtkhcjkmifddlbaaGreatDoorTie.lean); close each card by the builder's one call (the guide's Derived/Test/ToyasCard.lean, 'card_holds'). Laid BY PROGRAM, IN A SANDBOX (cutbox-door.mjs). By AI agents, Wed Nov 11 2026. No macro, syntax, notation, axiom, sorry.
-/
import Derived.Test.YtkhcjkmifddlbaaGreatDoorRows
import GoSem.ClaimSeven
namespace Go.Proofs.YtkhcjkmifddlbaaGreatDoor
namespace Rows

/-- THE TIED CARD OF 'glyphlaw.Canvases'. -/
def canvasesCard : Claim7 := { stood := { row := canvasesRow, standIns := [], harness := (true, "a3384aa1e1d2272feb1fb0c4f9129e6330d064fd45a744978c635a56773ec83d"), looks := false }, kinds := [], alts := [], laidByText := true, laidKinds := [.data, .data, .data], laidTests := true, laidLooks := .later }
def CanvasesCardSaid : Prop := Claim7.holds Tryz.pinned (.plain (OpenSpec.ofChange canvasesSpec)) canvasesCard

/-- THE SECOND FORM's CARD OF 'glyphlaw.Canvases'. -/
def canvasesUptoCard : Claim7 := { stood := { row := canvasesUptoRow, standIns := [], harness := (true, "a3384aa1e1d2272feb1fb0c4f9129e6330d064fd45a744978c635a56773ec83d"), looks := false }, kinds := [], alts := [], laidByText := true, laidKinds := [.data, .data, .data], laidTests := true, laidLooks := .later }
def CanvasesUptoCardSaid : Prop := Claim7.holds Tryz.pinned (.plain (OpenSpec.upto canvasesSpec)) canvasesUptoCard
end Rows
end Go.Proofs.YtkhcjkmifddlbaaGreatDoor
