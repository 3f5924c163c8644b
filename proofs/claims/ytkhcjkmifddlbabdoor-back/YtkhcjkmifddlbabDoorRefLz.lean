/- The document's Lay. -/
import Derived.Test.YtkhcjkmifddlbabDoorLyG
import Derived.Test.YtkhcjkmifddlbabDoorRefLy
namespace Go.Proofs.YtkhcjkmifddlbabDoor
open Go.RowKit Go.Deep

theorem gz_pix {w : World} {p : Nat} {t : TypeId} {a b : Int} {v : Value} (h : w.rowIs p t 3 (gz a b v)) (u : Value) : (w.setCell ⟨p, 2, none⟩ u).rowIs p t 3 (gz a b u) := by
  refine (h.set 2 _).congr fun q hq => ?_
  rcases (show q = 0 ∨ q = 1 ∨ q = 2 by omega) with rfl | rfl | rfl <;> rfl

end Go.Proofs.YtkhcjkmifddlbabDoor
