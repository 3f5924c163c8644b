/- What is held at the start. -/
import Derived.Test.YtkhcjkmifddlbabDoorHeld
namespace Go.Proofs.YtkhcjkmifddlbabDoor
open Go.RowKit Go.Deep

def hs0 : HS := ⟨0, .slice none 0 0, .slice none 0 0, .slice none 0 0, .slice none 0 0, .slice none 0 0, .slice none 0 0, .slice none 0 0, .slice none 0 0, [], [], [], [], [], []⟩
theorem held_start (w : World) : HeldInv (w.alloc (.cells #[.slice none 0 0, .slice none 0 0, .int .i64 0, .slice none 0 0, .slice none 0 0, .slice none 0 0, .slice none 0 0, .slice none 0 0, .slice none 0 0] 37)) w.heap.size hs0 := by
  refine { wd := ?wd, oP := World.ownsRow_nil _ _ _ _, oO := World.ownsRow_nil _ _ _ _, oS := World.ownsRow_nil _ _ _ _, oT := World.ownsRow_nil _ _ _ _, oR := World.ownsRow_nil _ _ _ _, eP := (fun e h => by cases h), eO := (fun e h => by cases h), eI := (fun e h => by cases h), eS := (fun e h => by cases h), eN := (fun e h => by cases h), eT := (fun e h => by cases h), eU := (fun e h => by cases h), eR := (fun e h => by cases h), eJ := (fun e h => by cases h), eM := (fun e h => by cases h), lo := by simp [hs0], hi := by simp [hs0], mP := (fun e h => by cases h), mO := (fun e h => by cases h), mS := (fun e h => by cases h), mT := (fun e h => by cases h), mR := (fun e h => by cases h), oB := World.ownsRow_nil _ _ _ _, eB := (fun e h => by cases h), eV := (fun e h => by cases h), mB := (fun e h => by cases h) }
  case wd =>
    refine World.rowIs_alloc w _ _ (wc hs0) (fun q hq => ?_)
    have hq : q < 9 := hq
    rcases (show q = 0 ∨ q = 1 ∨ q = 2 ∨ q = 3 ∨ q = 4 ∨ q = 5 ∨ q = 6 ∨ q = 7 ∨ q = 8 by omega) with rfl | rfl | rfl | rfl | rfl | rfl | rfl | rfl | rfl <;> rfl
end Go.Proofs.YtkhcjkmifddlbabDoor
