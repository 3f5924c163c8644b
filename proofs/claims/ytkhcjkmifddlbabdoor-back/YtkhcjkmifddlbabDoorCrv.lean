/- The program's Curve: what it calls. -/
import Derived.Test.YtkhcjkmifddlbabDoorPlace
import Derived.Test.YtkhcjkmifddlbabDoorChordB
namespace Go.Proofs.YtkhcjkmifddlbabDoor
open Go.RowKit

/-- The loop of chords. -/
theorem steps_round {d q S : Int} (h : Num.IsSteps d S) (h1 : 1 ≤ q) (h2 : q ≤ S) : (16 * q * q < d → q + 1 ≤ S) ∧ (¬ 16 * q * q < d → q = S) := by
  constructor
  · intro h3
    rcases Int.lt_or_le q S with h4 | h4
    · omega
    · have : q = S := by omega
      subst this
      have := h.2.1
      omega
  · intro h3
    rcases Int.lt_or_le q S with h4 | h4
    · have := h.2.2 q h1 h4; omega
    · omega
end Go.Proofs.YtkhcjkmifddlbabDoor
