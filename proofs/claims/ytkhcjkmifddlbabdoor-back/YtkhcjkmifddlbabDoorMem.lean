/- How rings and outlines lie in memory. -/
import Derived.Test.YtkhcjkmifddlbabDoorOut
import Derived.WalkKit
import Derived.WalkSpells
import Derived.WalkLawsBesides
namespace Go.Proofs.YtkhcjkmifddlbabDoor
open Go.RowKit

/-- The n points of a ring: X k, Y k, of kind K k. -/
def RingAt (w : World) (a : Option Addr) (n : Nat) (X Y K : Nat → Int) : Prop :=
  n = 0 ∨ ∃ b off, a = some ⟨b, off, none⟩ ∧ ∀ k, k < n → w.cell? ⟨b, off + k * 3, none⟩ = some (.int .i64 (X k)) ∧ w.cell? ⟨b, off + k * 3 + 1, none⟩ = some (.int .i64 (Y k)) ∧ w.cell? ⟨b, off + k * 3 + 2, none⟩ = some (.int .i64 (K k))

theorem RingAt.below {w w' : World} {a : Option Addr} {n : Nat} {X Y K : Nat → Int} (h : RingAt w a n X Y K) (hb : Below w.heap.size w w') : RingAt w' a n X Y K := by
  rcases h with h | ⟨b, off, ha, hc⟩
  · exact Or.inl h
  · refine Or.inr ⟨b, off, ha, fun k hk => ?_⟩
    obtain ⟨c0, c1, c2⟩ := hc k hk
    have hlt : b < w.heap.size := World.block_lt_of_cell? w _ c0
    exact ⟨(hb.cell (p := ⟨b, _, none⟩) hlt).trans c0, (hb.cell (p := ⟨b, _, none⟩) hlt).trans c1, (hb.cell (p := ⟨b, _, none⟩) hlt).trans c2⟩

/-- The N contours of an outline: contour i has n i points. -/
def OutAt (w : World) (a : Option Addr) (N : Nat) (A : Nat → Option Addr) (C : Nat → Nat) (n : Nat → Nat) (X Y K : Nat → Nat → Int) : Prop :=
  (N = 0 ∨ ∃ b off, a = some ⟨b, off, none⟩ ∧ ∀ i, i < N → w.cell? ⟨b, off + i, none⟩ = some (.slice (A i) (n i) (C i))) ∧ ∀ i, i < N → RingAt w (A i) (n i) (X i) (Y i) (K i)

theorem OutAt.below {w w' : World} {a : Option Addr} {N : Nat} {A : Nat → Option Addr} {C n : Nat → Nat} {X Y K : Nat → Nat → Int} (h : OutAt w a N A C n X Y K) (hb : Below w.heap.size w w') : OutAt w' a N A C n X Y K := by
  refine ⟨?_, fun i hi => (h.2 i hi).below hb⟩
  rcases h.1 with h | ⟨b, off, ha, hc⟩
  · exact Or.inl h
  · refine Or.inr ⟨b, off, ha, fun i hi => ?_⟩
    have hlt : b < w.heap.size := World.block_lt_of_cell? w _ (hc i hi)
    exact (hb.cell (p := ⟨b, _, none⟩) hlt).trans (hc i hi)
end Go.Proofs.YtkhcjkmifddlbabDoor
