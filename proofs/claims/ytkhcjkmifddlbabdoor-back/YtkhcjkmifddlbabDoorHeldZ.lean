/- The caller keeps bytes, one list behind another. -/
import Derived.Test.YtkhcjkmifddlbabDoorHeldY
namespace Go.Proofs.YtkhcjkmifddlbabDoor
open Go.RowKit Go.Deep

/-- How far the caller's step has come: k lists more are held, those of xs. -/
structure HK (B0 : Nat) (w : World) (h : Nat) (s : HS) (wi : World) (si : HS) (xs : List Value) (k : Int) : Prop where
  inv : HeldInv wi h si
  n : si.n = s.n + k
  cs : si.cs = s.cs
  rs : si.rs = s.rs
  vB : si.vB.ownBlock = s.vB.ownBlock ∨ ∃ g, si.vB.ownBlock = some g ∧ w.heap.size ≤ g
  B : ∀ e ∈ si.B, e ∈ s.B ∨ ∃ x ∈ xs, e.1 = x.ownBlock
  touch : Touch (Used h s) w wi
  bel : Below B0 w wi
theorem HK.start {B0 : Nat} {w : World} {h : Nat} {s : HS} (H : HeldInv w h s) : HK B0 w h s w s [] 0 :=
  ⟨H, by omega, rfl, rfl, .inl rfl, fun _ he => .inl he, Touch.refl _ _, Below.refl _ _⟩
theorem HK.below {B0 : Nat} {w : World} {h : Nat} {s : HS} {wi wj : World} {si : HS} {xs : List Value} {k : Int} (K : HK B0 w h s wi si xs k) (hB : B0 ≤ w.heap.size) (hb : Below wi.heap.size wi wj) : HK B0 w h s wj si xs k :=
  ⟨K.inv.below hb, K.n, K.cs, K.rs, K.vB, K.B, K.touch.of_below hb, K.bel.trans (hb.mono (Nat.le_trans hB K.touch.size))⟩
theorem used_vB {h : Nat} {s : HS} {b : Nat} (hb : s.vB.ownBlock = some b) : Used h s b := .inr (.inr (.inr (.inr (.inr (.inr (.inr (.inr (.inr (.inr (.inr (.inr (.inr (.inl hb)))))))))))))
theorem HK.step {B0 : Nat} {w : World} {h : Nat} {s : HS} {wi wj : World} {si sj : HS} {xs : List Value} {x : Value} {k : Int} (K : HK B0 w h s wi si xs k) (hB : B0 ≤ w.heap.size) (hh : B0 ≤ h) (hge : ∀ q, x.ownBlock = some q → w.heap.size ≤ q)
    (hT : Touch (byteS h si x) wi wj) (hI : HeldInv wj h sj) (hK : BytesKept wi si sj x) : HK B0 w h s wj sj (x :: xs) (k + 1) := by
  have hsz := K.touch.size
  refine ⟨hI, by rw [hK.n, K.n]; omega, hK.cs.trans K.cs, hK.rs.trans K.rs, ?_, fun e he => ?_, ?_, ?_⟩
  · rcases hK.vB with h1 | ⟨g, h1, h2⟩
    · rw [h1]; exact K.vB
    · exact .inr ⟨g, h1, by omega⟩
  · rcases hK.B e he with h1 | h1
    · rcases K.B e h1 with h2 | ⟨y, hy, h2⟩
      · exact .inl h2
      · exact .inr ⟨y, by simp [hy], h2⟩
    · exact .inr ⟨x, by simp, h1⟩
  · refine K.touch.trans' hT (fun q hq => ?_)
    rcases hq with rfl | hq | hq
    · exact .inl (.inl rfl)
    · rcases K.vB with h1 | ⟨g, h1, h2⟩
      · exact .inl (used_vB (by rw [← h1]; exact hq))
      · rw [h1] at hq; simp at hq; subst hq; exact .inr h2
    · exact .inr (hge q hq)
  · refine K.bel.trans (hT.below (by omega) (fun q hq => ?_))
    rcases hq with rfl | hq | hq
    · exact hh
    · have := (K.inv.oB.lt q hq).1; omega
    · have := hge q hq; omega
theorem HK.free {B0 : Nat} {w : World} {h : Nat} {s : HS} {wi : World} {si : HS} {xs : List Value} {k : Int} (K : HK B0 w h s wi si xs k) (hu : s.UnderB w.heap.size) {q : Nat} (hq : w.heap.size ≤ q) (hne : ∀ x ∈ xs, x.ownBlock ≠ some q) : ∀ e ∈ si.B, e.1 ≠ some q := fun e he e1 => by
  rcases K.B e he with h1 | ⟨x, hx, h1⟩
  · have := hu e h1 q e1; omega
  · exact hne x hx (by rw [← h1]; exact e1)
end Go.Proofs.YtkhcjkmifddlbabDoor
