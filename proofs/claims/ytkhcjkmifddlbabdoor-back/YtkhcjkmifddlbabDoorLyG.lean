/- Lay, as it is called: the program's. -/
import Derived.Test.YtkhcjkmifddlbabDoorLy
namespace Go.Proofs.YtkhcjkmifddlbabDoor
open Go.RowKit Go.Deep

theorem layE_cases (UW UH : Int) (n : Nat) (OW OH : Int) (m : Nat) (way : Int) : Num.layE UW UH n OW OH m way 8 9 ≠ 0 ∨ (Num.layE UW UH n OW OH m way 8 9 = 0 ∧ Num.picB UW UH n = true ∧ Num.picB OW OH m = true ∧ 0 ≤ way ∧ way ≤ 3) := by
  unfold Num.layE
  by_cases h1 : Num.picB UW UH n = true ∧ Num.picB OW OH m = true
  · rw [if_pos h1]
    by_cases h2 : 0 ≤ way ∧ way ≤ 3
    · rw [if_pos h2]; exact .inr ⟨rfl, h1.1, h1.2, h2.1, h2.2⟩
    · rw [if_neg h2]; exact .inl (by decide)
  · rw [if_neg h1]; exact .inl (by decide)

theorem layR_len (UW UH : Int) (n : Nat) (OW OH : Int) (m : Nat) (U O : Nat → Int) (x y way : Int) : (layR UW UH n OW OH m U O x y way).2.2.length ≤ 4096 := by
  unfold layR
  rcases layE_cases UW UH n OW OH m way with h | ⟨h, p1, _, _, _⟩
  · rw [if_neg h]; simp
  · rw [if_pos h]
    obtain ⟨a, b, rfl, rfl, h1, h2, h3, h4, _⟩ := picB_yes p1
    show (Num.layL _ _ _ _ _ _ _ _ _).length ≤ 4096
    rw [Num.layL_len]
    exact Num.mul_le_sq (by omega) (by omega)

end Go.Proofs.YtkhcjkmifddlbabDoor
