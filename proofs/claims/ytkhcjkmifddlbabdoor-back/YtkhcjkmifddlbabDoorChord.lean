/- Plain: the spots of curves. Mixed two by two, or by the document's sum: the same. The least number of steps. Imports nothing of the dump. -/
import Derived.Test.YtkhcjkmifddlbabDoorNum
namespace Go.Proofs.YtkhcjkmifddlbabDoor
namespace Num

/-- u times a and i times b. -/
def mx (u i a b : Int) : Int := u * a + i * b
/-- The document's sums. -/
def qSum (u i a b c : Int) : Int := u * u * a + 2 * i * u * b + i * i * c
def cSum (u i a b c d : Int) : Int := u * u * u * a + 3 * i * u * u * b + 3 * i * i * u * c + i * i * i * d

theorem mx_quad (u i a b c : Int) : mx u i (mx u i a b) (mx u i b c) = qSum u i a b c := by
  unfold mx qSum
  have e1 : u * (u * a + i * b) = u * u * a + i * u * b := by rw [Int.mul_add, ← Int.mul_assoc, ← Int.mul_assoc, Int.mul_comm u i]
  have e2 : i * (u * b + i * c) = i * u * b + i * i * c := by rw [Int.mul_add, ← Int.mul_assoc, ← Int.mul_assoc]
  have e3 : 2 * i * u * b = 2 * (i * u * b) := by rw [Int.mul_assoc 2 i u, Int.mul_assoc 2]
  omega

theorem mx_cubic (u i a b c d : Int) : mx u i (mx u i (mx u i a b) (mx u i b c)) (mx u i (mx u i b c) (mx u i c d)) = cSum u i a b c d := by
  rw [mx_quad u i a b c, mx_quad u i b c d]
  unfold mx qSum cSum
  have e1 : u * (u * u * a + 2 * i * u * b + i * i * c) = u * u * u * a + 2 * (i * u * u * b) + i * i * u * c := by
    rw [Int.mul_add, Int.mul_add]
    have a1 : u * (u * u * a) = u * u * u * a := by simp only [Int.mul_assoc]
    have a2 : u * (2 * i * u * b) = 2 * (i * u * u * b) := by simp only [Int.mul_assoc, Int.mul_left_comm u]
    have a3 : u * (i * i * c) = i * i * u * c := by simp only [Int.mul_assoc, Int.mul_left_comm u]
    omega
  have e2 : i * (u * u * b + 2 * i * u * c + i * i * d) = i * u * u * b + 2 * (i * i * u * c) + i * i * i * d := by
    rw [Int.mul_add, Int.mul_add]
    have a1 : i * (u * u * b) = i * u * u * b := by simp only [Int.mul_assoc]
    have a2 : i * (2 * i * u * c) = 2 * (i * i * u * c) := by simp only [Int.mul_assoc, Int.mul_left_comm i 2]
    have a3 : i * (i * i * d) = i * i * i * d := by simp only [Int.mul_assoc]
    omega
  have e3 : 3 * i * u * u * b = 3 * (i * u * u * b) := by simp only [Int.mul_assoc]
  have e4 : 3 * i * i * u * c = 3 * (i * i * u * c) := by simp only [Int.mul_assoc]
  omega

/-- n is the least number from 1 on with 16nn at least d. -/
def IsSteps (d n : Int) : Prop := 1 ≤ n ∧ d ≤ 16 * n * n ∧ ∀ m, 1 ≤ m → m < n → 16 * m * m < d
theorem IsSteps.unique {d n m : Int} (h : IsSteps d n) (k : IsSteps d m) : n = m := by
  rcases Int.lt_trichotomy n m with h1 | h1 | h1
  · have := k.2.2 n h.1 h1; have := h.2.1; omega
  · exact h1
  · have := h.2.2 m k.1 h1; have := k.2.1; omega
theorem sq_mono {a b : Int} (h0 : 0 ≤ a) (h : a ≤ b) : 16 * a * a ≤ 16 * b * b := by
  have h1 : a * a ≤ b * b := Int.mul_le_mul h h h0 (by omega)
  have e1 : 16 * a * a = 16 * (a * a) := Int.mul_assoc _ _ _
  have e2 : 16 * b * b = 16 * (b * b) := Int.mul_assoc _ _ _
  omega
theorem IsSteps.le {d n B : Int} (h : IsSteps d n) (hB : 1 ≤ B) (hd : d ≤ 16 * B * B) : n ≤ B := by
  rcases Int.lt_or_le B n with h1 | h1
  · have := h.2.2 B hB h1; omega
  · exact h1
end Num
end Go.Proofs.YtkhcjkmifddlbabDoor
