/- Plain mathematics of rounding half up. Imports nothing of the dump. -/
import Derived.KernelRfl
namespace Go.Proofs.YtkhcjkmifddlbabDoor
namespace Num

/-- n/d, rounded half up (d above 0). -/
def hu (n d : Int) : Int := (2 * n + d) / (2 * d)

theorem hu_of (n d q : Int) (hd : 0 < d) (h1 : 2 * d * q ≤ 2 * n + d) (h2 : 2 * n + d < 2 * d * q + 2 * d) : hu n d = q := by
  unfold hu
  have := (Int.ediv_emod_unique (a := 2 * n + d) (b := 2 * d) (q := q) (r := 2 * n + d - 2 * d * q) (by omega)).2 ⟨by omega, by omega, by omega⟩
  exact this.1

theorem tdiv_facts (n d : Int) (hd : 0 < d) :
    d * n.tdiv d + n.tmod d = n ∧ -d < n.tmod d ∧ n.tmod d < d ∧ (0 ≤ n → 0 ≤ n.tmod d) ∧ (n < 0 → n.tmod d ≤ 0) := by
  have e := Int.mul_tdiv_add_tmod n d
  refine ⟨e, ?_, ?_, ?_, ?_⟩
  · by_cases h : 0 ≤ n
    · have := Int.tmod_nonneg d h; omega
    · have h2 : 0 ≤ -n := by omega
      have := Int.tmod_lt_of_pos (-n) hd
      rw [Int.neg_tmod] at this; omega
  · exact Int.tmod_lt_of_pos n hd
  · intro h; exact Int.tmod_nonneg d h
  · intro h
    have := Int.tmod_nonneg d (show 0 ≤ -n by omega)
    rw [Int.neg_tmod] at this; omega

/-- The four ways of HalfUp's text. -/
theorem hu_tdiv (n d : Int) (hd : 0 < d) :
    (n.tmod d < 0 → ¬ (d - (n.tmod d + d) ≤ n.tmod d + d) → hu n d = n.tdiv d - 1) ∧
    (n.tmod d < 0 → d - (n.tmod d + d) ≤ n.tmod d + d → hu n d = n.tdiv d) ∧
    (¬ n.tmod d < 0 → ¬ (d - n.tmod d ≤ n.tmod d) → hu n d = n.tdiv d) ∧
    (¬ n.tmod d < 0 → d - n.tmod d ≤ n.tmod d → hu n d = n.tdiv d + 1) := by
  obtain ⟨e, h1, h2, _, _⟩ := tdiv_facts n d hd
  have e1 : 2 * d * (n.tdiv d - 1) = 2 * (d * n.tdiv d) - 2 * d := by rw [Int.mul_sub, Int.mul_assoc]; omega
  have e2 : 2 * d * (n.tdiv d + 1) = 2 * (d * n.tdiv d) + 2 * d := by rw [Int.mul_add, Int.mul_assoc]; omega
  have e3 : 2 * d * (n.tdiv d) = 2 * (d * n.tdiv d) := by rw [Int.mul_assoc]
  refine ⟨?_, ?_, ?_, ?_⟩ <;> intro a b <;> apply hu_of n d _ hd <;> omega

theorem tdiv_le (n d : Int) (hd : 0 < d) (B : Int) (h1 : -B ≤ n) (h2 : n ≤ B) : -B ≤ n.tdiv d ∧ n.tdiv d ≤ B := by
  obtain ⟨e, l1, l2, l3, l4⟩ := tdiv_facts n d hd
  by_cases h : 0 ≤ n
  · have p : 0 ≤ n.tdiv d := Int.tdiv_nonneg h (by omega)
    have : n.tdiv d ≤ d * n.tdiv d := by
      have := Int.mul_le_mul_of_nonneg_right (show (1 : Int) ≤ d by omega) p
      omega
    have := l3 h
    omega
  · have p : 0 ≤ (-n).tdiv d := Int.tdiv_nonneg (by omega) (by omega)
    rw [Int.neg_tdiv] at p
    have : (-(n.tdiv d)) ≤ d * (-(n.tdiv d)) := by
      have := Int.mul_le_mul_of_nonneg_right (show (1 : Int) ≤ d by omega) p
      omega
    rw [Int.mul_neg] at this
    have := l4 (by omega)
    omega

theorem hu_facts (n d : Int) (hd : 0 < d) : 2 * d * hu n d ≤ 2 * n + d ∧ 2 * n + d < 2 * d * hu n d + 2 * d := by
  unfold hu
  have h := Int.mul_ediv_add_emod (2 * n + d) (2 * d)
  have h1 := Int.emod_nonneg (2 * n + d) (show 2 * d ≠ 0 by omega)
  have h2 := Int.emod_lt_of_pos (2 * n + d) (show 0 < 2 * d by omega)
  omega

/-- What the document's answer begins with is the rounded number, or one more. -/
theorem hu_first (n d : Int) (hd : 0 < d) : (2 * n + d).tdiv (2 * d) = hu n d ∨ (2 * n + d).tdiv (2 * d) = hu n d + 1 := by
  obtain ⟨e, h1, h2, h3, h4⟩ := tdiv_facts (2 * n + d) (2 * d) (by omega)
  generalize hq : (2 * n + d).tdiv (2 * d) = q at *
  generalize hr : (2 * n + d).tmod (2 * d) = r at *
  by_cases p : r < 0
  · right
    have := hu_of n d (q - 1) hd (by rw [Int.mul_sub]; omega) (by rw [Int.mul_sub]; omega)
    omega
  · left
    exact (hu_of n d q hd (by omega) (by omega)).symm

theorem hu_le (n d B : Int) (hd : 0 < d) (hB : d ≤ B) (h1 : -B ≤ n) (h2 : n ≤ B) : -(2 * B) ≤ hu n d ∧ hu n d ≤ 2 * B := by
  obtain ⟨a, b⟩ := hu_facts n d hd
  have e : 2 * d * hu n d = 2 * (d * hu n d) := by rw [Int.mul_assoc]
  rw [e] at a b
  constructor
  · by_cases p : 0 ≤ hu n d
    · omega
    · have := Int.mul_le_mul_of_nonneg_right (show (1 : Int) ≤ d by omega) (show 0 ≤ -(hu n d) by omega)
      rw [Int.one_mul, Int.mul_neg] at this; omega
  · by_cases p : 0 ≤ hu n d
    · have := Int.mul_le_mul_of_nonneg_right (show (1 : Int) ≤ d by omega) p
      omega
    · omega

/-- Is n from -m to m? -/
def wi (n m : Int) : Bool := decide (-m ≤ n) && decide (n ≤ m)
theorem wi_yes {n m : Int} (h : wi n m = true) : -m ≤ n ∧ n ≤ m := by simpa [wi] using h
theorem wi_no {n m : Int} (h : wi n m = false) : n < -m ∨ m < n := by
  simp [wi] at h; omega

/-- Are a map's numbers such as may be? -/
def fairB (a b c d x y : Int) : Bool := wi a 65536 && wi b 65536 && (wi c 65536 && wi d 65536) && (wi x 16384 && wi y 16384)
/-- Is a place in range? -/
def inB (x y : Int) : Bool := wi x 16384 && wi y 16384

/-- Place's answer: the spot, and the error's number. -/
def placeV (a b c d x y s t : Int) : Int × Int × Int :=
  if (wi s 8192 && wi t 8192) = false then (0, 0, 4)
  else if fairB a b c d x y = false then (0, 0, 5)
  else if inB (x + hu (a * s + b * t) 2048) (y + hu (c * s + d * t) 2048) = false then (0, 0, 6)
  else (x + hu (a * s + b * t) 2048, y + hu (c * s + d * t) 2048, 0)

theorem hu_2048 (n : Int) : hu n 2048 = (2 * n + 2048) / 4096 := rfl
theorem mul_bd (a s A S : Int) (ha : -A ≤ a ∧ a ≤ A) (hs : -S ≤ s ∧ s ≤ S) : -(A * S) ≤ a * s ∧ a * s ≤ A * S := by
  have hA : 0 ≤ A := by omega
  have hS : 0 ≤ S := by omega
  have h : (a * s).natAbs ≤ (A * S).natAbs := by
    rw [Int.natAbs_mul, Int.natAbs_mul]
    exact Nat.mul_le_mul (by omega) (by omega)
  have := Int.mul_nonneg hA hS
  omega

end Num
end Go.Proofs.YtkhcjkmifddlbabDoor
