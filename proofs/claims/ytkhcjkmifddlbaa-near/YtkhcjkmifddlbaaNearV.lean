/- Plain: halfway between two spots a curve lies close to the chord. Imports nothing of the dump. -/
import Derived.Test.YtkhcjkmifddlbaaChordB
namespace Go.Proofs.Ytkhcjkmifddlbaa
namespace Num

theorem qSum_eq (u i a b c : Int) : qSum u i a b c = u * u * a + 2 * (i * u * b) + i * i * c := by
  unfold qSum; simp only [Int.mul_assoc]
theorem cSum_eq (u i a b c d : Int) : cSum u i a b c d = u * u * u * a + 3 * (i * u * u * b) + 3 * (i * i * u * c) + i * i * i * d := by
  unfold cSum; simp only [Int.mul_assoc]
theorem quad_mid (n i a b c : Int) : 2 * qSum (2 * n - (2 * i + 1)) (2 * i + 1) a b c - 4 * (qSum (n - i) i a b c + qSum (n - (i + 1)) (i + 1) a b c) = -(2 * (a - 2 * b + c)) := by
  obtain ⟨u, hu⟩ : ∃ u, n = u + i := ⟨n - i, by omega⟩
  subst hu
  rw [show 2 * (u + i) - (2 * i + 1) = u + u - 1 by omega, show 2 * i + 1 = i + i + 1 by omega, show u + i - i = u by omega, show u + i - (i + 1) = u - 1 by omega, qSum_eq, qSum_eq, qSum_eq]
  obtain ⟨X0, h0⟩ : ∃ X, X = (u + u - 1) * (u + u - 1) * a := ⟨_, rfl⟩
  obtain ⟨X1, h1⟩ : ∃ X, X = (i + i + 1) * (u + u - 1) * b := ⟨_, rfl⟩
  obtain ⟨X2, h2⟩ : ∃ X, X = (i + i + 1) * (i + i + 1) * c := ⟨_, rfl⟩
  obtain ⟨X3, h3⟩ : ∃ X, X = (u - 1) * (u - 1) * a := ⟨_, rfl⟩
  obtain ⟨X4, h4⟩ : ∃ X, X = (i + 1) * (u - 1) * b := ⟨_, rfl⟩
  obtain ⟨X5, h5⟩ : ∃ X, X = (i + 1) * (i + 1) * c := ⟨_, rfl⟩
  obtain ⟨X6, h6⟩ : ∃ X, X = u * u * a := ⟨_, rfl⟩
  obtain ⟨X7, h7⟩ : ∃ X, X = i * u * b := ⟨_, rfl⟩
  obtain ⟨X8, h8⟩ : ∃ X, X = i * i * c := ⟨_, rfl⟩
  rw [← h0, ← h1, ← h2, ← h3, ← h4, ← h5, ← h6, ← h7, ← h8]
  simp only [Int.mul_add, Int.mul_sub, Int.mul_one, Int.mul_comm, Int.mul_left_comm] at h0 h1 h2 h3 h4 h5 h6 h7 h8
  omega
theorem cubic_mid (n i a b c d : Int) : 2 * cSum (2 * n - (2 * i + 1)) (2 * i + 1) a b c d - 8 * (cSum (n - i) i a b c d + cSum (n - (i + 1)) (i + 1) a b c d) = -(6 * ((2 * n - (2 * i + 1)) * (a - 2 * b + c) + (2 * i + 1) * (b - 2 * c + d))) := by
  obtain ⟨u, hu⟩ : ∃ u, n = u + i := ⟨n - i, by omega⟩
  subst hu
  rw [show 2 * (u + i) - (2 * i + 1) = u + u - 1 by omega, show 2 * i + 1 = i + i + 1 by omega, show u + i - i = u by omega, show u + i - (i + 1) = u - 1 by omega, show a - 2 * b + c = a - (b + b) + c by omega, show b - 2 * c + d = b - (c + c) + d by omega, cSum_eq, cSum_eq, cSum_eq]
  obtain ⟨X0, h0⟩ : ∃ X, X = (u + u - 1) * (u + u - 1) * (u + u - 1) * a := ⟨_, rfl⟩
  obtain ⟨X1, h1⟩ : ∃ X, X = (i + i + 1) * (u + u - 1) * (u + u - 1) * b := ⟨_, rfl⟩
  obtain ⟨X2, h2⟩ : ∃ X, X = (i + i + 1) * (i + i + 1) * (u + u - 1) * c := ⟨_, rfl⟩
  obtain ⟨X3, h3⟩ : ∃ X, X = (i + i + 1) * (i + i + 1) * (i + i + 1) * d := ⟨_, rfl⟩
  obtain ⟨X4, h4⟩ : ∃ X, X = (u - 1) * (u - 1) * (u - 1) * a := ⟨_, rfl⟩
  obtain ⟨X5, h5⟩ : ∃ X, X = (i + 1) * (u - 1) * (u - 1) * b := ⟨_, rfl⟩
  obtain ⟨X6, h6⟩ : ∃ X, X = (i + 1) * (i + 1) * (u - 1) * c := ⟨_, rfl⟩
  obtain ⟨X7, h7⟩ : ∃ X, X = (i + 1) * (i + 1) * (i + 1) * d := ⟨_, rfl⟩
  obtain ⟨X8, h8⟩ : ∃ X, X = u * u * u * a := ⟨_, rfl⟩
  obtain ⟨X9, h9⟩ : ∃ X, X = i * u * u * b := ⟨_, rfl⟩
  obtain ⟨X10, h10⟩ : ∃ X, X = i * i * u * c := ⟨_, rfl⟩
  obtain ⟨X11, h11⟩ : ∃ X, X = i * i * i * d := ⟨_, rfl⟩
  obtain ⟨X12, h12⟩ : ∃ X, X = (u + u - 1) * (a - (b + b) + c) := ⟨_, rfl⟩
  obtain ⟨X13, h13⟩ : ∃ X, X = (i + i + 1) * (b - (c + c) + d) := ⟨_, rfl⟩
  rw [← h0, ← h1, ← h2, ← h3, ← h4, ← h5, ← h6, ← h7, ← h8, ← h9, ← h10, ← h11, ← h12, ← h13]
  simp only [Int.mul_add, Int.mul_sub, Int.mul_one, Int.mul_comm, Int.mul_left_comm] at h0 h1 h2 h3 h4 h5 h6 h7 h8 h9 h10 h11 h12 h13
  omega
theorem four_out (x y k D : Int) : (x + y) * (k * D) = k * (D * x) + k * (D * y) := by
  rw [Int.add_mul, Int.mul_left_comm x k D, Int.mul_left_comm y k D, Int.mul_comm x D, Int.mul_comm y D]
theorem cube_out (n i : Int) : (2 * n - (2 * i + 1)) * (16 * (n * n)) + (2 * i + 1) * (16 * (n * n)) = 32 * (n * n * n) := by
  rw [← Int.add_mul, show 2 * n - (2 * i + 1) + (2 * i + 1) = 2 * n by omega, Int.mul_assoc 2 n, Int.mul_left_comm n 16 (n * n), ← Int.mul_assoc n n n]
  omega

/-- A rounded number times what it was divided by. -/
theorem hu_mul (q D : Int) (hD : 0 < D) : -D ≤ 2 * q - 2 * (D * hu q D) ∧ 2 * q - 2 * (D * hu q D) ≤ D := by
  obtain ⟨h1, h2⟩ := hu_facts q D hD
  have e : 2 * D * hu q D = 2 * (D * hu q D) := Int.mul_assoc _ _ _
  omega
theorem hu_whole (a D : Int) (hD : 0 < D) : hu (a * D) D = a := by
  apply hu_of _ _ _ hD
  · have e : 2 * D * a = 2 * (a * D) := by rw [Int.mul_assoc, Int.mul_comm D a]
    omega
  · have e : 2 * D * a = 2 * (a * D) := by rw [Int.mul_assoc, Int.mul_comm D a]
    omega

theorem quad_tight {n i a b c : Int} (hn : 1 ≤ n) (h : sz (a - 2 * b + c) ≤ 16 * n * n) :
    -(9 * (4 * n * n)) ≤ 2 * qSum (2 * n - (2 * i + 1)) (2 * i + 1) a b c - (hu (qSum (n - i) i a b c) (n * n) + hu (qSum (n - (i + 1)) (i + 1) a b c) (n * n)) * (4 * n * n) ∧
    2 * qSum (2 * n - (2 * i + 1)) (2 * i + 1) a b c - (hu (qSum (n - i) i a b c) (n * n) + hu (qSum (n - (i + 1)) (i + 1) a b c) (n * n)) * (4 * n * n) ≤ 9 * (4 * n * n) := by
  have hD : 0 < n * n := Int.mul_pos (by omega) (by omega)
  have m := quad_mid n i a b c
  have u := hu_mul (qSum (n - i) i a b c) (n * n) hD
  have v := hu_mul (qSum (n - (i + 1)) (i + 1) a b c) (n * n) hD
  generalize qSum (2 * n - (2 * i + 1)) (2 * i + 1) a b c = Q at *
  generalize qSum (n - i) i a b c = q at *
  generalize qSum (n - (i + 1)) (i + 1) a b c = q' at *
  have e1 : 4 * n * n = 4 * (n * n) := Int.mul_assoc _ _ _
  have e2 : 16 * n * n = 16 * (n * n) := Int.mul_assoc _ _ _
  have e3 : (hu q (n * n) + hu q' (n * n)) * (4 * (n * n)) = 4 * (n * n * hu q (n * n)) + 4 * (n * n * hu q' (n * n)) := by
    exact four_out _ _ _ _
  have hs : -(16 * (n * n)) ≤ a - 2 * b + c ∧ a - 2 * b + c ≤ 16 * (n * n) := by
    rw [e2] at h; unfold sz at h; split at h <;> omega
  rw [e1, e3]
  omega

theorem cubic_tight {n i a b c d : Int} (hn : 1 ≤ n) (hi : 0 ≤ i) (hin : i < n) (h : 3 * sz (a - 2 * b + c) ≤ 16 * n * n) (h' : 3 * sz (b - 2 * c + d) ≤ 16 * n * n) :
    -(9 * (8 * n * n * n)) ≤ 2 * cSum (2 * n - (2 * i + 1)) (2 * i + 1) a b c d - (hu (cSum (n - i) i a b c d) (n * n * n) + hu (cSum (n - (i + 1)) (i + 1) a b c d) (n * n * n)) * (8 * n * n * n) ∧
    2 * cSum (2 * n - (2 * i + 1)) (2 * i + 1) a b c d - (hu (cSum (n - i) i a b c d) (n * n * n) + hu (cSum (n - (i + 1)) (i + 1) a b c d) (n * n * n)) * (8 * n * n * n) ≤ 9 * (8 * n * n * n) := by
  have hD0 : 0 < n * n := Int.mul_pos (by omega) (by omega)
  have hD : 0 < n * n * n := Int.mul_pos hD0 (by omega)
  have m := cubic_mid n i a b c d
  have u := hu_mul (cSum (n - i) i a b c d) (n * n * n) hD
  have v := hu_mul (cSum (n - (i + 1)) (i + 1) a b c d) (n * n * n) hD
  generalize cSum (2 * n - (2 * i + 1)) (2 * i + 1) a b c d = Q at *
  generalize cSum (n - i) i a b c d = q at *
  generalize cSum (n - (i + 1)) (i + 1) a b c d = q' at *
  have e2 : 16 * n * n = 16 * (n * n) := Int.mul_assoc _ _ _
  have hs : -(16 * (n * n)) ≤ 3 * (a - 2 * b + c) ∧ 3 * (a - 2 * b + c) ≤ 16 * (n * n) := by
    rw [e2] at h; unfold sz at h; split at h <;> omega
  have hs' : -(16 * (n * n)) ≤ 3 * (b - 2 * c + d) ∧ 3 * (b - 2 * c + d) ≤ 16 * (n * n) := by
    rw [e2] at h'; unfold sz at h'; split at h' <;> omega
  generalize a - 2 * b + c = A at *
  generalize b - 2 * c + d = B at *
  have k1 : 0 ≤ 2 * n - (2 * i + 1) := by omega
  have k2 : 0 ≤ 2 * i + 1 := by omega
  have p1 := Int.mul_le_mul_of_nonneg_left hs.2 k1
  have p2 := Int.mul_le_mul_of_nonneg_left hs.1 k1
  have p3 := Int.mul_le_mul_of_nonneg_left hs'.2 k2
  have p4 := Int.mul_le_mul_of_nonneg_left hs'.1 k2
  have e3 : (2 * n - (2 * i + 1)) * (16 * (n * n)) + (2 * i + 1) * (16 * (n * n)) = 32 * (n * n * n) := cube_out n i
  have e4 : (2 * n - (2 * i + 1)) * (-(16 * (n * n))) + (2 * i + 1) * (-(16 * (n * n))) = -(32 * (n * n * n)) := by rw [Int.mul_neg, Int.mul_neg]; omega
  have e5 : (2 * n - (2 * i + 1)) * (3 * A) + (2 * i + 1) * (3 * B) = 3 * ((2 * n - (2 * i + 1)) * A + (2 * i + 1) * B) := by
    rw [Int.mul_left_comm _ 3 A, Int.mul_left_comm _ 3 B]; omega
  have e7 : 8 * n * n * n = 8 * (n * n * n) := by simp only [Int.mul_assoc]
  have e6 : (hu q (n * n * n) + hu q' (n * n * n)) * (8 * (n * n * n)) = 8 * (n * n * n * hu q (n * n * n)) + 8 * (n * n * n * hu q' (n * n * n)) := four_out _ _ _ _
  rw [e7, e6]
  generalize (2 * n - (2 * i + 1)) * A + (2 * i + 1) * B = AB at *
  omega

/-- The number halfway between the spots i and i+1 of n, and by what it is to be divided. -/
def halfN (g : Sg) (i n x0 x1 x2 x3 : Int) : Int :=
  if g.k = 1 then qSum (2 * n - (2 * i + 1)) (2 * i + 1) x0 x1 x3 else if g.k = 2 then cSum (2 * n - (2 * i + 1)) (2 * i + 1) x0 x1 x2 x3 else (2 * n - (2 * i + 1)) * x0 + (2 * i + 1) * x3
def halfD (g : Sg) (n : Int) : Int := if g.k = 1 then 4 * n * n else if g.k = 2 then 8 * n * n * n else 2 * n
theorem gr_le {a b c : Int} (h : gr a b ≤ c) : a ≤ c ∧ b ≤ c := by unfold gr at h; split at h <;> omega

/-- What Near asks of one step. -/
theorem near_step {g : Sg} (hk : kindB g = true) (hr : rangeB g = true) {i : Int} (hi : 0 ≤ i) (hin : i < (curveN g : Int)) :
    (-(9 * halfD g (curveN g)) ≤ 2 * halfN g i (curveN g) g.x0 g.x1 g.x2 g.x3 - (spotX g (curveN g) i + spotX g (curveN g) (i + 1)) * halfD g (curveN g) ∧
      2 * halfN g i (curveN g) g.x0 g.x1 g.x2 g.x3 - (spotX g (curveN g) i + spotX g (curveN g) (i + 1)) * halfD g (curveN g) ≤ 9 * halfD g (curveN g)) ∧
    (-(9 * halfD g (curveN g)) ≤ 2 * halfN g i (curveN g) g.y0 g.y1 g.y2 g.y3 - (spotY g (curveN g) i + spotY g (curveN g) (i + 1)) * halfD g (curveN g) ∧
      2 * halfN g i (curveN g) g.y0 g.y1 g.y2 g.y3 - (spotY g (curveN g) i + spotY g (curveN g) (i + 1)) * halfD g (curveN g) ≤ 9 * halfD g (curveN g)) := by
  have hb := needV_bd hr
  have hS := stepsV_is hb.2
  have hN : (curveN g : Int) = stepsV (needV g) := by
    have := hS.1; unfold curveN; omega
  rw [← hN] at hS
  generalize (curveN g : Int) = n at *
  have hd := hS.2.1
  rcases kind_yes hk with h0 | h0 | h0
  · have hn0 : needV g = 0 := by unfold needV; rw [if_neg (by omega), if_neg (by omega)]
    have hn1 : n = 1 := by rw [hN, hn0]; exact stepsV_zero (by omega)
    have hi0 : i = 0 := by omega
    subst hn1 hi0
    have h1 : ¬ g.k = 1 := by omega
    have h2 : ¬ g.k = 2 := by omega
    have z1 : ¬ (0 : Int) = 1 := by omega
    have z2 : (0 : Int) + 1 = 1 := by omega
    simp only [halfD, halfN, spotX, spotY, if_neg h1, if_neg h2, if_neg z1, if_pos z2]
    omega
  · have e : needV g = bendV g.x0 g.y0 g.x1 g.y1 g.x3 g.y3 := by unfold needV; rw [if_pos h0]
    rw [e] at hd
    unfold bendV at hd
    obtain ⟨d1, d2⟩ := gr_le hd
    have a := quad_tight (i := i) hS.1 d1
    have b := quad_tight (i := i) hS.1 d2
    simp only [halfD, halfN, spotX, spotY, if_pos h0]
    exact ⟨a, b⟩
  · have h1 : ¬ g.k = 1 := by omega
    have e : needV g = 3 * gr (bendV g.x0 g.y0 g.x1 g.y1 g.x2 g.y2) (bendV g.x1 g.y1 g.x2 g.y2 g.x3 g.y3) := by unfold needV; rw [if_neg h1, if_pos h0]
    rw [e] at hd
    have hg : ∀ a b c : Int, 3 * gr a b ≤ c → 3 * a ≤ c ∧ 3 * b ≤ c := by
      intro a b c h; unfold gr at h; split at h <;> omega
    obtain ⟨d1, d2⟩ := hg _ _ _ hd
    unfold bendV at d1 d2
    obtain ⟨d3, d4⟩ := hg _ _ _ d1
    obtain ⟨d5, d6⟩ := hg _ _ _ d2
    have a := cubic_tight (i := i) hS.1 hi hin d3 d5
    have b := cubic_tight (i := i) hS.1 hi hin d4 d6
    simp only [halfD, halfN, spotX, spotY, if_neg h1, if_pos h0]
    exact ⟨a, b⟩

/-- The ends. -/
theorem near_ends {g : Sg} (hk : kindB g = true) (hr : rangeB g = true) : spotX g (curveN g) 0 = g.x0 ∧ spotY g (curveN g) 0 = g.y0 ∧ spotX g (curveN g) (curveN g) = g.x3 ∧ spotY g (curveN g) (curveN g) = g.y3 := by
  have hb := needV_bd hr
  have hS := stepsV_is hb.2
  have hN : (curveN g : Int) = stepsV (needV g) := by
    have := hS.1; unfold curveN; omega
  have hn := hS.1
  rw [← hN] at hn
  generalize (curveN g : Int) = n at *
  have hD0 : 0 < n * n := Int.mul_pos (by omega) (by omega)
  have hD : 0 < n * n * n := Int.mul_pos hD0 (by omega)
  have q0 : ∀ a b c : Int, hu (qSum (n - 0) 0 a b c) (n * n) = a := fun a b c => by
    rw [show qSum (n - 0) 0 a b c = a * (n * n) by unfold qSum; simp [Int.mul_comm]]; exact hu_whole _ _ hD0
  have q1 : ∀ a b c : Int, hu (qSum (n - n) n a b c) (n * n) = c := fun a b c => by
    rw [show qSum (n - n) n a b c = c * (n * n) by unfold qSum; simp [Int.mul_comm]]; exact hu_whole _ _ hD0
  have c0 : ∀ a b c d : Int, hu (cSum (n - 0) 0 a b c d) (n * n * n) = a := fun a b c d => by
    rw [show cSum (n - 0) 0 a b c d = a * (n * n * n) by unfold cSum; simp [Int.mul_comm]]; exact hu_whole _ _ hD
  have c1 : ∀ a b c d : Int, hu (cSum (n - n) n a b c d) (n * n * n) = d := fun a b c d => by
    rw [show cSum (n - n) n a b c d = d * (n * n * n) by unfold cSum; simp [Int.mul_comm]]; exact hu_whole _ _ hD
  simp only [spotX, spotY]
  rcases kind_yes hk with h0 | h0 | h0
  · have h1 : ¬ g.k = 1 := by omega
    have h2 : ¬ g.k = 2 := by omega
    have h3 : ¬ (0 : Int) = n := by omega
    simp only [if_neg h1, if_neg h2, if_neg h3, if_true, and_self]
  · simp only [if_pos h0, q0, q1, and_self]
  · have h1 : ¬ g.k = 1 := by omega
    simp only [if_neg h1, if_pos h0, c0, c1, and_self]
end Num
end Go.Proofs.Ytkhcjkmifddlbaa
