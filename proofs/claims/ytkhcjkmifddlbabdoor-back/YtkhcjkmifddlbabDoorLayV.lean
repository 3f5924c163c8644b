/- Lay, as the document says it: plain. -/
import Derived.Test.YtkhcjkmifddlbabDoorNum
namespace Go.Proofs.YtkhcjkmifddlbabDoor
namespace Num

/-- May a picture have these sides, and so many bytes? -/
def picB (W H : Int) (n : Nat) : Bool := decide (1 ≤ W ∧ W ≤ 64 ∧ 1 ≤ H ∧ H ≤ 64 ∧ (n : Int) = W * H)
/-- What comes of two bytes. -/
def mixV (u v way : Int) : Int := if way = 0 then (if u + v < 255 then u + v else 255) else if way = 1 then (if u > v then u else v) else if way = 3 then (if u - v > 0 then u - v else 0) else v
def lsY (a b : Int) : Int := if a < b then a else b
theorem mixV_bd {u v way : Int} (hu : 0 ≤ u ∧ u ≤ 255) (hv : 0 ≤ v ∧ v ≤ 255) : 0 ≤ mixV u v way ∧ mixV u v way ≤ 255 := by
  unfold mixV; repeat' split
  all_goals omega
/-- Does one of n that begin at x lie on i? -/
def covB (x : Int) (n i : Nat) : Bool := decide (x ≤ (i : Int) ∧ (i : Int) - x < (n : Int))
/-- The byte of pixel i, j. -/
def layV (uw ow oh : Nat) (U O : Nat → Int) (x y way : Int) (i j : Nat) : Int :=
  if covB x ow i = true ∧ covB y oh j = true then mixV (U (j * uw + i)) (O (((j : Int) - y).toNat * ow + ((i : Int) - x).toNat)) way else U (j * uw + i)
/-- The first k bytes. -/
def layL (uw ow oh : Nat) (U O : Nat → Int) (x y way : Int) (k : Nat) : List Int := (List.range k).map fun q => layV uw ow oh U O x y way (q % uw) (q / uw)
theorem layL_succ (uw ow oh : Nat) (U O : Nat → Int) (x y way : Int) (k : Nat) : layL uw ow oh U O x y way (k + 1) = layL uw ow oh U O x y way k ++ [layV uw ow oh U O x y way (k % uw) (k / uw)] := by
  unfold layL; rw [List.range_succ, List.map_append]; rfl
theorem layL_len (uw ow oh : Nat) (U O : Nat → Int) (x y way : Int) (k : Nat) : (layL uw ow oh U O x y way k).length = k := by simp [layL]
/-- The error: 6 where one is no picture, 7 where the way is none. -/
def layE (UW UH : Int) (n : Nat) (OW OH : Int) (m : Nat) (way eg ew : Int) : Int := if picB UW UH n = true ∧ picB OW OH m = true then (if 0 ≤ way ∧ way ≤ 3 then 0 else ew) else eg
theorem mul_row {j i uw uh : Nat} (hj : j < uh) (hi : i < uw) : j * uw + i < uw * uh := by
  have h : (j + 1) * uw ≤ uh * uw := Nat.mul_le_mul_right uw hj
  rw [Nat.succ_mul] at h
  rw [Nat.mul_comm uw uh]
  omega
theorem mul_le_sq {a b : Nat} (ha : a ≤ 64) (hb : b ≤ 64) : a * b ≤ 4096 := Nat.mul_le_mul ha hb
end Num
end Go.Proofs.YtkhcjkmifddlbabDoor
