/- How a text is read: plain. -/
import Derived.WalkKit
namespace Go.Proofs.YtkhcjkmifddlbabDoor
namespace Num

/-- The byte at place k; behind the end: 0. -/
def byt (s : ByteArray) (k : Nat) : Nat := if h : k < s.size then s[k].toNat else 0
theorem byt_lt {s : ByteArray} {k : Nat} (h : k < s.size) : byt s k = s[k].toNat := by unfold byt; rw [dif_pos h]
theorem byt_ge {s : ByteArray} {k : Nat} (h : s.size ≤ k) : byt s k = 0 := by unfold byt; rw [dif_neg (by omega)]
theorem byt_bd (s : ByteArray) (k : Nat) : byt s k ≤ 255 := by
  unfold byt; split
  · rename_i h; have := s[k].toNat_lt; omega
  · omega
def isSp (c : Nat) : Bool := decide (c = 32 ∨ c = 9 ∨ c = 10 ∨ c = 13)
def isDg (c : Nat) : Bool := decide (48 ≤ c ∧ c ≤ 57)

/-- Behind a remark: behind its line feed. -/
def remV (s : ByteArray) (p : Nat) : Option Nat := if p < s.size then (if byt s p = 10 then some (p + 1) else remV s (p + 1)) else none
termination_by s.size - p
theorem remV_gt (s : ByteArray) : ∀ (n p q : Nat), s.size - p ≤ n → remV s p = some q → p < q ∧ q ≤ s.size := by
  intro n
  induction n with
  | zero => intro p q hn h; rw [remV] at h; rw [if_neg (by omega)] at h; cases h
  | succ n ih =>
    intro p q hn h
    rw [remV] at h
    split at h
    · split at h
      · simp at h; omega
      · have := ih (p + 1) q (by omega) h; omega
    · cases h
/-- Behind a gap, its first space byte taken. -/
def skipV (s : ByteArray) (p : Nat) : Option Nat :=
  if p < s.size then
    (if byt s p = 35 then (match _h : remV s p with
        | some q => skipV s q
        | none => none)
    else if isSp (byt s p) = true then skipV s (p + 1) else some p)
  else some p
termination_by s.size - p
decreasing_by
  · have := remV_gt s _ p q (Nat.le_refl _) _h; omega
  · omega
theorem skipV_end {s : ByteArray} {p : Nat} (h : s.size ≤ p) : skipV s p = some p := by rw [skipV, if_neg (by omega)]
theorem skipV_rem {s : ByteArray} {p q : Nat} (h : p < s.size) (h1 : byt s p = 35) (h2 : remV s p = some q) : skipV s p = skipV s q := by
  rw [skipV, if_pos h, if_pos h1]
  split
  · rename_i q' e; rw [h2] at e; simp at e; rw [e]
  · rename_i e; rw [h2] at e; cases e
theorem skipV_bad {s : ByteArray} {p : Nat} (h : p < s.size) (h1 : byt s p = 35) (h2 : remV s p = none) : skipV s p = none := by
  rw [skipV, if_pos h, if_pos h1]
  split
  · rename_i q' e; rw [h2] at e; cases e
  · rfl
theorem skipV_sp {s : ByteArray} {p : Nat} (h : p < s.size) (h1 : byt s p ≠ 35) (h2 : isSp (byt s p) = true) : skipV s p = skipV s (p + 1) := by
  rw [skipV, if_pos h, if_neg h1, if_pos h2]
theorem skipV_stop {s : ByteArray} {p : Nat} (h : p < s.size) (h1 : byt s p ≠ 35) (h2 : isSp (byt s p) = false) : skipV s p = some p := by
  rw [skipV, if_pos h, if_neg h1, if_neg (by simp [h2])]
theorem skipV_ge (s : ByteArray) : ∀ (n p q : Nat), s.size - p ≤ n → p ≤ s.size → skipV s p = some q → p ≤ q ∧ q ≤ s.size := by
  intro n
  induction n with
  | zero => intro p q hn hp h; rw [skipV_end (by omega)] at h; simp at h; omega
  | succ n ih =>
    intro p q hn hp h
    by_cases h0 : p < s.size
    · by_cases h1 : byt s p = 35
      · cases hr : remV s p with
        | none => rw [skipV_bad h0 h1 hr] at h; cases h
        | some r =>
          rw [skipV_rem h0 h1 hr] at h
          have := remV_gt s _ p r (Nat.le_refl _) hr
          have := ih r q (by omega) (by omega) h
          omega
      · cases h2 : isSp (byt s p) with
        | true => rw [skipV_sp h0 h1 h2] at h; have := ih (p + 1) q (by omega) (by omega) h; omega
        | false => rw [skipV_stop h0 h1 h2] at h; simp at h; omega
    · rw [skipV_end (by omega)] at h; simp at h; omega
/-- Behind one space byte. -/
def spV (s : ByteArray) (p : Nat) : Option Nat := if p < s.size ∧ isSp (byt s p) = true then some (p + 1) else none
theorem spV_le {s : ByteArray} {p q : Nat} (h : spV s p = some q) : q = p + 1 ∧ q ≤ s.size := by
  unfold spV at h; split at h
  · simp at h; omega
  · cases h
def gapV (s : ByteArray) (p : Nat) : Option Nat := (spV s p).bind (skipV s)
theorem gapV_le {s : ByteArray} {p q : Nat} (h : gapV s p = some q) : p < q ∧ q ≤ s.size := by
  unfold gapV at h
  cases hs : spV s p with
  | none => rw [hs] at h; cases h
  | some r =>
    rw [hs] at h
    have h1 := spV_le hs
    have h2 := skipV_ge s _ r q (Nat.le_refl _) h1.2 h
    omega
/-- Behind a word. -/
def wordV (s : ByteArray) (l : List UInt8) (p : Nat) : Option Nat := if p + l.length ≤ s.size ∧ (s.extract p (p + l.length)).toList = l then some (p + l.length) else none
theorem wordV_le {s : ByteArray} {l : List UInt8} {p q : Nat} (h : wordV s l p = some q) : q = p + l.length ∧ q ≤ s.size := by
  unfold wordV at h; split at h
  · simp at h; omega
  · cases h
/-- A side: what it is, and behind it. -/
def sideV (s : ByteArray) (p : Nat) : Option (Nat × Nat) :=
  if isDg (byt s p) = true ∧ byt s p ≠ 48 then
    (if isDg (byt s (p + 1)) = true then
      (if 10 * (byt s p - 48) + (byt s (p + 1) - 48) ≤ 64 ∧ isDg (byt s (p + 2)) = false then some (10 * (byt s p - 48) + (byt s (p + 1) - 48), p + 2) else none)
    else some (byt s p - 48, p + 1))
  else none
theorem dg_lt {s : ByteArray} {p : Nat} (h : isDg (byt s p) = true) : p < s.size := by
  rcases Nat.lt_or_ge p s.size with h1 | h1
  · exact h1
  · rw [byt_ge h1] at h; simp [isDg] at h
theorem sideV_le {s : ByteArray} {p v q : Nat} (h : sideV s p = some (v, q)) : p < q ∧ q ≤ s.size ∧ 1 ≤ v ∧ v ≤ 64 := by
  unfold sideV at h
  split at h
  · rename_i h1
    have l1 := dg_lt h1.1
    have a1 := h1.1
    simp [isDg] at a1
    split at h
    · rename_i h2
      have l2 := dg_lt h2
      split at h
      · rename_i h3; simp at h; omega
      · cases h
    · simp at h; omega
  · cases h

/-- The whole text: columns, rows, where the bytes begin. -/
def decV (s : ByteArray) : Option (Nat × Nat × Nat) :=
  if 8192 < s.size then none else
  (((wordV s [80, 53] 0).bind (gapV s)).bind (sideV s)).bind fun a =>
  ((gapV s a.2).bind (sideV s)).bind fun b =>
  (((gapV s b.2).bind (wordV s [50, 53, 53])).bind (spV s)).bind fun q =>
  if s.size - q = a.1 * b.1 then some (a.1, b.1, q) else none
end Num
end Go.Proofs.YtkhcjkmifddlbabDoor
