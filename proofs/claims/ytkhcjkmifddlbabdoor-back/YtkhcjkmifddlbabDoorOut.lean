/- Plain: searches, shapes, Check's answer. Imports nothing of the dump. -/
import Derived.Test.YtkhcjkmifddlbabDoorNum
namespace Go.Proofs.YtkhcjkmifddlbabDoor
namespace Num

/-- The first i below n at which f says yes; or -1. -/
def firstI (f : Nat → Bool) (n : Nat) : Int := match (List.range n).find? f with
  | some i => (i : Int)
  | none => -1
theorem find_range_hit (f : Nat → Bool) (n k : Nat) (hk : k < n) (h : f k = true) (hb : ∀ j, j < k → f j = false) : (List.range n).find? f = some k := by
  rw [List.find?_range_eq_some]
  exact ⟨h, by simpa using hk, fun j hj => by simp [hb j hj]⟩
theorem firstI_hit (f : Nat → Bool) (n k : Nat) (hk : k < n) (h : f k = true) (hb : ∀ j, j < k → f j = false) : firstI f n = k := by
  unfold firstI
  rw [find_range_hit f n k hk h hb]
theorem firstI_none (f : Nat → Bool) (n : Nat) (hb : ∀ j, j < n → f j = false) : firstI f n = -1 := by
  unfold firstI
  have : (List.range n).find? f = none := by
    rw [List.find?_eq_none]
    intro x hx
    simp at hx
    simp [hb x hx]
  rw [this]
theorem firstI_cases (f : Nat → Bool) (n : Nat) : (firstI f n = -1 ∧ ∀ j, j < n → f j = false) ∨ ∃ k, k < n ∧ f k = true ∧ (∀ j, j < k → f j = false) ∧ firstI f n = k := by
  by_cases h : ∀ j, j < n → f j = false
  · exact Or.inl ⟨firstI_none f n h, h⟩
  · right
    cases e : (List.range n).find? f with
    | none =>
      rw [List.find?_eq_none] at e
      exact absurd (fun j hj => by have := e j (by simpa using hj); simpa using this) h
    | some k =>
      rw [List.find?_range_eq_some] at e
      obtain ⟨a, b, c⟩ := e
      have b' : k < n := by simpa using b
      have c' : ∀ j, j < k → f j = false := fun j hj => by have := c j hj; simpa using this
      exact ⟨k, b', a, c', firstI_hit f n k b' a c'⟩
theorem firstI_congr (f g : Nat → Bool) (n : Nat) (h : ∀ j, j < n → f j = g j) : firstI f n = firstI g n := by
  rcases firstI_cases g n with ⟨e, hb⟩ | ⟨k, hk, ht, hb, e⟩
  · rw [e, firstI_none f n (fun j hj => by rw [h j hj]; exact hb j hj)]
  · rw [e, firstI_hit f n k hk (by rw [h k hk]; exact ht) (fun j hj => by rw [h j (by omega)]; exact hb j hj)]

/-- May a point of kind k stand between a and b? -/
def mayB (a k b : Int) : Bool := k == 0 || k == 1 || (k == 2 && ((a == 0 && b == 2) || (a == 2 && b == 0)))
/-- The kind ahead of point i, and behind it, in a ring of n. -/
def prevK (K : Nat → Int) (n i : Nat) : Int := if i = 0 then K (n - 1) else K (i - 1)
def nextK (K : Nat → Int) (n i : Nat) : Int := if i + 1 < n then K (i + 1) else K 0
def badB (K : Nat → Int) (n i : Nat) : Bool := !mayB (prevK K n i) (K i) (nextK K n i)
def shapeI (K : Nat → Int) (n : Nat) : Int := if n < 2 then (n : Int) else firstI (badB K n) n
def farB (X Y : Nat → Int) (i : Nat) : Bool := !(wi (X i) 4096 && wi (Y i) 4096)
def farI (X Y : Nat → Int) (n : Nat) : Int := firstI (farB X Y) n
/-- The points of the first k contours together. -/
def sumN (n : Nat → Nat) : Nat → Nat
  | 0 => 0
  | k + 1 => sumN n k + n k
theorem sumN_mono (n : Nat → Nat) {a b : Nat} (h : a ≤ b) : sumN n a ≤ sumN n b := by
  induction b with
  | zero => have : a = 0 := by omega
            subst this; exact Nat.le_refl _
  | succ b ih =>
    by_cases e : a = b + 1
    · subst e; exact Nat.le_refl _
    · have := ih (by omega); simp only [sumN]; omega
def manyB (N : Nat) (n : Nat → Nat) : Bool := decide (16 < N) || decide (200 < sumN n N)
/-- Check's answer. -/
def shapeAt (n : Nat → Nat) (K : Nat → Nat → Int) (i : Nat) : Bool := shapeI (K i) (n i) != -1
def farAt (n : Nat → Nat) (X Y : Nat → Nat → Int) (i : Nat) : Bool := farI (X i) (Y i) (n i) != -1
def chkV (N : Nat) (n : Nat → Nat) (X Y K : Nat → Nat → Int) : Int × Int × Int :=
  if manyB N n = true then (2, 0, 0)
  else if firstI (shapeAt n K) N ≠ -1 then (3, firstI (shapeAt n K) N, shapeI (K (firstI (shapeAt n K) N).toNat) (n (firstI (shapeAt n K) N).toNat))
  else if firstI (farAt n X Y) N ≠ -1 then (4, firstI (farAt n X Y) N, farI (X (firstI (farAt n X Y) N).toNat) (Y (firstI (farAt n X Y) N).toNat) (n (firstI (farAt n X Y) N).toNat))
  else (0, 0, 0)

theorem chk_many (N : Nat) (n : Nat → Nat) (X Y K : Nat → Nat → Int) (h : manyB N n = true) : chkV N n X Y K = (2, 0, 0) := by
  unfold chkV; rw [if_pos h]
theorem chk_shape (N : Nat) (n : Nat → Nat) (X Y K : Nat → Nat → Int) (h : manyB N n = false) (k : Nat) (hk : k < N) (hs : shapeAt n K k = true) (hb : ∀ j, j < k → shapeAt n K j = false) :
    chkV N n X Y K = (3, (k : Int), shapeI (K k) (n k)) := by
  unfold chkV
  rw [if_neg (by simp [h]), firstI_hit _ N k hk hs hb, if_pos (by omega), Int.toNat_natCast]
theorem chk_far (N : Nat) (n : Nat → Nat) (X Y K : Nat → Nat → Int) (h : manyB N n = false) (hn : ∀ j, j < N → shapeAt n K j = false) (k : Nat) (hk : k < N) (hs : farAt n X Y k = true) (hb : ∀ j, j < k → farAt n X Y j = false) :
    chkV N n X Y K = (4, (k : Int), farI (X k) (Y k) (n k)) := by
  unfold chkV
  rw [if_neg (by simp [h]), firstI_none _ N hn, if_neg (by simp), firstI_hit _ N k hk hs hb, if_pos (by omega), Int.toNat_natCast]
theorem chk_ok (N : Nat) (n : Nat → Nat) (X Y K : Nat → Nat → Int) (h : manyB N n = false) (hn : ∀ j, j < N → shapeAt n K j = false) (hb : ∀ j, j < N → farAt n X Y j = false) :
    chkV N n X Y K = (0, 0, 0) := by
  unfold chkV
  rw [if_neg (by simp [h]), firstI_none _ N hn, if_neg (by simp), firstI_none _ N hb, if_neg (by simp)]
/-- Where Check says OK. -/
theorem chk_cases (N : Nat) (n : Nat → Nat) (X Y K : Nat → Nat → Int) :
    ((chkV N n X Y K).1 = 0 ∧ manyB N n = false ∧ (∀ j, j < N → shapeAt n K j = false) ∧ ∀ j, j < N → farAt n X Y j = false) ∨ (chkV N n X Y K).1 ≠ 0 := by
  cases h : manyB N n with
  | true => right; rw [chk_many N n X Y K h]; simp
  | false =>
    rcases firstI_cases (shapeAt n K) N with ⟨_, hn⟩ | ⟨k, hk, ht, hb, _⟩
    · rcases firstI_cases (farAt n X Y) N with ⟨_, hf⟩ | ⟨k, hk, ht, hb, _⟩
      · left; rw [chk_ok N n X Y K h hn hf]; exact ⟨rfl, rfl, hn, hf⟩
      · right; rw [chk_far N n X Y K h hn k hk ht hb]; simp
    · right; rw [chk_shape N n X Y K h k hk ht hb]; simp
theorem firstI_ge (f : Nat → Bool) (n : Nat) : firstI f n = -1 ∨ 0 ≤ firstI f n := by
  rcases firstI_cases f n with ⟨e, _⟩ | ⟨k, _, _, _, e⟩
  · exact Or.inl e
  · right; rw [e]; omega
theorem shapeI_ge (K : Nat → Int) (n : Nat) : shapeI K n = -1 ∨ 0 ≤ shapeI K n := by
  unfold shapeI
  split
  · right; omega
  · exact firstI_ge _ _
theorem prevK_mod (K : Nat → Int) (n i : Nat) (h : i < n) : K ((i + n - 1) % n) = prevK K n i := by
  unfold prevK
  split
  · rename_i e; subst e
    rw [show 0 + n - 1 = n - 1 by omega, Nat.mod_eq_of_lt (by omega)]
  · rw [show i + n - 1 = (i - 1) + n by omega, Nat.add_mod_right, Nat.mod_eq_of_lt (by omega)]
theorem nextK_mod (K : Nat → Int) (n i : Nat) (h : i < n) : K ((i + 1) % n) = nextK K n i := by
  unfold nextK
  split
  · rename_i e; rw [Nat.mod_eq_of_lt e]
  · rw [show i + 1 = n by omega, Nat.mod_self]
end Num
end Go.Proofs.YtkhcjkmifddlbabDoor
