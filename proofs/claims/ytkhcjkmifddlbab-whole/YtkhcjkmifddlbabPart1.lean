/- Joined: Num, Out, Mem, Read, Open, OpenK, OpenO, Chord, Segs, ChordB, CutV, AreaV. -/
import Derived.KernelRfl
import Derived.WalkKit
import Derived.WalkSpells
import Derived.WalkLawsBesides
import Derived.ProofKit
import Derived.Below
import Derived.Test.YtkhcjkmifddlbabRows
import Derived.Deep.Slices
import Derived.Carry
import Derived.OpenShut
/- Num -/
namespace Go.Proofs.Ytkhcjkmifddlbab
namespace Num

/-- n/d, rounded half up (d above 0). -/
def hu (n d : Int) : Int := (2 * n + d) / (2 * d)

theorem hu_of (n d q : Int) (hd : 0 < d) (h1 : 2 * d * q ≤ 2 * n + d) (h2 : 2 * n + d < 2 * d * q + 2 * d) : hu n d = q := by
  unfold hu
  have := (Int.ediv_emod_unique (a := 2 * n + d) (b := 2 * d) (q := q) (r := 2 * n + d - 2 * d * q) (by omega)).2 ⟨by omega, by omega, by omega⟩
  exact this.1

theorem tdiv_facts (n d : Int) (hd : 0 < d) :
    d * n.tdiv d + n.tmod d = n ∧ -d < n.tmod d ∧ n.tmod d < d ∧ (0 ≤ n → 0 ≤ n.tmod d) ∧ (n < 0 → n.tmod d ≤ 0) := by
  have e := Int.mul_tdiv_add_tmod n d
  refine ⟨e, ?_, ?_, ?_, ?_⟩
  · by_cases h : 0 ≤ n
    · have := Int.tmod_nonneg d h; omega
    · have h2 : 0 ≤ -n := by omega
      have := Int.tmod_lt_of_pos (-n) hd
      rw [Int.neg_tmod] at this; omega
  · exact Int.tmod_lt_of_pos n hd
  · intro h; exact Int.tmod_nonneg d h
  · intro h
    have := Int.tmod_nonneg d (show 0 ≤ -n by omega)
    rw [Int.neg_tmod] at this; omega

/-- The four ways of HalfUp's text. -/
theorem hu_tdiv (n d : Int) (hd : 0 < d) :
    (n.tmod d < 0 → ¬ (d - (n.tmod d + d) ≤ n.tmod d + d) → hu n d = n.tdiv d - 1) ∧
    (n.tmod d < 0 → d - (n.tmod d + d) ≤ n.tmod d + d → hu n d = n.tdiv d) ∧
    (¬ n.tmod d < 0 → ¬ (d - n.tmod d ≤ n.tmod d) → hu n d = n.tdiv d) ∧
    (¬ n.tmod d < 0 → d - n.tmod d ≤ n.tmod d → hu n d = n.tdiv d + 1) := by
  obtain ⟨e, h1, h2, _, _⟩ := tdiv_facts n d hd
  have e1 : 2 * d * (n.tdiv d - 1) = 2 * (d * n.tdiv d) - 2 * d := by rw [Int.mul_sub, Int.mul_assoc]; omega
  have e2 : 2 * d * (n.tdiv d + 1) = 2 * (d * n.tdiv d) + 2 * d := by rw [Int.mul_add, Int.mul_assoc]; omega
  have e3 : 2 * d * (n.tdiv d) = 2 * (d * n.tdiv d) := by rw [Int.mul_assoc]
  refine ⟨?_, ?_, ?_, ?_⟩ <;> intro a b <;> apply hu_of n d _ hd <;> omega

theorem tdiv_le (n d : Int) (hd : 0 < d) (B : Int) (h1 : -B ≤ n) (h2 : n ≤ B) : -B ≤ n.tdiv d ∧ n.tdiv d ≤ B := by
  obtain ⟨e, l1, l2, l3, l4⟩ := tdiv_facts n d hd
  by_cases h : 0 ≤ n
  · have p : 0 ≤ n.tdiv d := Int.tdiv_nonneg h (by omega)
    have : n.tdiv d ≤ d * n.tdiv d := by
      have := Int.mul_le_mul_of_nonneg_right (show (1 : Int) ≤ d by omega) p
      omega
    have := l3 h
    omega
  · have p : 0 ≤ (-n).tdiv d := Int.tdiv_nonneg (by omega) (by omega)
    rw [Int.neg_tdiv] at p
    have : (-(n.tdiv d)) ≤ d * (-(n.tdiv d)) := by
      have := Int.mul_le_mul_of_nonneg_right (show (1 : Int) ≤ d by omega) p
      omega
    rw [Int.mul_neg] at this
    have := l4 (by omega)
    omega

theorem hu_facts (n d : Int) (hd : 0 < d) : 2 * d * hu n d ≤ 2 * n + d ∧ 2 * n + d < 2 * d * hu n d + 2 * d := by
  unfold hu
  have h := Int.mul_ediv_add_emod (2 * n + d) (2 * d)
  have h1 := Int.emod_nonneg (2 * n + d) (show 2 * d ≠ 0 by omega)
  have h2 := Int.emod_lt_of_pos (2 * n + d) (show 0 < 2 * d by omega)
  omega

/-- What the document's answer begins with is the rounded number, or one more. -/
theorem hu_first (n d : Int) (hd : 0 < d) : (2 * n + d).tdiv (2 * d) = hu n d ∨ (2 * n + d).tdiv (2 * d) = hu n d + 1 := by
  obtain ⟨e, h1, h2, h3, h4⟩ := tdiv_facts (2 * n + d) (2 * d) (by omega)
  generalize hq : (2 * n + d).tdiv (2 * d) = q at *
  generalize hr : (2 * n + d).tmod (2 * d) = r at *
  by_cases p : r < 0
  · right
    have := hu_of n d (q - 1) hd (by rw [Int.mul_sub]; omega) (by rw [Int.mul_sub]; omega)
    omega
  · left
    exact (hu_of n d q hd (by omega) (by omega)).symm

theorem hu_le (n d B : Int) (hd : 0 < d) (hB : d ≤ B) (h1 : -B ≤ n) (h2 : n ≤ B) : -(2 * B) ≤ hu n d ∧ hu n d ≤ 2 * B := by
  obtain ⟨a, b⟩ := hu_facts n d hd
  have e : 2 * d * hu n d = 2 * (d * hu n d) := by rw [Int.mul_assoc]
  rw [e] at a b
  constructor
  · by_cases p : 0 ≤ hu n d
    · omega
    · have := Int.mul_le_mul_of_nonneg_right (show (1 : Int) ≤ d by omega) (show 0 ≤ -(hu n d) by omega)
      rw [Int.one_mul, Int.mul_neg] at this; omega
  · by_cases p : 0 ≤ hu n d
    · have := Int.mul_le_mul_of_nonneg_right (show (1 : Int) ≤ d by omega) p
      omega
    · omega

/-- Is n from -m to m? -/
def wi (n m : Int) : Bool := decide (-m ≤ n) && decide (n ≤ m)
theorem wi_yes {n m : Int} (h : wi n m = true) : -m ≤ n ∧ n ≤ m := by simpa [wi] using h
theorem wi_no {n m : Int} (h : wi n m = false) : n < -m ∨ m < n := by
  simp [wi] at h; omega

/-- Are a map's numbers such as may be? -/
def fairB (a b c d x y : Int) : Bool := wi a 65536 && wi b 65536 && (wi c 65536 && wi d 65536) && (wi x 16384 && wi y 16384)
/-- Is a place in range? -/
def inB (x y : Int) : Bool := wi x 16384 && wi y 16384

/-- Place's answer: the spot, and the error's number. -/
def placeV (a b c d x y s t : Int) : Int × Int × Int :=
  if (wi s 8192 && wi t 8192) = false then (0, 0, 4)
  else if fairB a b c d x y = false then (0, 0, 5)
  else if inB (x + hu (a * s + b * t) 2048) (y + hu (c * s + d * t) 2048) = false then (0, 0, 6)
  else (x + hu (a * s + b * t) 2048, y + hu (c * s + d * t) 2048, 0)

theorem hu_2048 (n : Int) : hu n 2048 = (2 * n + 2048) / 4096 := rfl
theorem mul_bd (a s A S : Int) (ha : -A ≤ a ∧ a ≤ A) (hs : -S ≤ s ∧ s ≤ S) : -(A * S) ≤ a * s ∧ a * s ≤ A * S := by
  have hA : 0 ≤ A := by omega
  have hS : 0 ≤ S := by omega
  have h : (a * s).natAbs ≤ (A * S).natAbs := by
    rw [Int.natAbs_mul, Int.natAbs_mul]
    exact Nat.mul_le_mul (by omega) (by omega)
  have := Int.mul_nonneg hA hS
  omega

end Num
end Go.Proofs.Ytkhcjkmifddlbab

/- Out -/
namespace Go.Proofs.Ytkhcjkmifddlbab
namespace Num

/-- The first i below n at which f says yes; or -1. -/
def firstI (f : Nat → Bool) (n : Nat) : Int := match (List.range n).find? f with
  | some i => (i : Int)
  | none => -1
theorem find_range_hit (f : Nat → Bool) (n k : Nat) (hk : k < n) (h : f k = true) (hb : ∀ j, j < k → f j = false) : (List.range n).find? f = some k := by
  rw [List.find?_range_eq_some]
  exact ⟨h, by simpa using hk, fun j hj => by simp [hb j hj]⟩
theorem firstI_hit (f : Nat → Bool) (n k : Nat) (hk : k < n) (h : f k = true) (hb : ∀ j, j < k → f j = false) : firstI f n = k := by
  unfold firstI
  rw [find_range_hit f n k hk h hb]
theorem firstI_none (f : Nat → Bool) (n : Nat) (hb : ∀ j, j < n → f j = false) : firstI f n = -1 := by
  unfold firstI
  have : (List.range n).find? f = none := by
    rw [List.find?_eq_none]
    intro x hx
    simp at hx
    simp [hb x hx]
  rw [this]
theorem firstI_cases (f : Nat → Bool) (n : Nat) : (firstI f n = -1 ∧ ∀ j, j < n → f j = false) ∨ ∃ k, k < n ∧ f k = true ∧ (∀ j, j < k → f j = false) ∧ firstI f n = k := by
  by_cases h : ∀ j, j < n → f j = false
  · exact Or.inl ⟨firstI_none f n h, h⟩
  · right
    cases e : (List.range n).find? f with
    | none =>
      rw [List.find?_eq_none] at e
      exact absurd (fun j hj => by have := e j (by simpa using hj); simpa using this) h
    | some k =>
      rw [List.find?_range_eq_some] at e
      obtain ⟨a, b, c⟩ := e
      have b' : k < n := by simpa using b
      have c' : ∀ j, j < k → f j = false := fun j hj => by have := c j hj; simpa using this
      exact ⟨k, b', a, c', firstI_hit f n k b' a c'⟩
theorem firstI_congr (f g : Nat → Bool) (n : Nat) (h : ∀ j, j < n → f j = g j) : firstI f n = firstI g n := by
  rcases firstI_cases g n with ⟨e, hb⟩ | ⟨k, hk, ht, hb, e⟩
  · rw [e, firstI_none f n (fun j hj => by rw [h j hj]; exact hb j hj)]
  · rw [e, firstI_hit f n k hk (by rw [h k hk]; exact ht) (fun j hj => by rw [h j (by omega)]; exact hb j hj)]

/-- May a point of kind k stand between a and b? -/
def mayB (a k b : Int) : Bool := k == 0 || k == 1 || (k == 2 && ((a == 0 && b == 2) || (a == 2 && b == 0)))
/-- The kind ahead of point i, and behind it, in a ring of n. -/
def prevK (K : Nat → Int) (n i : Nat) : Int := if i = 0 then K (n - 1) else K (i - 1)
def nextK (K : Nat → Int) (n i : Nat) : Int := if i + 1 < n then K (i + 1) else K 0
def badB (K : Nat → Int) (n i : Nat) : Bool := !mayB (prevK K n i) (K i) (nextK K n i)
def shapeI (K : Nat → Int) (n : Nat) : Int := if n < 2 then (n : Int) else firstI (badB K n) n
def farB (X Y : Nat → Int) (i : Nat) : Bool := !(wi (X i) 4096 && wi (Y i) 4096)
def farI (X Y : Nat → Int) (n : Nat) : Int := firstI (farB X Y) n
/-- The points of the first k contours together. -/
def sumN (n : Nat → Nat) : Nat → Nat
  | 0 => 0
  | k + 1 => sumN n k + n k
theorem sumN_mono (n : Nat → Nat) {a b : Nat} (h : a ≤ b) : sumN n a ≤ sumN n b := by
  induction b with
  | zero => have : a = 0 := by omega
            subst this; exact Nat.le_refl _
  | succ b ih =>
    by_cases e : a = b + 1
    · subst e; exact Nat.le_refl _
    · have := ih (by omega); simp only [sumN]; omega
def manyB (N : Nat) (n : Nat → Nat) : Bool := decide (16 < N) || decide (200 < sumN n N)
/-- Check's answer. -/
def shapeAt (n : Nat → Nat) (K : Nat → Nat → Int) (i : Nat) : Bool := shapeI (K i) (n i) != -1
def farAt (n : Nat → Nat) (X Y : Nat → Nat → Int) (i : Nat) : Bool := farI (X i) (Y i) (n i) != -1
def chkV (N : Nat) (n : Nat → Nat) (X Y K : Nat → Nat → Int) : Int × Int × Int :=
  if manyB N n = true then (2, 0, 0)
  else if firstI (shapeAt n K) N ≠ -1 then (3, firstI (shapeAt n K) N, shapeI (K (firstI (shapeAt n K) N).toNat) (n (firstI (shapeAt n K) N).toNat))
  else if firstI (farAt n X Y) N ≠ -1 then (4, firstI (farAt n X Y) N, farI (X (firstI (farAt n X Y) N).toNat) (Y (firstI (farAt n X Y) N).toNat) (n (firstI (farAt n X Y) N).toNat))
  else (0, 0, 0)

theorem chk_many (N : Nat) (n : Nat → Nat) (X Y K : Nat → Nat → Int) (h : manyB N n = true) : chkV N n X Y K = (2, 0, 0) := by
  unfold chkV; rw [if_pos h]
theorem chk_shape (N : Nat) (n : Nat → Nat) (X Y K : Nat → Nat → Int) (h : manyB N n = false) (k : Nat) (hk : k < N) (hs : shapeAt n K k = true) (hb : ∀ j, j < k → shapeAt n K j = false) :
    chkV N n X Y K = (3, (k : Int), shapeI (K k) (n k)) := by
  unfold chkV
  rw [if_neg (by simp [h]), firstI_hit _ N k hk hs hb, if_pos (by omega), Int.toNat_natCast]
theorem chk_far (N : Nat) (n : Nat → Nat) (X Y K : Nat → Nat → Int) (h : manyB N n = false) (hn : ∀ j, j < N → shapeAt n K j = false) (k : Nat) (hk : k < N) (hs : farAt n X Y k = true) (hb : ∀ j, j < k → farAt n X Y j = false) :
    chkV N n X Y K = (4, (k : Int), farI (X k) (Y k) (n k)) := by
  unfold chkV
  rw [if_neg (by simp [h]), firstI_none _ N hn, if_neg (by simp), firstI_hit _ N k hk hs hb, if_pos (by omega), Int.toNat_natCast]
theorem chk_ok (N : Nat) (n : Nat → Nat) (X Y K : Nat → Nat → Int) (h : manyB N n = false) (hn : ∀ j, j < N → shapeAt n K j = false) (hb : ∀ j, j < N → farAt n X Y j = false) :
    chkV N n X Y K = (0, 0, 0) := by
  unfold chkV
  rw [if_neg (by simp [h]), firstI_none _ N hn, if_neg (by simp), firstI_none _ N hb, if_neg (by simp)]
/-- Where Check says OK. -/
theorem chk_cases (N : Nat) (n : Nat → Nat) (X Y K : Nat → Nat → Int) :
    ((chkV N n X Y K).1 = 0 ∧ manyB N n = false ∧ (∀ j, j < N → shapeAt n K j = false) ∧ ∀ j, j < N → farAt n X Y j = false) ∨ (chkV N n X Y K).1 ≠ 0 := by
  cases h : manyB N n with
  | true => right; rw [chk_many N n X Y K h]; simp
  | false =>
    rcases firstI_cases (shapeAt n K) N with ⟨_, hn⟩ | ⟨k, hk, ht, hb, _⟩
    · rcases firstI_cases (farAt n X Y) N with ⟨_, hf⟩ | ⟨k, hk, ht, hb, _⟩
      · left; rw [chk_ok N n X Y K h hn hf]; exact ⟨rfl, rfl, hn, hf⟩
      · right; rw [chk_far N n X Y K h hn k hk ht hb]; simp
    · right; rw [chk_shape N n X Y K h k hk ht hb]; simp
theorem firstI_ge (f : Nat → Bool) (n : Nat) : firstI f n = -1 ∨ 0 ≤ firstI f n := by
  rcases firstI_cases f n with ⟨e, _⟩ | ⟨k, _, _, _, e⟩
  · exact Or.inl e
  · right; rw [e]; omega
theorem shapeI_ge (K : Nat → Int) (n : Nat) : shapeI K n = -1 ∨ 0 ≤ shapeI K n := by
  unfold shapeI
  split
  · right; omega
  · exact firstI_ge _ _
theorem prevK_mod (K : Nat → Int) (n i : Nat) (h : i < n) : K ((i + n - 1) % n) = prevK K n i := by
  unfold prevK
  split
  · rename_i e; subst e
    rw [show 0 + n - 1 = n - 1 by omega, Nat.mod_eq_of_lt (by omega)]
  · rw [show i + n - 1 = (i - 1) + n by omega, Nat.add_mod_right, Nat.mod_eq_of_lt (by omega)]
theorem nextK_mod (K : Nat → Int) (n i : Nat) (h : i < n) : K ((i + 1) % n) = nextK K n i := by
  unfold nextK
  split
  · rename_i e; rw [Nat.mod_eq_of_lt e]
  · rw [show i + 1 = n by omega, Nat.mod_self]
end Num
end Go.Proofs.Ytkhcjkmifddlbab

/- Mem -/
namespace Go.Proofs.Ytkhcjkmifddlbab
open Go.RowKit

/-- The n points of a ring: X k, Y k, of kind K k. -/
def RingAt (w : World) (a : Option Addr) (n : Nat) (X Y K : Nat → Int) : Prop :=
  n = 0 ∨ ∃ b off, a = some ⟨b, off, none⟩ ∧ ∀ k, k < n → w.cell? ⟨b, off + k * 3, none⟩ = some (.int .i64 (X k)) ∧ w.cell? ⟨b, off + k * 3 + 1, none⟩ = some (.int .i64 (Y k)) ∧ w.cell? ⟨b, off + k * 3 + 2, none⟩ = some (.int .i64 (K k))

theorem RingAt.below {w w' : World} {a : Option Addr} {n : Nat} {X Y K : Nat → Int} (h : RingAt w a n X Y K) (hb : Below w.heap.size w w') : RingAt w' a n X Y K := by
  rcases h with h | ⟨b, off, ha, hc⟩
  · exact Or.inl h
  · refine Or.inr ⟨b, off, ha, fun k hk => ?_⟩
    obtain ⟨c0, c1, c2⟩ := hc k hk
    have hlt : b < w.heap.size := World.block_lt_of_cell? w _ c0
    exact ⟨(hb.cell (p := ⟨b, _, none⟩) hlt).trans c0, (hb.cell (p := ⟨b, _, none⟩) hlt).trans c1, (hb.cell (p := ⟨b, _, none⟩) hlt).trans c2⟩

/-- The N contours of an outline: contour i has n i points. -/
def OutAt (w : World) (a : Option Addr) (N : Nat) (A : Nat → Option Addr) (C : Nat → Nat) (n : Nat → Nat) (X Y K : Nat → Nat → Int) : Prop :=
  (N = 0 ∨ ∃ b off, a = some ⟨b, off, none⟩ ∧ ∀ i, i < N → w.cell? ⟨b, off + i, none⟩ = some (.slice (A i) (n i) (C i))) ∧ ∀ i, i < N → RingAt w (A i) (n i) (X i) (Y i) (K i)

theorem OutAt.below {w w' : World} {a : Option Addr} {N : Nat} {A : Nat → Option Addr} {C n : Nat → Nat} {X Y K : Nat → Nat → Int} (h : OutAt w a N A C n X Y K) (hb : Below w.heap.size w w') : OutAt w' a N A C n X Y K := by
  refine ⟨?_, fun i hi => (h.2 i hi).below hb⟩
  rcases h.1 with h | ⟨b, off, ha, hc⟩
  · exact Or.inl h
  · refine Or.inr ⟨b, off, ha, fun i hi => ?_⟩
    have hlt : b < w.heap.size := World.block_lt_of_cell? w _ (hc i hi)
    exact (hb.cell (p := ⟨b, _, none⟩) hlt).trans (hc i hi)
end Go.Proofs.Ytkhcjkmifddlbab

/- Read -/
namespace Go.Proofs.Ytkhcjkmifddlbab
open Go.RowKit

section
variable {H : Type} {enc : TypeId × Value → H} {P : Program} {w : World} {base : Nat} {spare : Nat → Bool} {held : Bool}

/-- A struct whose fields are all ints of one cell each, in their order. -/
theorem struct_ints {t ti : TypeId} {fs : Array Field} {fuel : Nat} {cs : List Value} {x : DataW H × List MemPlace}
    (ht : P.underlying t = some (.struct fs)) (hi : P.underlying ti = some (.int .i64)) (h1 : P.cellsOf ti = 1) (hC : P.cellsOf t = fs.size)
    (hfs : ∀ i, i < fs.size → ∃ f, fs[i]? = some f ∧ f.type = ti ∧ f.offset = i)
    (h : DataW.trod enc P w base spare held fuel t cs = some x) :
    ∃ zs : List Int, cs = zs.map (Value.int .i64) ∧ zs.length = fs.size ∧ x = (.agg (zs.map fun z => .lit (.int .i64 z)), []) ∧ ∀ z ∈ zs, (Lit.int .i64 z).wf = true := by
  obtain ⟨xs, n, _, rfl, hl, hlen, hf⟩ := DataW.trod_struct ht h
  have key : ∀ i, i < fs.size → ∃ z : Int, cs[i]? = some (.int .i64 z) ∧ xs[i]? = some (.lit (.int .i64 z), []) ∧ (Lit.int .i64 z).wf = true := by
    intro i hlt
    obtain ⟨f, hfi, hft, hfo⟩ := hfs i hlt
    have e := hf i f hfi
    rw [hft, hfo, h1] at e
    have hx : ∃ y, xs[i]? = some y := ⟨xs[i], List.getElem?_eq_getElem (by omega)⟩
    obtain ⟨y, hy⟩ := hx
    rw [hy] at e
    obtain ⟨z, hc, hz, hw⟩ := DataW.trod_int hi e
    refine ⟨z, ?_, by rw [hy, hz], hw⟩
    have := congrArg (fun l => l[0]?) hc
    simpa [List.getElem?_take, List.getElem?_drop] using this
  refine ⟨cs.map intOf, ?_, by simp; omega, ?_, ?_⟩
  · apply List.ext_getElem?
    intro i
    by_cases hlt : i < fs.size
    · obtain ⟨z, hc, _, _⟩ := key i hlt
      simp [hc, intOf]
    · rw [List.getElem?_eq_none (by omega), List.getElem?_eq_none (by simp; omega)]
  · have e1 : xs.map (·.1) = (cs.map intOf).map fun z => DataW.lit (.int .i64 z) := by
      apply List.ext_getElem?
      intro i
      by_cases hlt : i < fs.size
      · obtain ⟨z, hc, hx, _⟩ := key i hlt
        simp [hc, hx, intOf]
      · rw [List.getElem?_eq_none (by simp; omega), List.getElem?_eq_none (by simp; omega)]
    have e2 : xs.flatMap (·.2) = [] := by
      rw [List.flatMap_eq_nil_iff]
      intro y hy
      obtain ⟨i, hi', rfl⟩ := List.mem_iff_getElem.1 hy
      obtain ⟨z, _, hx, _⟩ := key i (by omega)
      rw [List.getElem?_eq_getElem hi'] at hx
      simp at hx
      rw [hx]
    rw [e1, e2]
  · intro z hz
    obtain ⟨i, hi', rfl⟩ := List.mem_iff_getElem.1 hz
    simp at hi'
    obtain ⟨z', hc, _, hw⟩ := key i (by omega)
    have : cs[i] = .int .i64 z' := by
      rw [List.getElem?_eq_getElem hi'] at hc
      simpa using hc
    simp [this, intOf]
    exact hw
end

theorem list2 {α : Type} {l : List α} (h : l.length = 2) : ∃ a b, l = [a, b] := by
  match l, h with
  | [a, b], _ => exact ⟨a, b, rfl⟩
theorem list3 {α : Type} {l : List α} (h : l.length = 3) : ∃ a b c, l = [a, b, c] := by
  match l, h with
  | [a, b, c], _ => exact ⟨a, b, c, rfl⟩
theorem list6 {α : Type} {l : List α} (h : l.length = 6) : ∃ a b c d e f, l = [a, b, c, d, e, f] := by
  match l, h with
  | [a, b, c, d, e, f], _ => exact ⟨a, b, c, d, e, f, rfl⟩

end Go.Proofs.Ytkhcjkmifddlbab

/- Open -/
namespace Go.Proofs.Ytkhcjkmifddlbab
open Go.ChangeShapes Go.WideShapes Go.ChangeAt Go.RowKit Go.Deep

theorem cells_i : Try.prog.cellsOf 3 = 1 := by kernel_rfl
theorem cells_p : Try.prog.cellsOf 90 = 3 := by kernel_rfl
theorem cells_s : Try.prog.cellsOf 41 = 1 := by kernel_rfl

theorem addr_form {w : World} {a : Addr} {v : Value} (h : w.cell? (a.add 0) = some v) : a = ⟨a.block, a.off, none⟩ := by
  have hs := World.cell?_spot h
  obtain ⟨b, off, spot⟩ := a
  simp [Addr.add] at hs
  rw [hs]
theorem addr_add (b off i : Nat) : ((⟨b, off, none⟩ : Addr).add i) = ⟨b, off + i, none⟩ := by
  unfold Addr.add
  split
  · rename_i h; simp_all
  · simp

section
variable {H : Type} {enc : TypeId × Value → H} {w : World} {spare : Nat → Bool} {held : Bool}

set_option maxRecDepth 100000 in
theorem open_pt {fuel : Nat} {cs : List Value} {x : DataW H × List MemPlace} (h : DataW.trod enc Try.prog w 0 spare held fuel 90 cs = some x) : ∃ a b c : Int, cs = [.int .i64 a, .int .i64 b, .int .i64 c] := by
  obtain ⟨zs, hz, hl, _, _⟩ := struct_ints Try.underlying90 Try.underlying3 cells_i cells_p (by
    intro i hi
    have hi : i < 3 := hi
    rcases (show i = 0 ∨ i = 1 ∨ i = 2 by omega) with rfl | rfl | rfl <;> exact ⟨_, rfl, rfl, rfl⟩) h
  obtain ⟨a, b, c, rfl⟩ := list3 hl
  exact ⟨a, b, c, by simpa using hz⟩

/-- A ring as it is read. -/
def RingRead (w : World) (v : Value) (d : DataW H) (r : Option Addr × Nat × Nat × (Nat → Int) × (Nat → Int) × (Nat → Int)) : Prop :=
  v = .slice r.1 r.2.1 r.2.2.1 ∧ RingAt w r.1 r.2.1 r.2.2.2.1 r.2.2.2.2.1 r.2.2.2.2.2 ∧ r.2.1 + 1 ≤ Rows.uptoBulk d

theorem bulk_len (l : List (DataW H)) : l.length ≤ Rows.uptoBulkAll l := by
  induction l with
  | nil => simp [Rows.uptoBulkAll]
  | cons x r ih =>
    have : 1 ≤ Rows.uptoBulk x := by
      cases x with
      | lit l => cases l <;> simp [Rows.uptoBulk]
      | nil => simp [Rows.uptoBulk]
      | ptr d => simp [Rows.uptoBulk]
      | slice elems spare => simp [Rows.uptoBulk]
      | agg parts => simp [Rows.uptoBulk]
      | iface t d => simp [Rows.uptoBulk]
      | map entries => simp [Rows.uptoBulk]
      | held h => simp [Rows.uptoBulk]
    simp only [Rows.uptoBulkAll, List.length_cons]; omega

set_option maxRecDepth 100000 in
theorem open_ring {fuel : Nat} {v : Value} {x : DataW H × List MemPlace} (h : DataW.trod enc Try.prog w 0 spare held fuel 41 [v] = some x) : ∃ r, RingRead w v x.1 r := by
  rcases open_slice Try.underlying41 h with ⟨hcs, rfl⟩ | ⟨a, len, cap, m, n, D, Pl, hcs, _, hl, hm, hmm, rfl, hx⟩
  · simp at hcs
    exact ⟨(none, 0, 0, fun _ => 0, fun _ => 0, fun _ => 0), hcs, .inl rfl, by simp [Rows.uptoBulk]⟩
  · simp at hcs
    rw [cells_p] at hx
    have hlm : len ≤ m := by rw [hmm]; split <;> omega
    have key : ∀ i, ∃ q : Int × Int × Int, i < len → w.cell? (a.add (i * 3)) = some (.int .i64 q.1) ∧ w.cell? ((a.add (i * 3)).add 1) = some (.int .i64 q.2.1) ∧ w.cell? ((a.add (i * 3)).add 2) = some (.int .i64 q.2.2) := by
      intro i
      by_cases hi : i < len
      · obtain ⟨cs', h1, h2⟩ := hx i (by omega)
        obtain ⟨p, q, r, rfl⟩ := open_pt h2
        obtain ⟨_, _, h3⟩ := World.cells?_some h1
        refine ⟨(p, q, r), fun _ => ⟨?_, ?_, ?_⟩⟩
        · have := h3 0 (by omega)
          simpa [Addr.add] using this
        · exact h3 1 (by omega)
        · exact h3 2 (by omega)
      · exact ⟨(0, 0, 0), fun h => absurd h hi⟩
    obtain ⟨f, hf⟩ := Classical.skolem.1 key
    refine ⟨(some a, len, cap, fun i => (f i).1, fun i => (f i).2.1, fun i => (f i).2.2), hcs, ?_, ?_⟩
    · rcases Nat.eq_zero_or_pos len with h0 | h0
      · exact .inl h0
      · have e := addr_form (by simpa using (hf 0 h0).1)
        refine .inr ⟨a.block, a.off, by rw [← e], fun k hk => ?_⟩
        obtain ⟨c0, c1, c2⟩ := hf k hk
        rw [e, addr_add] at c0
        rw [e, addr_add, addr_add] at c1 c2
        exact ⟨c0, c1, c2⟩
    · simp only [Rows.uptoBulk]
      have := bulk_len ((List.range len).map D)
      simp at this
      omega

set_option maxRecDepth 100000 in
theorem open_outline {fuel : Nat} {v : Value} {x : DataW H × List MemPlace} (h : DataW.trod enc Try.prog w 0 spare held fuel 22 [v] = some x) :
    ∃ (a : Option Addr) (N c : Nat) (A : Nat → Option Addr) (C n : Nat → Nat) (X Y K : Nat → Nat → Int), v = .slice a N c ∧ OutAt w a N A C n X Y K ∧ N ≤ Rows.uptoBulk x.1 ∧ (∀ i, i < N → n i ≤ Rows.uptoBulk x.1) ∧ Num.sumN n N ≤ Rows.uptoBulk x.1 := by
  rcases open_slice1 Try.underlying22 cells_s h with ⟨hcs, rfl⟩ | ⟨a, len, cap, m, n, V, D, Pl, hcs, _, hl, hm, hmm, rfl, hx⟩
  · simp at hcs
    exact ⟨none, 0, 0, fun _ => none, fun _ => 0, fun _ => 0, fun _ _ => 0, fun _ _ => 0, fun _ _ => 0, hcs, ⟨.inl rfl, fun i hi => by omega⟩, by omega, fun i hi => by omega, by simp [Num.sumN]⟩
  · simp at hcs
    have hlm : len ≤ m := by rw [hmm]; split <;> omega
    have key : ∀ i, ∃ r, i < len → RingRead w (V i) (D i) r := by
      intro i
      by_cases hi : i < len
      · obtain ⟨r, hr⟩ := open_ring (hx i (by omega)).2
        exact ⟨r, fun _ => hr⟩
      · exact ⟨(none, 0, 0, fun _ => 0, fun _ => 0, fun _ => 0), fun h => absurd h hi⟩
    obtain ⟨f, hf⟩ := Classical.skolem.1 key
    have hsum : ∀ k, k ≤ len → Num.sumN (fun i => (f i).2.1) k ≤ Rows.uptoBulkAll ((List.range k).map D) := by
      intro k
      induction k with
      | zero => intro _; simp [Num.sumN]
      | succ k ih =>
        intro hk
        have i1 := ih (by omega)
        have i2 := (hf k (by omega)).2.2
        have e : Rows.uptoBulkAll ((List.range (k + 1)).map D) = Rows.uptoBulkAll ((List.range k).map D) + Rows.uptoBulk (D k) := by
          rw [List.range_succ, List.map_append]
          have ap : ∀ (l r : List (DataW H)), Rows.uptoBulkAll (l ++ r) = Rows.uptoBulkAll l + Rows.uptoBulkAll r := by
            intro l r
            induction l with
            | nil => simp [Rows.uptoBulkAll]
            | cons x l ih => simp only [List.cons_append, Rows.uptoBulkAll, ih]; omega
          rw [ap]; simp [Rows.uptoBulkAll]
        rw [e]
        simp only [Num.sumN]
        omega
    have hN := bulk_len ((List.range len).map D)
    simp at hN
    have hS := hsum len (Nat.le_refl _)
    have hb : Rows.uptoBulkAll ((List.range len).map D) ≤ Rows.uptoBulk (.slice ((List.range len).map D) ((List.range (m - len)).map fun j => D (len + j))) := by
      simp only [Rows.uptoBulk]; omega
    refine ⟨some a, len, cap, fun i => (f i).1, fun i => (f i).2.2.1, fun i => (f i).2.1, fun i => (f i).2.2.2.1, fun i => (f i).2.2.2.2.1, fun i => (f i).2.2.2.2.2, hcs, ⟨?_, fun i hi => (hf i hi).2.1⟩, by dsimp only; omega, ?_, by dsimp only; omega⟩
    · rcases Nat.eq_zero_or_pos len with h0 | h0
      · exact .inl h0
      · have e := addr_form (hx 0 (by omega)).1
        refine .inr ⟨a.block, a.off, by rw [← e], fun i hi => ?_⟩
        have c := (hx i (by omega)).1
        rw [e, addr_add, (hf i hi).1] at c
        exact c
    · intro i hi
      have h1 := Num.sumN_mono (fun i => (f i).2.1) (show i + 1 ≤ len by omega)
      simp only [Num.sumN] at h1
      dsimp only
      omega
end
end Go.Proofs.Ytkhcjkmifddlbab

/- OpenK -/
namespace Go.Proofs.Ytkhcjkmifddlbab
open Go.ChangeShapes Go.WideShapes Go.ChangeAt Go.RowKit Go.Deep

theorem own_k : ownKnob Try.prog.godebug = none := by kernel_rfl
theorem laidOut_k : laidOutB Try.prog = true := by kernel_rfl
section
variable {H : Type} {enc : TypeId × Value → H} {w : World} {spare : Nat → Bool} {held : Bool}
set_option maxRecDepth 100000 in
/-- All arguments read as they did. -/
theorem belowAll {W W' : World} (bel : Below W.heap.size W W') : ∀ (ts : List TypeId) (vs : List Value) (ds : List (DataW H)) (ps : List MemPlace), (∀ t ∈ ts, Try.prog.readableRec t = true ∧ t < Try.prog.types.size) →
    DataW.TrodAll enc Try.prog W 0 (fun _ => true) true ts vs ds ps → DataW.TrodAll enc Try.prog W' 0 (fun b => decide (b < W.heap.size)) true ts vs ds ps := by
  intro ts
  induction ts with
  | nil =>
    intro vs ds ps _ h
    obtain ⟨rfl, rfl, rfl⟩ := trodAll_nil h
    rfl
  | cons t ts ih =>
    intro vs ds ps ht h
    obtain ⟨v, vs', d, ds', p, q, rfl, rfl, rfl, h1, h2⟩ := trodAll_cons h
    have hlt : ∀ x ∈ p, x.block < W.heap.size := by obtain ⟨m, hm⟩ := h1; exact DataW.trod_lt m _ _ _ hm
    exact trodAll_cons_mk (Below.trod laidOut_k (ht t (by simp)).1 (ht t (by simp)).2 h1 bel hlt) (ih vs' ds' q (fun t' ht' => ht t' (by simp [ht'])) h2)
set_option maxRecDepth 100000 in
theorem open_int {base b0 : Nat} {r : Reach} {v : Value} {d : DataW H} {p : List MemPlace} (hv : Value.okWide Try.prog w r b0 3 v) (h : DataW.Trod enc Try.prog w base spare held 3 v d p) : ∃ z : Int, v = .int .i64 z ∧ -9223372036854775808 ≤ z ∧ z ≤ 9223372036854775807 := by
  obtain ⟨kd, rfl⟩ := okWide_int Try.underlying3 hv
  refine ⟨kd, rfl, ?_⟩
  obtain ⟨fuel, hf⟩ := h
  obtain ⟨z, hz, _, hw⟩ := DataW.trod_int Try.underlying3 hf
  have hz : kd = z := by simpa [Value.cells] using hz
  subst hz
  have m1 : IntKind.i64.min = -9223372036854775808 := by decide
  have m2 : IntKind.i64.max = 9223372036854775807 := by decide
  simp only [Lit.wf, Bool.and_eq_true, decide_eq_true_eq, m1, m2] at hw
  exact hw
end
end Go.Proofs.Ytkhcjkmifddlbab

/- OpenO -/
namespace Go.Proofs.Ytkhcjkmifddlbab
open Go.ChangeShapes Go.WideShapes Go.ChangeAt Go.RowKit Go.Deep

def I64 (z : Int) : Prop := -9223372036854775808 ≤ z ∧ z ≤ 9223372036854775807
theorem i64_wf {z : Int} (h : (Lit.int .i64 z).wf = true) : I64 z := by
  have m1 : IntKind.i64.min = -9223372036854775808 := by decide
  have m2 : IntKind.i64.max = 9223372036854775807 := by decide
  simp only [Lit.wf, Bool.and_eq_true, decide_eq_true_eq, m1, m2] at h
  exact h
theorem i64_zero : I64 0 := by unfold I64; omega
theorem maxLen_le : (maxLen : Int) ≤ 9223372036854775807 := by unfold maxLen; omega
section
variable {H : Type} {enc : TypeId × Value → H} {w : World} {spare : Nat → Bool} {held : Bool}
set_option maxRecDepth 100000 in
theorem open_ptB {fuel : Nat} {cs : List Value} {x : DataW H × List MemPlace} (h : DataW.trod enc Try.prog w 0 spare held fuel 90 cs = some x) : ∃ a b c : Int, cs = [.int .i64 a, .int .i64 b, .int .i64 c] ∧ I64 a ∧ I64 b ∧ I64 c := by
  obtain ⟨zs, hz, hl, _, hw⟩ := struct_ints Try.underlying90 Try.underlying3 cells_i cells_p (by
    intro i hi
    have hi : i < 3 := hi
    rcases (show i = 0 ∨ i = 1 ∨ i = 2 by omega) with rfl | rfl | rfl <;> exact ⟨_, rfl, rfl, rfl⟩) h
  obtain ⟨a, b, c, rfl⟩ := list3 hl
  exact ⟨a, b, c, by simpa using hz, i64_wf (hw a (by simp)), i64_wf (hw b (by simp)), i64_wf (hw c (by simp))⟩
set_option maxRecDepth 100000 in
theorem open_ringB {fuel : Nat} {v : Value} {x : DataW H × List MemPlace} (h : DataW.trod enc Try.prog w 0 spare held fuel 41 [v] = some x) :
    ∃ (r : Option Addr × Nat × Nat × (Nat → Int) × (Nat → Int) × (Nat → Int)), v = .slice r.1 r.2.1 r.2.2.1 ∧ RingAt w r.1 r.2.1 r.2.2.2.1 r.2.2.2.2.1 r.2.2.2.2.2 ∧ (∀ i, I64 (r.2.2.2.1 i)) ∧ (∀ i, I64 (r.2.2.2.2.1 i)) ∧ ∀ i, I64 (r.2.2.2.2.2 i) := by
  rcases open_slice Try.underlying41 h with ⟨hcs, rfl⟩ | ⟨a, len, cap, m, n, D, Pl, hcs, _, hl, hm, hmm, rfl, hx⟩
  · simp at hcs
    exact ⟨(none, 0, 0, fun _ => 0, fun _ => 0, fun _ => 0), hcs, .inl rfl, fun _ => i64_zero, fun _ => i64_zero, fun _ => i64_zero⟩
  · simp at hcs
    rw [cells_p] at hx
    have hlm : len ≤ m := by rw [hmm]; split <;> omega
    have key : ∀ i, ∃ q : Int × Int × Int, (I64 q.1 ∧ I64 q.2.1 ∧ I64 q.2.2) ∧ (i < len → w.cell? (a.add (i * 3)) = some (.int .i64 q.1) ∧ w.cell? ((a.add (i * 3)).add 1) = some (.int .i64 q.2.1) ∧ w.cell? ((a.add (i * 3)).add 2) = some (.int .i64 q.2.2)) := by
      intro i
      by_cases hi : i < len
      · obtain ⟨cs', h1, h2⟩ := hx i (by omega)
        obtain ⟨p, q, r, rfl, b1, b2, b3⟩ := open_ptB h2
        obtain ⟨_, _, h3⟩ := World.cells?_some h1
        refine ⟨(p, q, r), ⟨b1, b2, b3⟩, fun _ => ⟨?_, ?_, ?_⟩⟩
        · have := h3 0 (by omega)
          simpa [Addr.add] using this
        · exact h3 1 (by omega)
        · exact h3 2 (by omega)
      · exact ⟨(0, 0, 0), ⟨i64_zero, i64_zero, i64_zero⟩, fun h => absurd h hi⟩
    obtain ⟨f, hf⟩ := Classical.skolem.1 key
    refine ⟨(some a, len, cap, fun i => (f i).1, fun i => (f i).2.1, fun i => (f i).2.2), hcs, ?_, fun i => (hf i).1.1, fun i => (hf i).1.2.1, fun i => (hf i).1.2.2⟩
    rcases Nat.eq_zero_or_pos len with h0 | h0
    · exact .inl h0
    · have e := addr_form (by simpa using ((hf 0).2 h0).1)
      refine .inr ⟨a.block, a.off, by rw [← e], fun k hk => ?_⟩
      obtain ⟨c0, c1, c2⟩ := (hf k).2 hk
      rw [e, addr_add] at c0
      rw [e, addr_add, addr_add] at c1 c2
      exact ⟨c0, c1, c2⟩
set_option maxRecDepth 100000 in
theorem open_outlineB {fuel : Nat} {v : Value} {x : DataW H × List MemPlace} (h : DataW.trod enc Try.prog w 0 spare held fuel 22 [v] = some x) :
    ∃ (a : Option Addr) (N c : Nat) (A : Nat → Option Addr) (C n : Nat → Nat) (X Y K : Nat → Nat → Int), v = .slice a N c ∧ OutAt w a N A C n X Y K ∧ (N : Int) ≤ 9223372036854775807 ∧ (∀ j i, I64 (X j i)) ∧ (∀ j i, I64 (Y j i)) ∧ ∀ j i, I64 (K j i) := by
  rcases open_slice1 Try.underlying22 cells_s h with ⟨hcs, rfl⟩ | ⟨a, len, cap, m, n, V, D, Pl, hcs, _, hl, hm, hmm, rfl, hx⟩
  · simp at hcs
    exact ⟨none, 0, 0, fun _ => none, fun _ => 0, fun _ => 0, fun _ _ => 0, fun _ _ => 0, fun _ _ => 0, hcs, ⟨.inl rfl, fun i hi => by omega⟩, by omega, fun _ _ => i64_zero, fun _ _ => i64_zero, fun _ _ => i64_zero⟩
  · simp at hcs
    have hlm : len ≤ m := by rw [hmm]; split <;> omega
    have key : ∀ i, ∃ r : Option Addr × Nat × Nat × (Nat → Int) × (Nat → Int) × (Nat → Int), ((∀ i, I64 (r.2.2.2.1 i)) ∧ (∀ i, I64 (r.2.2.2.2.1 i)) ∧ ∀ i, I64 (r.2.2.2.2.2 i)) ∧ (i < len → V i = .slice r.1 r.2.1 r.2.2.1 ∧ RingAt w r.1 r.2.1 r.2.2.2.1 r.2.2.2.2.1 r.2.2.2.2.2) := by
      intro i
      by_cases hi : i < len
      · obtain ⟨r, h1, h2, b⟩ := open_ringB (hx i (by omega)).2
        exact ⟨r, b, fun _ => ⟨h1, h2⟩⟩
      · exact ⟨(none, 0, 0, fun _ => 0, fun _ => 0, fun _ => 0), ⟨fun _ => i64_zero, fun _ => i64_zero, fun _ => i64_zero⟩, fun h => absurd h hi⟩
    obtain ⟨f, hf⟩ := Classical.skolem.1 key
    refine ⟨some a, len, cap, fun i => (f i).1, fun i => (f i).2.2.1, fun i => (f i).2.1, fun i => (f i).2.2.2.1, fun i => (f i).2.2.2.2.1, fun i => (f i).2.2.2.2.2, hcs, ⟨?_, fun i hi => ((hf i).2 hi).2⟩, by have := maxLen_le; omega, fun j i => (hf j).1.1 i, fun j i => (hf j).1.2.1 i, fun j i => (hf j).1.2.2 i⟩
    rcases Nat.eq_zero_or_pos len with h0 | h0
    · exact .inl h0
    · have c0 := (hx 0 (by omega)).1
      have e := addr_form (by simpa using c0)
      refine .inr ⟨a.block, a.off, by rw [← e], fun i hi => ?_⟩
      have ci := (hx i (by omega)).1
      rw [e, addr_add] at ci
      rw [ci, ((hf i).2 hi).1]
set_option maxRecDepth 100000 in
theorem open_mapB {r : Reach} {b0 base : Nat} {v : Value} {d : DataW H} {p : List MemPlace} (hv : Value.okWide Try.prog w r b0 24 v) (h : DataW.Trod enc Try.prog w base spare held 24 v d p) :
    ∃ a b c d x y : Int, v = .agg #[.int .i64 a, .int .i64 b, .int .i64 c, .int .i64 d, .int .i64 x, .int .i64 y] := by
  obtain ⟨cs, rfl, hsz⟩ := okWide_struct Try.underlying24 hv
  obtain ⟨fuel, hf⟩ := h
  obtain ⟨zs, hz, hl, _, _⟩ := struct_ints Try.underlying24 Try.underlying3 cells_i (by kernel_rfl) (by
    intro i hi
    have hi : i < 6 := hi
    rcases (show i = 0 ∨ i = 1 ∨ i = 2 ∨ i = 3 ∨ i = 4 ∨ i = 5 by omega) with rfl | rfl | rfl | rfl | rfl | rfl <;> exact ⟨_, rfl, rfl, rfl⟩) hf
  obtain ⟨a, b, c, d, x, y, rfl⟩ := list6 hl
  refine ⟨a, b, c, d, x, y, ?_⟩
  simp [Value.cells] at hz
  obtain ⟨l⟩ := cs
  simp at hz
  rw [hz]
end
end Go.Proofs.Ytkhcjkmifddlbab

/- Chord -/
namespace Go.Proofs.Ytkhcjkmifddlbab
namespace Num

/-- u times a and i times b. -/
def mx (u i a b : Int) : Int := u * a + i * b
/-- The document's sums. -/
def qSum (u i a b c : Int) : Int := u * u * a + 2 * i * u * b + i * i * c
def cSum (u i a b c d : Int) : Int := u * u * u * a + 3 * i * u * u * b + 3 * i * i * u * c + i * i * i * d

theorem mx_quad (u i a b c : Int) : mx u i (mx u i a b) (mx u i b c) = qSum u i a b c := by
  unfold mx qSum
  have e1 : u * (u * a + i * b) = u * u * a + i * u * b := by rw [Int.mul_add, ← Int.mul_assoc, ← Int.mul_assoc, Int.mul_comm u i]
  have e2 : i * (u * b + i * c) = i * u * b + i * i * c := by rw [Int.mul_add, ← Int.mul_assoc, ← Int.mul_assoc]
  have e3 : 2 * i * u * b = 2 * (i * u * b) := by rw [Int.mul_assoc 2 i u, Int.mul_assoc 2]
  omega

theorem mx_cubic (u i a b c d : Int) : mx u i (mx u i (mx u i a b) (mx u i b c)) (mx u i (mx u i b c) (mx u i c d)) = cSum u i a b c d := by
  rw [mx_quad u i a b c, mx_quad u i b c d]
  unfold mx qSum cSum
  have e1 : u * (u * u * a + 2 * i * u * b + i * i * c) = u * u * u * a + 2 * (i * u * u * b) + i * i * u * c := by
    rw [Int.mul_add, Int.mul_add]
    have a1 : u * (u * u * a) = u * u * u * a := by simp only [Int.mul_assoc]
    have a2 : u * (2 * i * u * b) = 2 * (i * u * u * b) := by simp only [Int.mul_assoc, Int.mul_left_comm u]
    have a3 : u * (i * i * c) = i * i * u * c := by simp only [Int.mul_assoc, Int.mul_left_comm u]
    omega
  have e2 : i * (u * u * b + 2 * i * u * c + i * i * d) = i * u * u * b + 2 * (i * i * u * c) + i * i * i * d := by
    rw [Int.mul_add, Int.mul_add]
    have a1 : i * (u * u * b) = i * u * u * b := by simp only [Int.mul_assoc]
    have a2 : i * (2 * i * u * c) = 2 * (i * i * u * c) := by simp only [Int.mul_assoc, Int.mul_left_comm i 2]
    have a3 : i * (i * i * d) = i * i * i * d := by simp only [Int.mul_assoc]
    omega
  have e3 : 3 * i * u * u * b = 3 * (i * u * u * b) := by simp only [Int.mul_assoc]
  have e4 : 3 * i * i * u * c = 3 * (i * i * u * c) := by simp only [Int.mul_assoc]
  omega

/-- n is the least number from 1 on with 16nn at least d. -/
def IsSteps (d n : Int) : Prop := 1 ≤ n ∧ d ≤ 16 * n * n ∧ ∀ m, 1 ≤ m → m < n → 16 * m * m < d
theorem IsSteps.unique {d n m : Int} (h : IsSteps d n) (k : IsSteps d m) : n = m := by
  rcases Int.lt_trichotomy n m with h1 | h1 | h1
  · have := k.2.2 n h.1 h1; have := h.2.1; omega
  · exact h1
  · have := h.2.2 m k.1 h1; have := k.2.1; omega
theorem sq_mono {a b : Int} (h0 : 0 ≤ a) (h : a ≤ b) : 16 * a * a ≤ 16 * b * b := by
  have h1 : a * a ≤ b * b := Int.mul_le_mul h h h0 (by omega)
  have e1 : 16 * a * a = 16 * (a * a) := Int.mul_assoc _ _ _
  have e2 : 16 * b * b = 16 * (b * b) := Int.mul_assoc _ _ _
  omega
theorem IsSteps.le {d n B : Int} (h : IsSteps d n) (hB : 1 ≤ B) (hd : d ≤ 16 * B * B) : n ≤ B := by
  rcases Int.lt_or_le B n with h1 | h1
  · have := h.2.2 B hB h1; omega
  · exact h1
end Num
end Go.Proofs.Ytkhcjkmifddlbab

/- Segs -/
namespace Go.Proofs.Ytkhcjkmifddlbab
namespace Num

/-- A segment: its kind, and the numbers of its four spots. -/
structure Sg where
  k : Int
  x0 : Int
  y0 : Int
  x1 : Int
  y1 : Int
  x2 : Int
  y2 : Int
  x3 : Int
  y3 : Int

def initS (p : Int × Int × Int) : Sg := ⟨0, p.1, p.2.1, 0, 0, 0, 0, 0, 0⟩
def setTo (g : Sg) (p : Int × Int × Int) : Sg := { g with x3 := p.1, y3 := p.2.1 }
/-- One more control: the program's way, and the document's. -/
def addP (g : Sg) (p : Int × Int × Int) : Sg := if g.k = 0 then { g with k := p.2.2, x1 := p.1, y1 := p.2.1 } else { g with x2 := p.1, y2 := p.2.1 }
def addR (g : Sg) (m : Nat) (p : Int × Int × Int) : Sg := if m = 0 then { g with k := p.2.2, x1 := p.1, y1 := p.2.1 } else { g with k := p.2.2, x2 := p.1, y2 := p.2.1 }

/-- The program's walk over a list of points. -/
def walkL : List (Int × Int × Int) → Sg → List Sg
  | [], _ => []
  | p :: r, g => if p.2.2 = 0 then setTo g p :: walkL r (initS p) else walkL r (addP g p)

section
variable (X Y K : Nat → Int) (n : Nat)

/-- Stop t of a ring, if it is there. -/
def stp (t : Nat) : Option (Int × Int × Int) :=
  if t % 2 = 0 then some (2 * X (t / 2 % n), 2 * Y (t / 2 % n), K (t / 2 % n))
  else if K (t / 2 % n) = 1 ∧ K ((t / 2 + 1) % n) = 1 then some (X (t / 2 % n) + X ((t / 2 + 1) % n), Y (t / 2 % n) + Y ((t / 2 + 1) % n), 0) else none
def onB (t : Nat) : Bool := match stp X Y K n t with
  | some p => p.2.2 == 0
  | none => false
/-- The document's scan for a segment's end. -/
def scanR : Nat → Nat → Sg → Nat → Sg
  | 0, _, g, _ => g
  | d + 1, k, g, m => match stp X Y K n k with
    | none => scanR d (k + 1) g m
    | some p => if p.2.2 = 0 then setTo g p else scanR d (k + 1) (addR g m p) (m + 1)
/-- The numbers of stop t, there or not. -/
def stv (t : Nat) : Int × Int × Int :=
  if t % 2 = 0 then (2 * X (t / 2 % n), 2 * Y (t / 2 % n), K (t / 2 % n))
  else (X (t / 2 % n) + X ((t / 2 + 1) % n), Y (t / 2 % n) + Y ((t / 2 + 1) % n), 0)
def fromV (t : Nat) : Sg := scanR X Y K n (2 * n) (t + 1) (initS (stv X Y K n t)) 0
def refF (t : Nat) : Option Sg := if onB X Y K n t = true then some (fromV X Y K n t) else none
/-- The document's segments of a ring. -/
def refRing : List Sg := (List.range (2 * n)).filterMap (refF X Y K n)

/-- The program's list with the implied points. -/
def nx (i : Nat) : Nat := if i + 1 < n then i + 1 else 0
def impF (i : Nat) : List (Int × Int × Int) := (2 * X i, 2 * Y i, K i) :: if K i = 1 ∧ K (nx n i) = 1 then [(X i + X (nx n i), Y i + Y (nx n i), 0)] else []
def imp : List (Int × Int × Int) := (List.range n).flatMap (impF X Y K n)
end

section
variable {X Y K : Nat → Int} {n : Nat}

theorem stp_stv {t : Nat} {p : Int × Int × Int} (h : stp X Y K n t = some p) : stv X Y K n t = p := by
  unfold stp at h
  unfold stv
  split at h
  · rename_i e; rw [if_pos e]; simpa using h
  · rename_i e
    split at h
    · rw [if_neg e]; simpa using h
    · cases h

theorem stp_period (t : Nat) : stp X Y K n (t + 2 * n) = stp X Y K n t := by
  unfold stp
  rw [show (t + 2 * n) % 2 = t % 2 by omega, show (t + 2 * n) / 2 = t / 2 + n by omega, show t / 2 + n + 1 = (t / 2 + 1) + n by omega, Nat.add_mod_right, Nat.add_mod_right]
theorem onB_period (t : Nat) : onB X Y K n (t + 2 * n) = onB X Y K n t := by
  unfold onB; rw [stp_period]

theorem nx_mod (i : Nat) (h : i < n) : nx n i = (i + 1) % n := by
  unfold nx
  split
  · rename_i e; rw [Nat.mod_eq_of_lt e]
  · rw [show i + 1 = n by omega, Nat.mod_self]

theorem imp_upto (i : Nat) (h : i ≤ n) : (List.range i).flatMap (impF X Y K n) = (List.range (2 * i)).filterMap (stp X Y K n) := by
  induction i with
  | zero => simp
  | succ i ih =>
    have ih := ih (by omega)
    rw [List.range_succ, List.flatMap_append, ih, show 2 * (i + 1) = 2 * i + 1 + 1 by omega, List.range_succ, List.range_succ, List.filterMap_append, List.filterMap_append, List.append_assoc]
    congr 1
    have e1 : (2 * i) / 2 = i := by omega
    have e2 : (2 * i + 1) / 2 = i := by omega
    have e3 : i % n = i := Nat.mod_eq_of_lt (by omega)
    have s1 : stp X Y K n (2 * i) = some (2 * X i, 2 * Y i, K i) := by
      unfold stp; rw [if_pos (by omega), e1, e3]
    have s2 : stp X Y K n (2 * i + 1) = if K i = 1 ∧ K (nx n i) = 1 then some (X i + X (nx n i), Y i + Y (nx n i), 0) else none := by
      unfold stp; rw [if_neg (by omega), e2, e3, nx_mod i (by omega)]
    simp only [List.flatMap_cons, List.flatMap_nil, List.append_nil, impF, List.filterMap_cons, List.filterMap_nil, s1, s2]
    by_cases c : K i = 1 ∧ K (nx n i) = 1
    · simp [c]
    · simp [c]

theorem imp_eq : imp X Y K n = (List.range (2 * n)).filterMap (stp X Y K n) := imp_upto n (Nat.le_refl _)

/-- The stops from a on, d of them. -/
def stops (X Y K : Nat → Int) (n a d : Nat) : List (Int × Int × Int) := (List.range' a d).filterMap (stp X Y K n)
theorem stops_add (a d e : Nat) : stops X Y K n a (d + e) = stops X Y K n a d ++ stops X Y K n (a + d) e := by
  unfold stops
  rw [← List.filterMap_append]
  congr 1
  rw [← List.range'_append_1]
theorem stops_period (a d : Nat) : stops X Y K n (a + 2 * n) d = stops X Y K n a d := by
  unfold stops
  induction d generalizing a with
  | zero => rfl
  | succ d ih =>
    rw [List.range'_succ, List.range'_succ, List.filterMap_cons, List.filterMap_cons, stp_period]
    have := ih (a + 1)
    rw [show a + 2 * n + 1 = a + 1 + 2 * n by omega, this]
theorem stops_one (a : Nat) : stops X Y K n a 1 = (stp X Y K n a).toList := by
  unfold stops
  cases h : stp X Y K n a <;> simp [h]

/-- Both ways take one more control alike. -/
def Inv (K : Nat → Int) (n a : Nat) (g : Sg) (m : Nat) : Prop :=
  (m = 0 ∧ g.k = 0) ∨ (0 < m ∧ g.k ≠ 0 ∧ ((a % 2 = 1 ∧ K (a / 2 % n) = g.k) ∨ (a % 2 = 0 ∧ 2 ≤ a ∧ K ((a / 2 - 1) % n) = g.k ∧ ¬ (K ((a / 2 - 1) % n) = 1 ∧ K (a / 2 % n) = 1))))

theorem may_all (hn : 0 < n) (hs : ∀ i, i < n → badB K n i = false) (i : Nat) : mayB (K ((i + n - 1) % n)) (K (i % n)) (K ((i + 1) % n)) = true := by
  have hj : i % n < n := Nat.mod_lt _ hn
  have h := hs (i % n) hj
  unfold badB at h
  rw [← prevK_mod K n _ hj, ← nextK_mod K n _ hj] at h
  have e1 : (i % n + n - 1) % n = (i + n - 1) % n := by
    have hi := Nat.div_add_mod i n
    rw [show i + n - 1 = (i % n + n - 1) + n * (i / n) by omega, Nat.add_mul_mod_self_left]
  have e2 : (i % n + 1) % n = (i + 1) % n := by simp
  rw [e1, e2] at h
  simpa using h

theorem kinds_adj (hn : 0 < n) (hs : ∀ i, i < n → badB K n i = false) (i : Nat) (h1 : 1 ≤ i) (a : K ((i - 1) % n) ≠ 0) (b : K (i % n) ≠ 0) (c : ¬ (K ((i - 1) % n) = 1 ∧ K (i % n) = 1)) : K ((i - 1) % n) = K (i % n) := by
  have m1 := may_all hn hs i
  have m0 := may_all hn hs (i - 1)
  have e1 : (i + n - 1) % n = (i - 1) % n := by rw [show i + n - 1 = (i - 1) + n by omega, Nat.add_mod_right]
  have e2 : (i - 1 + 1) % n = i % n := by rw [show i - 1 + 1 = i by omega]
  rw [e1] at m1
  rw [e2] at m0
  simp [mayB] at m0 m1
  omega

theorem walk_ref (hn : 0 < n) (hs : ∀ i, i < n → badB K n i = false) (E : Nat) (hE : onB X Y K n E = true) :
    ∀ (d a s m : Nat) (g : Sg), s < a → a + d = E + 1 → E ≤ s + 2 * n → 1 ≤ d → fromV X Y K n s = scanR X Y K n (s + 2 * n + 1 - a) a g m → Inv K n a g m → (s % 2 = 1 ∨ 0 < a) →
      walkL (stops X Y K n a d) g = fromV X Y K n s :: (List.range' a (d - 1)).filterMap (refF X Y K n) := by
  intro d
  induction d with
  | zero => intro a s m g _ _ _ h; omega
  | succ d ih =>
    intro a s m g hsa had hEs _ hfrom hinv _
    have hst : stops X Y K n a (d + 1) = (stp X Y K n a).toList ++ stops X Y K n (a + 1) d := by
      rw [show d + 1 = 1 + d by omega, stops_add, stops_one]
    have hfu : s + 2 * n + 1 - a = (s + 2 * n + 1 - (a + 1)) + 1 := by omega
    rw [hst]
    cases hp : stp X Y K n a with
    | none =>
      have hd : 1 ≤ d := by
        rcases Nat.eq_zero_or_pos d with h0 | h0
        · exfalso
          have : a = E := by omega
          subst this
          simp [onB, hp] at hE
        · exact h0
      have hf2 : fromV X Y K n s = scanR X Y K n (s + 2 * n + 1 - (a + 1)) (a + 1) g m := by
        rw [hfrom, hfu]; simp only [scanR, hp]
      have hinv2 : Inv K n (a + 1) g m := by
        rcases hinv with h | ⟨hm, hk, hh⟩
        · exact .inl h
        · refine .inr ⟨hm, hk, ?_⟩
          unfold stp at hp
          split at hp
          · cases hp
          · rename_i ho
            split at hp
            · cases hp
            · rename_i hno
              rcases hh with ⟨_, h2⟩ | ⟨h1, _⟩
              · refine .inr ⟨by omega, by omega, ?_, ?_⟩
                · rw [show (a + 1) / 2 - 1 = a / 2 by omega]; exact h2
                · rw [show (a + 1) / 2 - 1 = a / 2 by omega, show (a + 1) / 2 = a / 2 + 1 by omega]; exact hno
              · omega
      have := ih (a + 1) s m g (by omega) (by omega) hEs hd hf2 hinv2 (by omega)
      simp only [Option.toList_none, List.nil_append]
      rw [this]
      have er : (List.range' a (d + 1 - 1)).filterMap (refF X Y K n) = (List.range' (a + 1) (d - 1)).filterMap (refF X Y K n) := by
        rw [show d + 1 - 1 = (d - 1) + 1 by omega, List.range'_succ, List.filterMap_cons]
        simp [refF, onB, hp]
      rw [er]
    | some p =>
      simp only [Option.toList_some, List.cons_append, List.nil_append, walkL]
      by_cases h0 : p.2.2 = 0
      · rw [if_pos h0]
        have hon : onB X Y K n a = true := by simp [onB, hp, h0]
        have hf2 : fromV X Y K n s = setTo g p := by
          rw [hfrom, hfu]; simp only [scanR, hp, if_pos h0]
        rw [hf2]
        congr 1
        rcases Nat.eq_zero_or_pos d with hd | hd
        · subst hd; simp [stops, walkL]
        · have hfa : fromV X Y K n a = scanR X Y K n (a + 2 * n + 1 - (a + 1)) (a + 1) (initS p) 0 := by
            unfold fromV
            rw [stp_stv hp, show a + 2 * n + 1 - (a + 1) = 2 * n by omega]
          have := ih (a + 1) a 0 (initS p) (by omega) (by omega) (by omega) hd hfa (.inl ⟨rfl, rfl⟩) (by omega)
          rw [this, show d + 1 - 1 = (d - 1) + 1 by omega, List.range'_succ, List.filterMap_cons]
          simp [refF, hon]
      · rw [if_neg h0]
        have hd : 1 ≤ d := by
          rcases Nat.eq_zero_or_pos d with hz | hz
          · exfalso
            have : a = E := by omega
            subst this
            simp [onB, hp, h0] at hE
          · exact hz
        have hev : a % 2 = 0 ∧ p = (2 * X (a / 2 % n), 2 * Y (a / 2 % n), K (a / 2 % n)) := by
          unfold stp at hp
          split at hp
          · rename_i e; exact ⟨e, by simpa using hp.symm⟩
          · split at hp
            · exfalso; simp at hp; rw [← hp] at h0; exact h0 rfl
            · cases hp
        obtain ⟨hev, hpe⟩ := hev
        have hpk : p.2.2 = K (a / 2 % n) := by rw [hpe]
        have hadd : addP g p = addR g m p := by
          rcases hinv with ⟨hm, hk⟩ | ⟨hm, hk, hh⟩
          · simp [addP, addR, hm, hk]
          · rcases hh with ⟨h1, _⟩ | ⟨_, h2, h3, h4⟩
            · omega
            · have ka : K ((a / 2 - 1) % n) = K (a / 2 % n) := kinds_adj hn hs (a / 2) (by omega) (by rw [h3]; exact hk) (by rw [← hpk]; exact h0) h4
              have : p.2.2 = g.k := by rw [hpk, ← ka, h3]
              simp [addP, addR, hk, this, show ¬ m = 0 by omega]
        have hf2 : fromV X Y K n s = scanR X Y K n (s + 2 * n + 1 - (a + 1)) (a + 1) (addR g m p) (m + 1) := by
          rw [hfrom, hfu]; simp only [scanR, hp, if_neg h0]
        have hinv2 : Inv K n (a + 1) (addR g m p) (m + 1) := by
          have hk2 : (addR g m p).k = p.2.2 := by unfold addR; split <;> rfl
          refine .inr ⟨by omega, by rw [hk2]; exact h0, .inl ⟨by omega, ?_⟩⟩
          rw [hk2, hpk, show (a + 1) / 2 = a / 2 by omega]
        rw [hadd]
        have := ih (a + 1) s (m + 1) (addR g m p) (by omega) (by omega) hEs hd hf2 hinv2 (by omega)
        rw [this]
        have er : (List.range' a (d + 1 - 1)).filterMap (refF X Y K n) = (List.range' (a + 1) (d - 1)).filterMap (refF X Y K n) := by
          rw [show d + 1 - 1 = (d - 1) + 1 by omega, List.range'_succ, List.filterMap_cons]
          simp [refF, onB, hp, h0]
        rw [er]
end
end Num
end Go.Proofs.Ytkhcjkmifddlbab

/- ChordB -/
namespace Go.Proofs.Ytkhcjkmifddlbab
namespace Num

def sz (n : Int) : Int := if n < 0 then -n else n
def gr (a b : Int) : Int := if b < a then a else b
/-- How far three spots are from standing evenly on a line. -/
def bendV (ax ay bx b2 cx cy : Int) : Int := gr (sz (ax - 2 * bx + cx)) (sz (ay - 2 * b2 + cy))
theorem sz_bd {n B : Int} (h1 : -B ≤ n) (h2 : n ≤ B) : 0 ≤ sz n ∧ sz n ≤ B := by unfold sz; split <;> omega
theorem gr_bd {a b A : Int} (h1 : 0 ≤ a) (h2 : a ≤ A) (h3 : 0 ≤ b) (h4 : b ≤ A) : 0 ≤ gr a b ∧ gr a b ≤ A := by unfold gr; split <;> omega
theorem bendV_bd {ax ay bx b2 cx cy : Int} (h1 : -16384 ≤ ax ∧ ax ≤ 16384) (h2 : -16384 ≤ ay ∧ ay ≤ 16384) (h3 : -16384 ≤ bx ∧ bx ≤ 16384) (h4 : -16384 ≤ b2 ∧ b2 ≤ 16384) (h5 : -16384 ≤ cx ∧ cx ≤ 16384) (h6 : -16384 ≤ cy ∧ cy ≤ 16384) :
    0 ≤ bendV ax ay bx b2 cx cy ∧ bendV ax ay bx b2 cx cy ≤ 65536 := by
  have a := sz_bd (n := ax - 2 * bx + cx) (B := 65536) (by omega) (by omega)
  have b := sz_bd (n := ay - 2 * b2 + cy) (B := 65536) (by omega) (by omega)
  exact gr_bd a.1 a.2 b.1 b.2

/-- How much a segment bends. -/
def needV (g : Sg) : Int :=
  if g.k = 1 then bendV g.x0 g.y0 g.x1 g.y1 g.x3 g.y3
  else if g.k = 2 then 3 * gr (bendV g.x0 g.y0 g.x1 g.y1 g.x2 g.y2) (bendV g.x1 g.y1 g.x2 g.y2 g.x3 g.y3) else 0
/-- Are all spots that the kind has in range? -/
def rangeB (g : Sg) : Bool := inB g.x0 g.y0 && inB g.x3 g.y3 && (!(g.k == 1 || g.k == 2) || inB g.x1 g.y1) && (!(g.k == 2) || inB g.x2 g.y2)
theorem inB_yes {x y : Int} (h : inB x y = true) : (-16384 ≤ x ∧ x ≤ 16384) ∧ -16384 ≤ y ∧ y ≤ 16384 := by
  simp [inB] at h
  exact ⟨wi_yes h.1, wi_yes h.2⟩
theorem range_yes {g : Sg} (h : rangeB g = true) : inB g.x0 g.y0 = true ∧ inB g.x3 g.y3 = true ∧ ((g.k = 1 ∨ g.k = 2) → inB g.x1 g.y1 = true) ∧ (g.k = 2 → inB g.x2 g.y2 = true) := by
  simp only [rangeB, Bool.and_eq_true, Bool.or_eq_true, Bool.not_eq_true', Bool.or_eq_false_iff, beq_eq_false_iff_ne] at h
  obtain ⟨⟨⟨a, b⟩, c⟩, d⟩ := h
  refine ⟨a, b, fun e => ?_, fun e => ?_⟩
  · rcases c with c | c
    · omega
    · exact c
  · rcases d with d | d
    · exact absurd e d
    · exact d
theorem needV_bd {g : Sg} (h : rangeB g = true) : 0 ≤ needV g ∧ needV g ≤ 196608 := by
  obtain ⟨a, b, c, d⟩ := range_yes h
  have a := inB_yes a
  have b := inB_yes b
  unfold needV
  split
  · rename_i e
    have c := inB_yes (c (.inl e))
    have := bendV_bd a.1 a.2 c.1 c.2 b.1 b.2
    omega
  · split
    · rename_i e
      have c := inB_yes (c (.inr e))
      have d := inB_yes (d e)
      have p := bendV_bd a.1 a.2 c.1 c.2 d.1 d.2
      have q := bendV_bd c.1 c.2 d.1 d.2 b.1 b.2
      have := gr_bd p.1 p.2 q.1 q.2
      omega
    · omega

/-- The least number of steps (of the first 200). -/
def stepsV (d : Int) : Int := match (List.range 200).find? (fun (n : Nat) => decide (d ≤ 16 * ((n : Int) + 1) * ((n : Int) + 1))) with
  | some n => (n : Int) + 1
  | none => 1
theorem stepsV_eq {d n : Int} (h : IsSteps d n) (hn : n ≤ 200) : stepsV d = n := by
  have h1 := h.1
  have e : (List.range 200).find? (fun (n : Nat) => decide (d ≤ 16 * ((n : Int) + 1) * ((n : Int) + 1))) = some (n - 1).toNat := by
    rw [List.find?_range_eq_some]
    have e1 : (((n - 1).toNat : Nat) : Int) + 1 = n := by omega
    refine ⟨?_, ?_, fun j hj => ?_⟩
    · rw [e1]; simpa using h.2.1
    · simp; omega
    · have := h.2.2 ((j : Int) + 1) (by omega) (by omega)
      simp; omega
  unfold stepsV
  rw [e]
  show (((n - 1).toNat : Nat) : Int) + 1 = n
  omega
theorem steps_exist {d : Int} (B : Nat) (hB : 1 ≤ B) (hd : d ≤ 16 * (B : Int) * B) : ∃ n, IsSteps d n := by
  induction B with
  | zero => omega
  | succ B ih =>
    by_cases h0 : B = 0
    · subst h0
      exact ⟨1, by omega, by simpa using hd, fun m h1 h2 => by omega⟩
    · by_cases h : d ≤ 16 * (B : Int) * B
      · exact ih (by omega) h
      · refine ⟨(B : Int) + 1, by omega, by simpa using hd, fun m h1 h2 => ?_⟩
        have := sq_mono (a := m) (b := B) (by omega) (by omega)
        omega
theorem stepsV_is {d : Int} (hd : d ≤ 196608) : IsSteps d (stepsV d) := by
  obtain ⟨n, h⟩ := steps_exist (d := d) 111 (by omega) (by omega)
  rw [stepsV_eq h (by have := h.le (B := 111) (by omega) (by omega); omega)]; exact h
theorem stepsV_le {d : Int} (hd : d ≤ 196608) : stepsV d ≤ 111 := (stepsV_is hd).le (by omega) (by omega)
theorem stepsV_pos {d : Int} (hd : d ≤ 196608) : 1 ≤ stepsV d := (stepsV_is hd).1
theorem stepsV_zero {d : Int} (hd : d ≤ 0) : stepsV d = 1 := stepsV_eq ⟨by omega, by omega, fun m h1 h2 => by omega⟩ (by omega)

/-- Spot i of n. -/
def spotX (g : Sg) (n i : Int) : Int :=
  if g.k = 1 then hu (qSum (n - i) i g.x0 g.x1 g.x3) (n * n) else if g.k = 2 then hu (cSum (n - i) i g.x0 g.x1 g.x2 g.x3) (n * n * n) else if i = n then g.x3 else g.x0
def spotY (g : Sg) (n i : Int) : Int :=
  if g.k = 1 then hu (qSum (n - i) i g.y0 g.y1 g.y3) (n * n) else if g.k = 2 then hu (cSum (n - i) i g.y0 g.y1 g.y2 g.y3) (n * n * n) else if i = n then g.y3 else g.y0
def kindB (g : Sg) : Bool := g.k == 0 || g.k == 1 || g.k == 2
def curveE (g : Sg) : Int := if kindB g = false then 3 else if rangeB g = false then 6 else 0
/-- Curve's answer. -/
def curveN (g : Sg) : Nat := (stepsV (needV g)).toNat
def curveL (g : Sg) : List (Int × Int) := if curveE g = 0 then (List.range (curveN g + 1)).map fun (i : Nat) => (spotX g (curveN g) i, spotY g (curveN g) i) else []

theorem curve_ok {g : Sg} (h : curveE g = 0) : kindB g = true ∧ rangeB g = true := by
  unfold curveE at h
  cases hk : kindB g
  · rw [if_pos hk] at h; omega
  · cases hr : rangeB g
    · rw [hk, hr] at h; simp at h
    · exact ⟨rfl, rfl⟩
theorem kind_yes {g : Sg} (h : kindB g = true) : g.k = 0 ∨ g.k = 1 ∨ g.k = 2 := by
  simp [kindB] at h; omega
theorem kind_no {g : Sg} (h : kindB g = false) : g.k ≠ 0 ∧ g.k ≠ 1 ∧ g.k ≠ 2 := by
  simp [kindB] at h; omega

/-- A product of factors of bounded size. -/
theorem mul3_bd {a b c A B C : Int} (ha : -A ≤ a ∧ a ≤ A) (hb : -B ≤ b ∧ b ≤ B) (hc : -C ≤ c ∧ c ≤ C) : -(A * B * C) ≤ a * b * c ∧ a * b * c ≤ A * B * C :=
  mul_bd _ _ _ _ (mul_bd _ _ _ _ ha hb) hc
theorem mul4_bd {a b c d A B C D : Int} (ha : -A ≤ a ∧ a ≤ A) (hb : -B ≤ b ∧ b ≤ B) (hc : -C ≤ c ∧ c ≤ C) (hd : -D ≤ d ∧ d ≤ D) : -(A * B * C * D) ≤ a * b * c * d ∧ a * b * c * d ≤ A * B * C * D :=
  mul_bd _ _ _ _ (mul3_bd ha hb hc) hd
end Num
end Go.Proofs.Ytkhcjkmifddlbab

/- CutV -/
namespace Go.Proofs.Ytkhcjkmifddlbab
namespace Num

/-- Of a search by two tests, the second of which ends at j. -/
theorem filter_end {A B : Nat → Bool} {j : Nat} : ∀ m, j ≤ m → (∀ k, k < m → B k = decide (k < j)) → (List.range m).filter (fun k => A k && B k) = (List.range j).filter A := by
  intro m
  induction m with
  | zero => intro h _; have : j = 0 := by omega
            subst this; rfl
  | succ m ih =>
    intro h hB
    by_cases e : j = m + 1
    · subst e
      apply List.filter_congr
      intro k hk
      have : k < m + 1 := by simpa using hk
      rw [hB k this]; simp [this]
    · rw [List.range_succ, List.filter_append, ih (by omega) (fun k hk => hB k (by omega))]
      have : B m = false := by rw [hB m (by omega)]; simp; omega
      simp [this]

/-- Line k, from the least on, and from the greatest on. -/
def upK (k : Nat) : Int := 64 * ((k : Int) - 256)
def dnK (k : Nat) : Int := 64 * (256 - (k : Int))
/-- The lines beyond p among the first j. -/
def upL (p : Int) (j : Nat) : List Int := ((List.range j).filter fun k => decide (p < upK k)).map upK
def dnL (p : Int) (j : Nat) : List Int := ((List.range j).filter fun k => decide (dnK k < p)).map dnK
/-- The lines between p and q among the first m. -/
def upR (p q : Int) (m : Nat) : List Int := ((List.range m).filter fun k => decide (p < upK k) && decide (upK k < q)).map upK
def dnR (p q : Int) (m : Nat) : List Int := ((List.range m).filter fun k => decide (dnK k < p) && decide (q < dnK k)).map dnK
def linesV (p q : Int) : List Int := upR p q 513 ++ dnR p q 513

theorem upL_succ (p : Int) (j : Nat) : upL p (j + 1) = upL p j ++ if p < upK j then [upK j] else [] := by
  unfold upL
  rw [List.range_succ, List.filter_append, List.map_append]
  split <;> rename_i h <;> simp [h]
theorem dnL_succ (p : Int) (j : Nat) : dnL p (j + 1) = dnL p j ++ if dnK j < p then [dnK j] else [] := by
  unfold dnL
  rw [List.range_succ, List.filter_append, List.map_append]
  split <;> rename_i h <;> simp [h]
theorem upR_succ (p q : Int) (m : Nat) : upR p q (m + 1) = upR p q m ++ if p < upK m ∧ upK m < q then [upK m] else [] := by
  unfold upR
  rw [List.range_succ, List.filter_append, List.map_append]
  split <;> rename_i h
  · simp [h.1, h.2]
  · have : (decide (p < upK m) && decide (upK m < q)) = false := by simp; omega
    simp [this]
theorem dnR_succ (p q : Int) (m : Nat) : dnR p q (m + 1) = dnR p q m ++ if q < dnK m ∧ dnK m < p then [dnK m] else [] := by
  unfold dnR
  rw [List.range_succ, List.filter_append, List.map_append]
  split <;> rename_i h
  · simp [h.1, h.2]
  · have : (decide (dnK m < p) && decide (q < dnK m)) = false := by simp; omega
    simp [this]
theorem upL_start {p : Int} {j : Nat} (h : ∀ k, k < j → upK k ≤ p) : upL p j = [] := by
  unfold upL
  rw [List.map_eq_nil_iff, List.filter_eq_nil_iff]
  intro k hk
  have := h k (by simpa using hk)
  simp; omega
theorem dnL_start {p : Int} {j : Nat} (h : ∀ k, k < j → p ≤ dnK k) : dnL p j = [] := by
  unfold dnL
  rw [List.map_eq_nil_iff, List.filter_eq_nil_iff]
  intro k hk
  have := h k (by simpa using hk)
  simp; omega
theorem upR_none {p q : Int} (m : Nat) (h : q ≤ p) : upR p q m = [] := by
  unfold upR
  rw [List.map_eq_nil_iff, List.filter_eq_nil_iff]
  intro k _
  simp; omega
theorem dnR_none {p q : Int} (m : Nat) (h : p ≤ q) : dnR p q m = [] := by
  unfold dnR
  rw [List.map_eq_nil_iff, List.filter_eq_nil_iff]
  intro k _
  simp; omega
/-- The program's lines are the document's. -/
theorem lines_up {p q : Int} {j : Nat} (hpq : p < q) (hj : j ≤ 513) (hq : ∀ k, k < j → upK k < q) (hq2 : ∀ k, j ≤ k → k < 513 → q ≤ upK k) : linesV p q = upL p j := by
  unfold linesV
  rw [dnR_none _ (by omega), List.append_nil]
  unfold upR upL
  rw [filter_end (j := j) 513 hj]
  intro k hk
  by_cases h : k < j
  · simp [h, hq k h]
  · have := hq2 k (by omega) hk
    simp [h]; omega
theorem lines_dn {p q : Int} {j : Nat} (hpq : q ≤ p) (hj : j ≤ 513) (hq : ∀ k, k < j → q < dnK k) (hq2 : ∀ k, j ≤ k → k < 513 → dnK k ≤ q) : linesV p q = dnL p j := by
  unfold linesV
  rw [upR_none _ (by omega), List.nil_append]
  unfold dnR dnL
  rw [filter_end (j := j) 513 hj]
  intro k hk
  by_cases h : k < j
  · simp [h, hq k h]
  · have := hq2 k (by omega) hk
    simp [h]; omega
theorem upL_len (p : Int) (j : Nat) : (upL p j).length ≤ j := by
  unfold upL; rw [List.length_map]; exact Nat.le_trans (List.length_filter_le _ _) (by simp)
theorem dnL_len (p : Int) (j : Nat) : (dnL p j).length ≤ j := by
  unfold dnL; rw [List.length_map]; exact Nat.le_trans (List.length_filter_le _ _) (by simp)
theorem upR_len (p q : Int) (j : Nat) : (upR p q j).length ≤ j := by
  unfold upR; rw [List.length_map]; exact Nat.le_trans (List.length_filter_le _ _) (by simp)
theorem dnR_len (p q : Int) (j : Nat) : (dnR p q j).length ≤ j := by
  unfold dnR; rw [List.length_map]; exact Nat.le_trans (List.length_filter_le _ _) (by simp)
theorem linesV_len (p q : Int) : (linesV p q).length ≤ 1026 := by
  unfold linesV
  rw [List.length_append]
  have := upR_len p q 513
  have := dnR_len p q 513
  omega
/-- All lines lie strictly between. -/
theorem linesV_mem {p q v : Int} (h : v ∈ linesV p q) : (p < v ∧ v < q) ∨ (q < v ∧ v < p) := by
  unfold linesV upR dnR at h
  simp only [List.mem_append, List.mem_map, List.mem_filter, Bool.and_eq_true, decide_eq_true_eq] at h
  rcases h with ⟨k, ⟨_, h1, h2⟩, rfl⟩ | ⟨k, ⟨_, h1, h2⟩, rfl⟩
  · exact .inl ⟨h1, h2⟩
  · exact .inr ⟨h2, h1⟩

theorem hu_add (a n d : Int) (hd : 0 < d) : hu (a * d + n) d = a + hu n d := by
  obtain ⟨h1, h2⟩ := hu_facts n d hd
  apply hu_of _ _ _ hd
  · have e : 2 * d * (a + hu n d) = 2 * (a * d) + 2 * d * hu n d := by rw [Int.mul_add, Int.mul_assoc 2 d a, Int.mul_comm d a]
    omega
  · have e : 2 * d * (a + hu n d) = 2 * (a * d) + 2 * d * hu n d := by rw [Int.mul_add, Int.mul_assoc 2 d a, Int.mul_comm d a]
    omega
theorem hu_between {n d B : Int} (hd : 0 < d) (h1 : -(B * d) ≤ n) (h2 : n ≤ B * d) : -B ≤ hu n d ∧ hu n d ≤ B := by
  obtain ⟨f1, f2⟩ := hu_facts n d hd
  constructor
  · rcases Int.lt_or_le (hu n d) (-B) with h | h
    · exfalso
      have := Int.mul_le_mul_of_nonneg_left (show hu n d + 1 ≤ -B by omega) (show 0 ≤ 2 * d by omega)
      rw [Int.mul_add] at this
      have e : 2 * d * -B = -(2 * (B * d)) := by rw [Int.mul_neg, Int.mul_assoc, Int.mul_comm d B]
      omega
    · exact h
  · rcases Int.lt_or_le B (hu n d) with h | h
    · exfalso
      have := Int.mul_le_mul_of_nonneg_left (show B + 1 ≤ hu n d by omega) (show 0 ≤ 2 * d by omega)
      rw [Int.mul_add] at this
      have e : 2 * d * B = 2 * (B * d) := by rw [Int.mul_assoc, Int.mul_comm d B]
      omega
    · exact h

/-- Where the line that goes from a to b, while the other coordinate goes from p to q, is at n. -/
def atV (a b p q n : Int) : Int := if q - p < 0 then hu (-(a * (q - n) + b * (n - p))) (-(q - p)) else hu (a * (q - n) + b * (n - p)) (q - p)
theorem at_num (a b p q n : Int) : a * (q - n) + b * (n - p) = a * (q - p) + (b - a) * (n - p) := by
  rw [Int.sub_mul, show q - p = (q - n) + (n - p) by omega, Int.mul_add]; omega
/-- The program's way. -/
theorem atV_eq {a b p q n : Int} (h : p ≠ q) : atV a b p q n = a + if q - p < 0 then hu (-((b - a) * (n - p))) (-(q - p)) else hu ((b - a) * (n - p)) (q - p) := by
  unfold atV
  rw [at_num]
  split
  · rename_i hd
    rw [show -(a * (q - p) + (b - a) * (n - p)) = a * -(q - p) + -((b - a) * (n - p)) by rw [Int.mul_neg]; omega]
    exact hu_add _ _ _ (by omega)
  · exact hu_add _ _ _ (by omega)
theorem mul_ge {a t B : Int} (h : -B ≤ a ∧ a ≤ B) (ht : 0 ≤ t) : -(B * t) ≤ a * t ∧ a * t ≤ B * t := by
  have h1 := Int.mul_le_mul_of_nonneg_right h.1 ht
  have h2 := Int.mul_le_mul_of_nonneg_right h.2 ht
  rw [Int.neg_mul] at h1
  exact ⟨h1, h2⟩
theorem atV_bd {a b p q n B : Int} (ha : -B ≤ a ∧ a ≤ B) (hb : -B ≤ b ∧ b ≤ B) (h : (p < n ∧ n < q) ∨ (q < n ∧ n < p)) : -B ≤ atV a b p q n ∧ atV a b p q n ≤ B := by
  unfold atV
  rcases h with h | h
  · rw [if_neg (by omega)]
    have h1 := mul_ge (t := q - n) ha (by omega)
    have h2 := mul_ge (t := n - p) hb (by omega)
    have e : B * (q - p) = B * (q - n) + B * (n - p) := by rw [← Int.mul_add]; congr 1; omega
    exact hu_between (by omega) (by omega) (by omega)
  · rw [if_pos (by omega)]
    have h1 := mul_ge (t := n - q) ha (by omega)
    have h2 := mul_ge (t := p - n) hb (by omega)
    have e : B * -(q - p) = B * (n - q) + B * (p - n) := by rw [← Int.mul_add]; congr 1; omega
    have e1 : a * (q - n) = -(a * (n - q)) := by rw [← Int.mul_neg]; congr 1; omega
    have e2 : b * (n - p) = -(b * (p - n)) := by rw [← Int.mul_neg]; congr 1; omega
    exact hu_between (by omega) (by omega) (by omega)

/-- Where a chord meets the row lines, and the column lines. -/
def rowsV (ax ay bx b2 : Int) : List (Int × Int) := (linesV ay b2).map fun y => (atV ax bx ay b2 y, y)
def colsV (ax ay bx b2 : Int) : List (Int × Int) := (linesV ax bx).map fun x => (x, atV ay b2 ax bx x)
/-- From one spot to the next, cut at the column lines. -/
def cutF : Int → Int → List (Int × Int) → List (Int × Int)
  | _, _, [] => []
  | x, y, t :: r => colsV x y t.1 t.2 ++ t :: cutF t.1 t.2 r
def cutsE (ax ay bx b2 : Int) : Int := if (inB ax ay && inB bx b2) = false then 6 else 0
/-- Cuts' answer. -/
def cutsL (ax ay bx b2 : Int) : List (Int × Int) := if cutsE ax ay bx b2 = 0 then (ax, ay) :: cutF ax ay (rowsV ax ay bx b2 ++ [(bx, b2)]) else []

theorem cuts_ok {ax ay bx b2 : Int} (h : cutsE ax ay bx b2 = 0) : inB ax ay = true ∧ inB bx b2 = true := by
  unfold cutsE at h
  cases h1 : inB ax ay <;> cases h2 : inB bx b2 <;> simp [h1, h2] at h
  exact ⟨rfl, rfl⟩
theorem rowsV_len (ax ay bx b2 : Int) : (rowsV ax ay bx b2).length ≤ 1026 := by unfold rowsV; rw [List.length_map]; exact linesV_len _ _
theorem colsV_len (ax ay bx b2 : Int) : (colsV ax ay bx b2).length ≤ 1026 := by unfold colsV; rw [List.length_map]; exact linesV_len _ _
/-- The spots on row lines are in range. -/
theorem rowsV_in {ax ay bx b2 : Int} (ha : inB ax ay = true) (hb : inB bx b2 = true) : ∀ t ∈ rowsV ax ay bx b2, inB t.1 t.2 = true := by
  intro t ht
  unfold rowsV at ht
  rw [List.mem_map] at ht
  obtain ⟨y, hy, rfl⟩ := ht
  have h := linesV_mem hy
  have a := inB_yes ha
  have b := inB_yes hb
  have := atV_bd (n := y) a.1 b.1 h
  have hy2 : -16384 ≤ y ∧ y ≤ 16384 := by omega
  simp [inB, wi]
  omega
theorem cutF_len (r : List (Int × Int)) : ∀ x y, (cutF x y r).length ≤ 1027 * r.length := by
  induction r with
  | nil => intro x y; simp [cutF]
  | cons t r ih =>
    intro x y
    simp only [cutF, List.length_append, List.length_cons]
    have := ih t.1 t.2
    have := colsV_len x y t.1 t.2
    omega
/-- The last spot behind the first spots r. -/
def lastS (x y : Int) : List (Int × Int) → Int × Int
  | [] => (x, y)
  | t :: r => lastS t.1 t.2 r
theorem cutF_snoc (r : List (Int × Int)) (t : Int × Int) : ∀ x y, cutF x y (r ++ [t]) = cutF x y r ++ colsV (lastS x y r).1 (lastS x y r).2 t.1 t.2 ++ [t] := by
  induction r with
  | nil => intro x y; simp [cutF, lastS]
  | cons u r ih => intro x y; simp only [List.cons_append, cutF, lastS, ih, List.append_assoc, List.cons_append]
theorem lastS_snoc (r : List (Int × Int)) (t : Int × Int) : ∀ x y, lastS x y (r ++ [t]) = t := by
  induction r with
  | nil => intro x y; rfl
  | cons u r ih => intro x y; simp only [List.cons_append, lastS, ih]
theorem lastS_in (r : List (Int × Int)) : ∀ x y, inB x y = true → (∀ t ∈ r, inB t.1 t.2 = true) → inB (lastS x y r).1 (lastS x y r).2 = true := by
  induction r with
  | nil => intro x y h _; exact h
  | cons u r ih => intro x y _ hr; exact ih u.1 u.2 (hr u (by simp)) (fun t ht => hr t (by simp [ht]))
end Num
end Go.Proofs.Ytkhcjkmifddlbab

/- AreaV -/
namespace Go.Proofs.Ytkhcjkmifddlbab
namespace Num

/-- A number, but at least 0 and at most 64. -/
def cl (v : Int) : Int := if v < 0 then 0 else if 64 < v then 64 else v
/-- What a piece counts at the pixels of column i, in its row. -/
def pieceA (i x0 y0 x1 y1 : Int) : Int := (y1 - y0) * (cl (64 * i + 64 - x0) + cl (64 * i + 64 - x1))
/-- Does a piece lie in row j? -/
def inRow (j y0 y1 : Int) : Bool := decide (64 * j ≤ y0) && decide (y0 ≤ 64 * j + 64) && (decide (64 * j ≤ y1) && decide (y1 ≤ 64 * j + 64))
/-- The pieces from one spot to the next, all that lie in row j. -/
def sumP (i j : Int) : Int → Int → List (Int × Int) → Int
  | _, _, [] => 0
  | x, y, t :: r => (if inRow j y t.2 = true then pieceA i x y t.1 t.2 else 0) + sumP i j t.1 t.2 r
theorem sumP_append (i j : Int) (l r : List (Int × Int)) : ∀ x y, sumP i j x y (l ++ r) = sumP i j x y l + sumP i j (lastS x y l).1 (lastS x y l).2 r := by
  induction l with
  | nil => intro x y; simp [sumP, lastS]
  | cons t l ih => intro x y; simp only [List.cons_append, sumP, lastS, ih]; omega

/-- The document's parts. -/
def reachV (px py qx qy x : Int) : Int := if x ≤ px then py else if qx ≤ x then qy else atV py qy px qx x
def lsV (a b : Int) : Int := if a < b then a else b
def clipV (v lo hi : Int) : Int := gr lo (lsV v hi)
def partV (ax ay bx b2 i : Int) : Int :=
  if bx < ax then
    128 * sz (reachV bx b2 ax ay (64 * i) - b2) + sz (reachV bx b2 ax ay (64 * i + 64) - reachV bx b2 ax ay (64 * i)) * (64 * i + 64 - clipV (64 * i) bx ax + (64 * i + 64) - clipV (64 * i + 64) bx ax)
  else
    128 * sz (reachV ax ay bx b2 (64 * i) - ay) + sz (reachV ax ay bx b2 (64 * i + 64) - reachV ax ay bx b2 (64 * i)) * (64 * i + 64 - clipV (64 * i) ax bx + (64 * i + 64) - clipV (64 * i + 64) ax bx)
def downV (ax ay bx b2 i j : Int) : Int :=
  if lsV b2 (64 * j + 64) ≤ gr ay (64 * j) then 0
  else partV (atV ax bx ay b2 (gr ay (64 * j))) (gr ay (64 * j)) (atV ax bx ay b2 (lsV b2 (64 * j + 64))) (lsV b2 (64 * j + 64)) i
def chordV (ax ay bx b2 i j : Int) : Int := if b2 < ay then -downV bx b2 ax ay i j else downV ax ay bx b2 i j

theorem hu_mono {n m d : Int} (hd : 0 < d) (h : n ≤ m) : hu n d ≤ hu m d := by
  unfold hu
  exact Int.ediv_le_ediv (by omega) (by omega)
theorem hu_le_of {n d B : Int} (hd : 0 < d) (h : n ≤ B * d) : hu n d ≤ B := by
  have h1 := hu_mono hd h
  have h2 : hu (B * d) d = B := by
    have := hu_add B 0 d hd
    rw [Int.add_zero] at this
    rw [this]
    have h0 : hu 0 d = 0 := hu_of 0 d 0 hd (by omega) (by omega)
    omega
  omega
theorem hu_ge_of {n d B : Int} (hd : 0 < d) (h : B * d ≤ n) : B ≤ hu n d := by
  have h1 := hu_mono hd h
  have h2 : hu (B * d) d = B := by
    have := hu_add B 0 d hd
    rw [Int.add_zero] at this
    rw [this]
    have h0 : hu 0 d = 0 := hu_of 0 d 0 hd (by omega) (by omega)
    omega
  omega
/-- From either end the same. -/
theorem atV_symm {a b p q n : Int} (h : p ≠ q) : atV a b p q n = atV b a q p n := by
  unfold atV
  have e1 : a * (q - n) + b * (n - p) = -(b * (p - n) + a * (n - q)) := by
    have x1 : a * (q - n) = -(a * (n - q)) := by rw [← Int.mul_neg]; congr 1; omega
    have x2 : b * (n - p) = -(b * (p - n)) := by rw [← Int.mul_neg]; congr 1; omega
    omega
  by_cases c : q - p < 0
  · rw [if_pos c, if_neg (by omega), e1, Int.neg_neg, show -(q - p) = p - q by omega]
  · rw [if_neg c, if_pos (by omega), e1, show -(p - q) = q - p by omega]
/-- The ends. -/
theorem atV_begin {a b p q : Int} (h : p ≠ q) : atV a b p q p = a := by
  rw [atV_eq h]
  rw [Int.sub_self, Int.mul_zero, Int.neg_zero]
  split
  · have h0 : hu 0 (-(q - p)) = 0 := hu_of 0 _ 0 (by omega) (by omega) (by omega)
    omega
  · have h0 : hu 0 (q - p) = 0 := hu_of 0 _ 0 (by omega) (by omega) (by omega)
    omega
theorem atV_end {a b p q : Int} (h : p ≠ q) : atV a b p q q = b := by
  rw [atV_symm h]; exact atV_begin (fun e => h e.symm)
/-- On the way from p to q the line goes from a to b, and never back. -/
theorem atV_mono {a b p q n m : Int} (hpq : p < q) (hab : a ≤ b) (h : n ≤ m) : atV a b p q n ≤ atV a b p q m := by
  rw [atV_eq (by omega), atV_eq (by omega), if_neg (by omega), if_neg (by omega)]
  have := Int.mul_le_mul_of_nonneg_left (show n - p ≤ m - p by omega) (show 0 ≤ b - a by omega)
  have := hu_mono (show 0 < q - p by omega) this
  omega
theorem atV_anti {a b p q n m : Int} (hpq : p < q) (hab : b ≤ a) (h : n ≤ m) : atV a b p q m ≤ atV a b p q n := by
  rw [atV_eq (by omega), atV_eq (by omega), if_neg (by omega), if_neg (by omega)]
  have h1 := Int.mul_le_mul_of_nonneg_left (show n - p ≤ m - p by omega) (show 0 ≤ a - b by omega)
  have e1 : (b - a) * (n - p) = -((a - b) * (n - p)) := by rw [← Int.neg_mul]; congr 1; omega
  have e2 : (b - a) * (m - p) = -((a - b) * (m - p)) := by rw [← Int.neg_mul]; congr 1; omega
  have := hu_mono (n := (b - a) * (m - p)) (m := (b - a) * (n - p)) (show 0 < q - p by omega) (by omega)
  omega
/-- And stays between. -/
theorem atV_in {a b p q n : Int} (hab : a ≤ b) (hpq : p < q) (h1 : p ≤ n) (h2 : n ≤ q) : a ≤ atV a b p q n ∧ atV a b p q n ≤ b := by
  have x := atV_mono (a := a) (b := b) hpq hab h1
  have y := atV_mono (a := a) (b := b) hpq hab h2
  rw [atV_begin (by omega)] at x
  rw [atV_end (by omega)] at y
  exact ⟨x, y⟩
end Num
end Go.Proofs.Ytkhcjkmifddlbab
