/- Rows of points that the caller makes itself. -/
import Derived.Test.YtkhcjkmifddlbabDoorMem
import Derived.Deep.OwnRows
namespace Go.Proofs.YtkhcjkmifddlbabDoor
open Go.RowKit Go.Deep

/-- The cells of a row of points. -/
def pc (X Y K : Nat → Int) (q : Nat) : Value := .int .i64 (if q % 3 = 0 then X (q / 3) else if q % 3 = 1 then Y (q / 3) else K (q / 3))
theorem pc0 (X Y K : Nat → Int) (k : Nat) : pc X Y K (k * 3) = .int .i64 (X k) := by
  unfold pc; rw [if_pos (by omega), show k * 3 / 3 = k by omega]
theorem pc1 (X Y K : Nat → Int) (k : Nat) : pc X Y K (k * 3 + 1) = .int .i64 (Y k) := by
  unfold pc; rw [if_neg (by omega), if_pos (by omega), show (k * 3 + 1) / 3 = k by omega]
theorem pc2 (X Y K : Nat → Int) (k : Nat) : pc X Y K (k * 3 + 2) = .int .i64 (K k) := by
  unfold pc; rw [if_neg (by omega), if_neg (by omega), show (k * 3 + 2) / 3 = k by omega]
theorem pc_congr {X Y K X' Y' K' : Nat → Int} {m : Nat} (h : ∀ k, k < m → X k = X' k ∧ Y k = Y' k ∧ K k = K' k) (q : Nat) (hq : q < m * 3) : pc X Y K q = pc X' Y' K' q := by
  obtain ⟨a, b, c⟩ := h (q / 3) (by omega)
  unfold pc
  rw [a, b, c]

/-- Three stores: point k of a row of points. -/
theorem row_setPt {w : World} {b : Nat} {t : TypeId} {m : Nat} {X Y K : Nat → Int} (h : w.rowIs b t (m * 3) (pc X Y K)) (k : Nat) (x y z : Int) :
    (((w.setCell ⟨b, k * 3, none⟩ (.int .i64 x)).setCell ⟨b, k * 3 + 1, none⟩ (.int .i64 y)).setCell ⟨b, k * 3 + 2, none⟩ (.int .i64 z)).rowIs b t (m * 3) (pc (fun j => if j = k then x else X j) (fun j => if j = k then y else Y j) (fun j => if j = k then z else K j)) := by
  refine (((h.set (k * 3) _).set (k * 3 + 1) _).set (k * 3 + 2) _).congr fun q hq => ?_
  by_cases e2 : q = k * 3 + 2
  · subst e2; rw [if_pos rfl, pc2, if_pos rfl]
  rw [if_neg e2]
  by_cases e1 : q = k * 3 + 1
  · subst e1; rw [if_pos rfl, pc1, if_pos rfl]
  rw [if_neg e1]
  by_cases e0 : q = k * 3
  · subst e0; rw [if_pos rfl, pc0, if_pos rfl]
  rw [if_neg e0]
  have e3 : ¬ q / 3 = k := by omega
  simp only [pc, if_neg e3]

theorem row_below {w w' : World} {B b : Nat} {t : TypeId} {n : Nat} {f : Nat → Value} (h : w.rowIs b t n f) (hb : Below B w w') (hlt : b < B) : w'.rowIs b t n f :=
  h.of_block (hb.block b hlt)

theorem row_cells {w : World} {b : Nat} {t : TypeId} {m : Nat} {X Y K : Nat → Int} (h : w.rowIs b t (m * 3) (pc X Y K)) (k : Nat) (hk : k < m) :
    w.cell? ⟨b, k * 3, none⟩ = some (.int .i64 (X k)) ∧ w.cell? ⟨b, k * 3 + 1, none⟩ = some (.int .i64 (Y k)) ∧ w.cell? ⟨b, k * 3 + 2, none⟩ = some (.int .i64 (K k)) := by
  refine ⟨?_, ?_, ?_⟩
  · rw [h.cell (by omega), pc0]
  · rw [h.cell (by omega), pc1]
  · rw [h.cell (by omega), pc2]

/-- Two rows of different element types lie in different blocks. -/
theorem row_ne {w : World} {b b' : Nat} {t t' : TypeId} {n n' : Nat} {f f' : Nat → Value} (h : w.rowIs b t n f) (h' : w.rowIs b' t' n' f') (ht : t ≠ t') : b ≠ b' := by
  intro e
  subst e
  obtain ⟨c, hb, _⟩ := h
  obtain ⟨c', hb', _⟩ := h'
  rw [hb] at hb'
  simp at hb'
  exact ht hb'.2

/-- What make lays for points. -/
theorem row_made3 (w : World) (m : Nat) (t : TypeId) : (w.alloc (.cells (madeCells #[.int .i64 0, .int .i64 0, .int .i64 0] (m * 3)) t)).rowIs w.heap.size t (m * 3) (pc (fun _ => 0) (fun _ => 0) (fun _ => 0)) := by
  refine ⟨_, blk_alloc_new _ _, size_madeCells _ _, fun i hi => ?_⟩
  have e : pc (fun _ => 0) (fun _ => 0) (fun _ => 0) i = .int .i64 0 := by unfold pc; split <;> (try split) <;> rfl
  rw [e]
  rcases (show i % 3 = 0 ∨ i % 3 = 1 ∨ i % 3 = 2 by omega) with h | h | h <;> simp [madeCells, hi, h]

/-- The length of list i, among N lists and two more that are empty. -/
def ln (N : Nat) (n : Nat → Nat) (i : Nat) : Nat := if i < N then n i else 0
/-- What lies in the lists: the points, and ink behind them. -/
def lx (l : Nat) (X : Nat → Int) (k : Nat) : Int := if k < l then X k else 1099511627776
def ly (l : Nat) (X : Nat → Int) (k : Nat) : Int := if k < l then X k else -7
def lk (l : Nat) (X : Nat → Int) (k : Nat) : Int := if k < l then X k else 9

/-- An outline that was lent: its outer list at block ob, list i at block B i. -/
structure Lent (w : World) (base ob N : Nat) (B n : Nat → Nat) (X Y K : Nat → Nat → Int) : Prop where
  outer : w.rowIs ob 79 (N + 2) (fun i => .slice (some ⟨B i, 0, none⟩) (ln N n i) (ln N n i + 2))
  ge : base ≤ ob
  geB : ∀ i, i < N + 2 → base ≤ B i
  inj : ∀ i j, i < N + 2 → j < N + 2 → B i = B j → i = j
  inner : ∀ i, i < N + 2 → w.rowIs (B i) 83 ((ln N n i + 2) * 3) (pc (lx (ln N n i) (X i)) (ly (ln N n i) (Y i)) (lk (ln N n i) (K i)))

theorem Lent.below {w w' : World} {base ob N : Nat} {B n : Nat → Nat} {X Y K : Nat → Nat → Int} (h : Lent w base ob N B n X Y K) (hb : Below w.heap.size w w') : Lent w' base ob N B n X Y K :=
  ⟨row_below h.outer hb h.outer.lt, h.ge, h.geB, h.inj, fun i hi => row_below (h.inner i hi) hb (h.inner i hi).lt⟩

/-- What was lent reads as the outline. -/
theorem Lent.out {w : World} {base ob N : Nat} {B n : Nat → Nat} {X Y K : Nat → Nat → Int} (h : Lent w base ob N B n X Y K) :
    OutAt w (some ⟨ob, 0, none⟩) N (fun i => some ⟨B i, 0, none⟩) (fun i => n i + 2) n X Y K := by
  refine ⟨Or.inr ⟨ob, 0, rfl, fun i hi => ?_⟩, fun i hi => Or.inr ⟨B i, 0, rfl, fun k hk => ?_⟩⟩
  · have := h.outer.cell (i := i) (by omega)
    simp only [ln, if_pos hi] at this
    simpa using this
  · have := row_cells (h.inner i (by omega)) k (by simp [ln, hi]; omega)
    simp only [ln, if_pos hi, lx, ly, lk, if_pos hk] at this
    simpa using this
end Go.Proofs.YtkhcjkmifddlbabDoor
