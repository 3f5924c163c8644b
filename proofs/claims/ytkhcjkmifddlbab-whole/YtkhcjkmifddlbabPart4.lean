/- Joined: Crv, Lists, Held, Cv, Lend, Impl, CrvB, Spots, CvR, AreaK. -/
import Derived.Test.YtkhcjkmifddlbabPart3
import Derived.Test.YtkhcjkmifddlbabPart1
import Derived.Deep.OwnRows
import Derived.Deep.AppendLies
import Derived.BigQuiet
import Derived.Deep.QuietTactic
import Derived.Test.YtkhcjkmifddlbabPart2
/- Crv -/
namespace Go.Proofs.Ytkhcjkmifddlbab
open Go.RowKit

set_option maxHeartbeats 400000 in
theorem size_any (n : Int) (w : World) (h1 : -1000000 ≤ n) (h2 : n ≤ 1000000) :
    Calls Try.prog 80 #[.int .i64 n] w fun e w' => e = .returned (.int .i64 (Num.sz n)) ∧ w' = w := by
  by_cases a : n < 0
  · go_enter Try.func80, Try.ntmps80
    go_wp2
    go_ret
    exact ⟨ret_int (by unfold Num.sz; rw [if_pos (by omega)]), rfl⟩
  · go_enter Try.func80, Try.ntmps80
    go_wp2
    go_ret
    exact ⟨ret_int (by unfold Num.sz; rw [if_neg (by omega)]), rfl⟩

set_option maxHeartbeats 400000 in
theorem greater_any (a b : Int) (w : World) :
    Calls Try.prog 89 #[.int .i64 a, .int .i64 b] w fun e w' => e = .returned (.int .i64 (Num.gr a b)) ∧ w' = w := by
  by_cases h : b < a
  · go_enter Try.func89, Try.ntmps89
    go_wp2
    go_ret
    exact ⟨ret_int (by unfold Num.gr; rw [if_pos (by omega)]), rfl⟩
  · go_enter Try.func89, Try.ntmps89
    go_wp2
    go_ret
    exact ⟨ret_int (by unfold Num.gr; rw [if_neg (by omega)]), rfl⟩

set_option maxHeartbeats 400000 in
theorem bend_any (ax ay bx b2 cx cy : Int) (w : World) (h1 : -16384 ≤ ax ∧ ax ≤ 16384) (h2 : -16384 ≤ ay ∧ ay ≤ 16384) (h3 : -16384 ≤ bx ∧ bx ≤ 16384) (h4 : -16384 ≤ b2 ∧ b2 ≤ 16384) (h5 : -16384 ≤ cx ∧ cx ≤ 16384) (h6 : -16384 ≤ cy ∧ cy ≤ 16384) :
    Calls Try.prog 111 #[.agg #[.int .i64 ax, .int .i64 ay], .agg #[.int .i64 bx, .int .i64 b2], .agg #[.int .i64 cx, .int .i64 cy]] w fun e w' => e = .returned (.int .i64 (Num.bendV ax ay bx b2 cx cy)) ∧ Below w.heap.size w w' := by
  go_enter Try.func111, Try.ntmps111
  go_wp2_with (first | (go_at_call 80; refine (size_any _ _ (by omega) (by omega)).mono ?_; rintro e w' ⟨rfl, rfl⟩) | (go_at_call 89; refine (greater_any _ _ _).mono ?_; rintro e w' ⟨rfl, rfl⟩))
  go_ret
  exact ⟨rfl, by (repeat (any_goals (first | exact Below.refl _ _ | assumption | refine Below.drew ?_ | refine below_drewN ?_ _ | refine Below.setCell ?_ ?_ _ | refine Below.alloc ?_ ?_ _ | omega | (simp; done) | (simp; omega))))⟩

set_option maxHeartbeats 400000 in
theorem inRange_exact (x y : Int) (w : World) :
    Calls Try.prog 103 #[.agg #[.int .i64 x, .int .i64 y]] w fun e w' => e = .returned (.bool (Num.inB x y)) ∧ w' = w.alloc (.cells #[.int .i64 x, .int .i64 y] 53) := by
  go_enter Try.func103, Try.ntmps103
  go_wp2_with (go_at_call 86; refine (within_any _ _ _ (by omega) (by omega)).mono ?_; rintro e w' ⟨rfl, rfl⟩)
  all_goals
    go_ret
    exact ⟨ret_bool (by simp [Num.inB, *]), rfl⟩

set_option maxHeartbeats 1000000 in
theorem segRange_any (k x0 y0 x1 y1 x2 y2 x3 y3 : Int) (w : World) :
    Calls Try.prog 100 #[.agg #[.int .i64 k, .int .i64 x0, .int .i64 y0, .int .i64 x1, .int .i64 y1, .int .i64 x2, .int .i64 y2, .int .i64 x3, .int .i64 y3]] w fun e w' => e = .returned (.bool (Num.rangeB ⟨k, x0, y0, x1, y1, x2, y2, x3, y3⟩)) ∧ Below w.heap.size w w' := by
  by_cases h1 : k = 1
  · subst h1
    go_enter Try.func100, Try.ntmps100
    go_wp2_with (go_at_call 103; refine (inRange_exact _ _ _).mono ?_; rintro e w' ⟨rfl, rfl⟩)
    all_goals
      go_ret
      exact ⟨ret_bool (by simp [Num.rangeB, *]), by (repeat (any_goals (first | exact Below.refl _ _ | assumption | refine Below.drew ?_ | refine below_drewN ?_ _ | refine Below.setCell ?_ ?_ _ | refine Below.alloc ?_ ?_ _ | omega | (simp; done) | (simp; omega))))⟩
  · by_cases h2 : k = 2
    · subst h2
      go_enter Try.func100, Try.ntmps100
      go_wp2_with (go_at_call 103; refine (inRange_exact _ _ _).mono ?_; rintro e w' ⟨rfl, rfl⟩)
      all_goals
        go_ret
        exact ⟨ret_bool (by simp [Num.rangeB, *]), by (repeat (any_goals (first | exact Below.refl _ _ | assumption | refine Below.drew ?_ | refine below_drewN ?_ _ | refine Below.setCell ?_ ?_ _ | refine Below.alloc ?_ ?_ _ | omega | (simp; done) | (simp; omega))))⟩
    · have b1 : (k == 1) = false := by simpa using h1
      have b2 : (k == 2) = false := by simpa using h2
      go_enter Try.func100, Try.ntmps100
      go_wp2_with (go_at_call 103; refine (inRange_exact _ _ _).mono ?_; rintro e w' ⟨rfl, rfl⟩)
      all_goals
        go_ret
        exact ⟨ret_bool (by simp [Num.rangeB, *]), by (repeat (any_goals (first | exact Below.refl _ _ | assumption | refine Below.drew ?_ | refine below_drewN ?_ _ | refine Below.setCell ?_ ?_ _ | refine Below.alloc ?_ ?_ _ | omega | (simp; done) | (simp; omega))))⟩

set_option maxHeartbeats 400000 in
theorem quadAt_any (a b c i n : Int) (w : World) (ha : -16384 ≤ a ∧ a ≤ 16384) (hb : -16384 ≤ b ∧ b ≤ 16384) (hc : -16384 ≤ c ∧ c ≤ 16384) (hi : 0 ≤ i) (hin : i ≤ n) (h1 : 1 ≤ n) (hn : n ≤ 111) :
    Calls Try.prog 112 #[.int .i64 a, .int .i64 b, .int .i64 c, .int .i64 i, .int .i64 n] w fun e w' => e = .returned (.int .i64 (Num.hu (Num.qSum (n - i) i a b c) (n * n))) ∧ w' = w := by
  have k0 : -111 ≤ n - i ∧ n - i ≤ 111 := by omega
  have i0 : -111 ≤ i ∧ i ≤ 111 := by omega
  have n0 : -111 ≤ n ∧ n ≤ 111 := by omega
  have m1 := Num.mul_bd (n - i) (n - i) _ _ k0 k0
  have m2 := Num.mul3_bd k0 k0 ha
  have m3 := Num.mul3_bd (a := 2 * i) (A := 222) (by omega) k0 hb
  have m4 := Num.mul_bd (2 * i) (n - i) 222 _ (by omega) k0
  have m5 := Num.mul_bd i i _ _ i0 i0
  have m6 := Num.mul3_bd i0 i0 hc
  have m7 := Num.mul_bd n n _ _ n0 n0
  have m8 : 1 ≤ n * n := by have := Int.mul_le_mul h1 h1 (by omega) (by omega); omega
  clear k0 i0 n0
  go_enter Try.func112, Try.ntmps112
  go_wp2_with (go_at_call 81; refine (halfUp_any _ _ _ (by omega) (by omega) (by omega) (by omega)).mono ?_; rintro e w' ⟨rfl, rfl⟩)
  go_ret
  exact ⟨rfl, rfl⟩

set_option maxHeartbeats 400000 in
theorem cubicAt_any (a b c d i n : Int) (w : World) (ha : -16384 ≤ a ∧ a ≤ 16384) (hb : -16384 ≤ b ∧ b ≤ 16384) (hc : -16384 ≤ c ∧ c ≤ 16384) (hd : -16384 ≤ d ∧ d ≤ 16384) (hi : 0 ≤ i) (hin : i ≤ n) (h1 : 1 ≤ n) (hn : n ≤ 111) :
    Calls Try.prog 113 #[.int .i64 a, .int .i64 b, .int .i64 c, .int .i64 d, .int .i64 i, .int .i64 n] w fun e w' => e = .returned (.int .i64 (Num.hu (Num.cSum (n - i) i a b c d) (n * n * n))) ∧ w' = w := by
  have k0 : -111 ≤ n - i ∧ n - i ≤ 111 := by omega
  have i0 : -111 ≤ i ∧ i ≤ 111 := by omega
  have n0 : -111 ≤ n ∧ n ≤ 111 := by omega
  have j0 : -333 ≤ 3 * i ∧ 3 * i ≤ 333 := by omega
  have m1 := Num.mul_bd (n - i) (n - i) _ _ k0 k0
  have m2 := Num.mul3_bd k0 k0 k0
  have m3 := Num.mul4_bd k0 k0 k0 ha
  have m4 := Num.mul_bd (3 * i) (n - i) _ _ j0 k0
  have m5 := Num.mul3_bd j0 k0 k0
  have m6 := Num.mul4_bd j0 k0 k0 hb
  have m7 := Num.mul_bd (3 * i) i _ _ j0 i0
  have m8 := Num.mul3_bd j0 i0 k0
  have m9 := Num.mul4_bd j0 i0 k0 hc
  have p1 := Num.mul_bd i i _ _ i0 i0
  have p2 := Num.mul3_bd i0 i0 i0
  have p3 := Num.mul4_bd i0 i0 i0 hd
  have p4 := Num.mul_bd n n _ _ n0 n0
  have p5 := Num.mul3_bd n0 n0 n0
  have p6 : 1 ≤ n * n := by have := Int.mul_le_mul h1 h1 (by omega) (by omega); omega
  have p7 : 1 ≤ n * n * n := by have := Int.mul_le_mul p6 h1 (by omega) (by omega); omega
  have HS : Hid ((n - i) * (n - i) * (n - i) * a + 3 * i * (n - i) * (n - i) * b + (3 * i * i * (n - i) * c + i * i * i * d) = Num.cSum (n - i) i a b c d) := by unfold Hid Num.cSum; omega
  clear k0 i0 n0 j0
  go_enter Try.func113, Try.ntmps113
  go_wp2_with (go_at_call 81; refine (halfUp_any _ _ _ (by omega) (by omega) (by omega) (by omega)).mono ?_; rintro e w' ⟨rfl, rfl⟩)
  go_ret
  exact ⟨ret_int (by rw [HS.out]), rfl⟩

/-- The loop of chords. -/
theorem steps_round {d q S : Int} (h : Num.IsSteps d S) (h1 : 1 ≤ q) (h2 : q ≤ S) : (16 * q * q < d → q + 1 ≤ S) ∧ (¬ 16 * q * q < d → q = S) := by
  constructor
  · intro h3
    rcases Int.lt_or_le q S with h4 | h4
    · omega
    · have : q = S := by omega
      subst this
      have := h.2.1
      omega
  · intro h3
    rcases Int.lt_or_le q S with h4 | h4
    · have := h.2.2 q h1 h4; omega
    · omega
end Go.Proofs.Ytkhcjkmifddlbab

/- Lists -/
namespace Go.Proofs.Ytkhcjkmifddlbab
open Go.RowKit Go.Deep

/-- The cells of a row of points. -/
def pc (X Y K : Nat → Int) (q : Nat) : Value := .int .i64 (if q % 3 = 0 then X (q / 3) else if q % 3 = 1 then Y (q / 3) else K (q / 3))
theorem pc0 (X Y K : Nat → Int) (k : Nat) : pc X Y K (k * 3) = .int .i64 (X k) := by
  unfold pc; rw [if_pos (by omega), show k * 3 / 3 = k by omega]
theorem pc1 (X Y K : Nat → Int) (k : Nat) : pc X Y K (k * 3 + 1) = .int .i64 (Y k) := by
  unfold pc; rw [if_neg (by omega), if_pos (by omega), show (k * 3 + 1) / 3 = k by omega]
theorem pc2 (X Y K : Nat → Int) (k : Nat) : pc X Y K (k * 3 + 2) = .int .i64 (K k) := by
  unfold pc; rw [if_neg (by omega), if_neg (by omega), show (k * 3 + 2) / 3 = k by omega]
theorem pc_congr {X Y K X' Y' K' : Nat → Int} {m : Nat} (h : ∀ k, k < m → X k = X' k ∧ Y k = Y' k ∧ K k = K' k) (q : Nat) (hq : q < m * 3) : pc X Y K q = pc X' Y' K' q := by
  obtain ⟨a, b, c⟩ := h (q / 3) (by omega)
  unfold pc
  rw [a, b, c]

/-- Three stores: point k of a row of points. -/
theorem row_setPt {w : World} {b : Nat} {t : TypeId} {m : Nat} {X Y K : Nat → Int} (h : w.rowIs b t (m * 3) (pc X Y K)) (k : Nat) (x y z : Int) :
    (((w.setCell ⟨b, k * 3, none⟩ (.int .i64 x)).setCell ⟨b, k * 3 + 1, none⟩ (.int .i64 y)).setCell ⟨b, k * 3 + 2, none⟩ (.int .i64 z)).rowIs b t (m * 3) (pc (fun j => if j = k then x else X j) (fun j => if j = k then y else Y j) (fun j => if j = k then z else K j)) := by
  refine (((h.set (k * 3) _).set (k * 3 + 1) _).set (k * 3 + 2) _).congr fun q hq => ?_
  by_cases e2 : q = k * 3 + 2
  · subst e2; rw [if_pos rfl, pc2, if_pos rfl]
  rw [if_neg e2]
  by_cases e1 : q = k * 3 + 1
  · subst e1; rw [if_pos rfl, pc1, if_pos rfl]
  rw [if_neg e1]
  by_cases e0 : q = k * 3
  · subst e0; rw [if_pos rfl, pc0, if_pos rfl]
  rw [if_neg e0]
  have e3 : ¬ q / 3 = k := by omega
  simp only [pc, if_neg e3]

theorem row_below {w w' : World} {B b : Nat} {t : TypeId} {n : Nat} {f : Nat → Value} (h : w.rowIs b t n f) (hb : Below B w w') (hlt : b < B) : w'.rowIs b t n f :=
  h.of_block (hb.block b hlt)

theorem row_cells {w : World} {b : Nat} {t : TypeId} {m : Nat} {X Y K : Nat → Int} (h : w.rowIs b t (m * 3) (pc X Y K)) (k : Nat) (hk : k < m) :
    w.cell? ⟨b, k * 3, none⟩ = some (.int .i64 (X k)) ∧ w.cell? ⟨b, k * 3 + 1, none⟩ = some (.int .i64 (Y k)) ∧ w.cell? ⟨b, k * 3 + 2, none⟩ = some (.int .i64 (K k)) := by
  refine ⟨?_, ?_, ?_⟩
  · rw [h.cell (by omega), pc0]
  · rw [h.cell (by omega), pc1]
  · rw [h.cell (by omega), pc2]

/-- Two rows of different element types lie in different blocks. -/
theorem row_ne {w : World} {b b' : Nat} {t t' : TypeId} {n n' : Nat} {f f' : Nat → Value} (h : w.rowIs b t n f) (h' : w.rowIs b' t' n' f') (ht : t ≠ t') : b ≠ b' := by
  intro e
  subst e
  obtain ⟨c, hb, _⟩ := h
  obtain ⟨c', hb', _⟩ := h'
  rw [hb] at hb'
  simp at hb'
  exact ht hb'.2

/-- What make lays for points. -/
theorem row_made3 (w : World) (m : Nat) (t : TypeId) : (w.alloc (.cells (madeCells #[.int .i64 0, .int .i64 0, .int .i64 0] (m * 3)) t)).rowIs w.heap.size t (m * 3) (pc (fun _ => 0) (fun _ => 0) (fun _ => 0)) := by
  refine ⟨_, blk_alloc_new _ _, size_madeCells _ _, fun i hi => ?_⟩
  have e : pc (fun _ => 0) (fun _ => 0) (fun _ => 0) i = .int .i64 0 := by unfold pc; split <;> (try split) <;> rfl
  rw [e]
  rcases (show i % 3 = 0 ∨ i % 3 = 1 ∨ i % 3 = 2 by omega) with h | h | h <;> simp [madeCells, hi, h]

/-- The length of list i, among N lists and two more that are empty. -/
def ln (N : Nat) (n : Nat → Nat) (i : Nat) : Nat := if i < N then n i else 0
/-- What lies in the lists: the points, and ink behind them. -/
def lx (l : Nat) (X : Nat → Int) (k : Nat) : Int := if k < l then X k else 1099511627776
def ly (l : Nat) (X : Nat → Int) (k : Nat) : Int := if k < l then X k else -7
def lk (l : Nat) (X : Nat → Int) (k : Nat) : Int := if k < l then X k else 9

/-- An outline that was lent: its outer list at block ob, list i at block B i. -/
structure Lent (w : World) (base ob N : Nat) (B n : Nat → Nat) (X Y K : Nat → Nat → Int) : Prop where
  outer : w.rowIs ob 41 (N + 2) (fun i => .slice (some ⟨B i, 0, none⟩) (ln N n i) (ln N n i + 2))
  ge : base ≤ ob
  geB : ∀ i, i < N + 2 → base ≤ B i
  inj : ∀ i j, i < N + 2 → j < N + 2 → B i = B j → i = j
  inner : ∀ i, i < N + 2 → w.rowIs (B i) 90 ((ln N n i + 2) * 3) (pc (lx (ln N n i) (X i)) (ly (ln N n i) (Y i)) (lk (ln N n i) (K i)))

theorem Lent.below {w w' : World} {base ob N : Nat} {B n : Nat → Nat} {X Y K : Nat → Nat → Int} (h : Lent w base ob N B n X Y K) (hb : Below w.heap.size w w') : Lent w' base ob N B n X Y K :=
  ⟨row_below h.outer hb h.outer.lt, h.ge, h.geB, h.inj, fun i hi => row_below (h.inner i hi) hb (h.inner i hi).lt⟩

/-- What was lent reads as the outline. -/
theorem Lent.out {w : World} {base ob N : Nat} {B n : Nat → Nat} {X Y K : Nat → Nat → Int} (h : Lent w base ob N B n X Y K) :
    OutAt w (some ⟨ob, 0, none⟩) N (fun i => some ⟨B i, 0, none⟩) (fun i => n i + 2) n X Y K := by
  refine ⟨Or.inr ⟨ob, 0, rfl, fun i hi => ?_⟩, fun i hi => Or.inr ⟨B i, 0, rfl, fun k hk => ?_⟩⟩
  · have := h.outer.cell (i := i) (by omega)
    simp only [ln, if_pos hi] at this
    simpa using this
  · have := row_cells (h.inner i (by omega)) k (by simp [ln, hi]; omega)
    simp only [ln, if_pos hi, lx, ly, lk, if_pos hk] at this
    simpa using this
end Go.Proofs.Ytkhcjkmifddlbab

/- Held -/
namespace Go.Proofs.Ytkhcjkmifddlbab
open Go.RowKit Go.Deep

/-- The cells of a list of points, all marks. -/
def mkP (k : Int) (q : Nat) : Value := pc (fun _ => 2199023255552 + k) (fun _ => -7) (fun _ => 9) q
/-- The cells of a list of segments, all marks. -/
def mkS (k : Int) (q : Nat) : Value := .int .i64 (if q % 9 = 0 then 9 else if q % 9 % 2 = 1 then 2199023255552 + k else -7)

/-- The cells of a list of spots, all marks. -/
def mkT (k : Int) (q : Nat) : Value := .int .i64 (if q % 2 = 0 then 2199023255552 + k else -7)

/-- The number that stands at place q of bytes that are all marks. -/
def mkB (k : Int) (q : Nat) : Value := .int .u8 (IntKind.u8.wrap (k + (q : Int) * (1 + k / 256)))

/-- What is held. -/
structure HS where
  n : Int
  cs : Value
  rs : Value
  vP : Value
  vO : Value
  vS : Value
  vT : Value
  vR : Value
  vB : Value
  P : List (Nat × Nat × Int)
  O : List (Nat × Nat × (Nat → Nat) × Int)
  S : List (Option Nat × Nat × Int)
  T : List (Option Nat × Nat × Int)
  R : List (Option Nat × Nat × (Nat → Nat) × Int)
  B : List (Option Nat × Nat × Int)

/-- The cells of the caller's world. -/
def wc (s : HS) (q : Nat) : Value :=
  if q = 0 then s.cs else if q = 1 then s.rs else if q = 2 then .int .i64 s.n else if q = 3 then s.vP else if q = 4 then s.vO else if q = 5 then s.vS else if q = 6 then s.vT else if q = 7 then s.vR else s.vB

def peC (e : Nat × Nat × Int) : List Value := [.slice (some ⟨e.1, 0, none⟩) e.2.1 e.2.1, .int .i64 e.2.2]
def oeC (e : Nat × Nat × (Nat → Nat) × Int) : List Value := [.slice (some ⟨e.1, 0, none⟩) e.2.1 e.2.1, .int .i64 e.2.2.2]
def seC (e : Option Nat × Nat × Int) : List Value := [.slice (e.1.map fun b => ⟨b, 0, none⟩) e.2.1 e.2.1, .int .i64 e.2.2]

def reC (e : Option Nat × Nat × (Nat → Nat) × Int) : List Value := [.slice (e.1.map fun b => ⟨b, 0, none⟩) e.2.1 e.2.1, .int .i64 e.2.2.2]

/-- All that is held reads as its mark. -/
structure HeldInv (w : World) (h : Nat) (s : HS) : Prop where
  wd : w.rowIs h 70 9 (wc s)
  oP : w.ownsRow h 122 2 s.vP s.P.length (s.P.flatMap peC)
  oO : w.ownsRow h 125 2 s.vO s.O.length (s.O.flatMap oeC)
  oS : w.ownsRow h 103 2 s.vS s.S.length (s.S.flatMap seC)
  eP : ∀ e ∈ s.P, w.rowIs e.1 90 (e.2.1 * 3) (mkP e.2.2)
  eO : ∀ e ∈ s.O, w.rowIs e.1 41 e.2.1 (fun i => .slice (some ⟨e.2.2.1 i, 0, none⟩) 1 1)
  eI : ∀ e ∈ s.O, ∀ i, i < e.2.1 → w.rowIs (e.2.2.1 i) 90 3 (mkP e.2.2.2)
  eS : ∀ e ∈ s.S, ∀ b, e.1 = some b → w.rowIs b 105 (e.2.1 * 9) (mkS e.2.2)
  eN : ∀ e ∈ s.S, e.1 = none → e.2.1 = 0
  lo : (s.P.length : Int) + (s.O.length : Int) + (s.S.length : Int) + (s.T.length : Int) + (s.R.length : Int) + (s.B.length : Int) ≤ s.n
  hi : s.n ≤ 1099511627776
  mP : ∀ e ∈ s.P, 0 ≤ e.2.2 ∧ e.2.2 ≤ 1099511627776 ∧ e.2.1 ≤ 1099511627776
  mO : ∀ e ∈ s.O, 0 ≤ e.2.2.2 ∧ e.2.2.2 ≤ 1099511627776 ∧ e.2.1 ≤ 1099511627776
  mS : ∀ e ∈ s.S, 0 ≤ e.2.2 ∧ e.2.2 ≤ 1099511627776 ∧ (e.2.1 : Int) ≤ 9223372036854775807
  oT : w.ownsRow h 127 2 s.vT s.T.length (s.T.flatMap seC)
  oR : w.ownsRow h 129 2 s.vR s.R.length (s.R.flatMap reC)
  eT : ∀ e ∈ s.T, ∀ b, e.1 = some b → w.rowIs b 53 (e.2.1 * 2) (mkT e.2.2)
  eU : ∀ e ∈ s.T, e.1 = none → e.2.1 = 0
  eR : ∀ e ∈ s.R, ∀ b, e.1 = some b → w.rowIs b 51 e.2.1 (fun i => .slice (some ⟨e.2.2.1 i, 0, none⟩) 1 1)
  eJ : ∀ e ∈ s.R, ∀ i, i < e.2.1 → w.rowIs (e.2.2.1 i) 53 2 (mkT e.2.2.2)
  eM : ∀ e ∈ s.R, e.1 = none → e.2.1 = 0
  mT : ∀ e ∈ s.T, 0 ≤ e.2.2 ∧ e.2.2 ≤ 1099511627776 ∧ (e.2.1 : Int) ≤ 9223372036854775807
  mR : ∀ e ∈ s.R, 0 ≤ e.2.2.2 ∧ e.2.2.2 ≤ 1099511627776 ∧ (e.2.1 : Int) ≤ 9223372036854775807
  oB : w.ownsRow h 108 2 s.vB s.B.length (s.B.flatMap seC)
  eB : ∀ e ∈ s.B, ∀ b, e.1 = some b → w.rowIs b 5 e.2.1 (mkB e.2.2)
  eV : ∀ e ∈ s.B, e.1 = none → e.2.1 = 0
  mB : ∀ e ∈ s.B, 0 ≤ e.2.2 ∧ e.2.2 ≤ 1099511627776 ∧ (e.2.1 : Int) ≤ 9223372036854775807

/-- The blocks in which it lies. -/
def Used (h : Nat) (s : HS) (b : Nat) : Prop :=
  b = h ∨ s.vP.ownBlock = some b ∨ s.vO.ownBlock = some b ∨ s.vS.ownBlock = some b ∨ (∃ e ∈ s.P, e.1 = b) ∨ (∃ e ∈ s.O, e.1 = b) ∨ (∃ e ∈ s.O, ∃ i, i < e.2.1 ∧ e.2.2.1 i = b) ∨ (∃ e ∈ s.S, e.1 = some b) ∨
  s.vT.ownBlock = some b ∨ s.vR.ownBlock = some b ∨ (∃ e ∈ s.T, e.1 = some b) ∨ (∃ e ∈ s.R, e.1 = some b) ∨ (∃ e ∈ s.R, ∃ i, i < e.2.1 ∧ e.2.2.1 i = b) ∨ s.vB.ownBlock = some b ∨ (∃ e ∈ s.B, e.1 = some b)

theorem owns_of_block {w w' : World} {base : Nat} {t : TypeId} {sz : Nat} {v : Value} {n : Nat} {xs : List Value} (h : w.ownsRow base t sz v n xs) (e : ∀ b, v.ownBlock = some b → w'.heap[b]? = w.heap[b]?) : w'.ownsRow base t sz v n xs := by
  refine ⟨h.1, ?_⟩
  rcases h.2 with hn | ⟨g, cap, cur, rfl, hb, hg, rest⟩
  · exact .inl hn
  · exact .inr ⟨g, cap, cur, rfl, hb, (e g rfl).trans hg, rest⟩

theorem HeldInv.of_blocks {w w' : World} {h : Nat} {s : HS} (H : HeldInv w h s) (e : ∀ b, Used h s b → w'.heap[b]? = w.heap[b]?) : HeldInv w' h s where
  wd := H.wd.of_block (e h (.inl rfl))
  oP := owns_of_block H.oP fun b hb => e b (by unfold Used; simp [hb])
  oO := owns_of_block H.oO fun b hb => e b (by unfold Used; simp [hb])
  oS := owns_of_block H.oS fun b hb => e b (by unfold Used; simp [hb])
  eP x hx := (H.eP x hx).of_block (e _ (.inr (.inr (.inr (.inr (.inl ⟨x, hx, rfl⟩))))))
  eO x hx := (H.eO x hx).of_block (e _ (.inr (.inr (.inr (.inr (.inr (.inl ⟨x, hx, rfl⟩)))))))
  eI x hx i hi := (H.eI x hx i hi).of_block (e _ (.inr (.inr (.inr (.inr (.inr (.inr (.inl ⟨x, hx, i, hi, rfl⟩))))))))
  eS x hx b hb := (H.eS x hx b hb).of_block (e _ (.inr (.inr (.inr (.inr (.inr (.inr (.inr (.inl ⟨x, hx, hb⟩)))))))))
  eN := H.eN
  lo := H.lo
  hi := H.hi
  mP := H.mP
  mO := H.mO
  mS := H.mS
  oT := owns_of_block H.oT fun b hb => e b (by unfold Used; simp [hb])
  oR := owns_of_block H.oR fun b hb => e b (by unfold Used; simp [hb])
  eT x hx b hb := (H.eT x hx b hb).of_block (e _ (.inr (.inr (.inr (.inr (.inr (.inr (.inr (.inr (.inr (.inr (.inl ⟨x, hx, hb⟩))))))))))))
  eU := H.eU
  eR x hx b hb := (H.eR x hx b hb).of_block (e _ (.inr (.inr (.inr (.inr (.inr (.inr (.inr (.inr (.inr (.inr (.inr (.inl ⟨x, hx, hb⟩)))))))))))))
  eJ x hx i hi := (H.eJ x hx i hi).of_block (e _ (.inr (.inr (.inr (.inr (.inr (.inr (.inr (.inr (.inr (.inr (.inr (.inr (.inl ⟨x, hx, i, hi, rfl⟩))))))))))))))
  eM := H.eM
  mT := H.mT
  mR := H.mR
  oB := owns_of_block H.oB fun b hb => e b (by unfold Used; simp [hb])
  eB x hx b hb := (H.eB x hx b hb).of_block (e _ (.inr (.inr (.inr (.inr (.inr (.inr (.inr (.inr (.inr (.inr (.inr (.inr (.inr (.inr ⟨x, hx, hb⟩)))))))))))))))
  eV := H.eV
  mB := H.mB

theorem HeldInv.used_lt {w : World} {h : Nat} {s : HS} (H : HeldInv w h s) {b : Nat} (u : Used h s b) : b < w.heap.size := by
  rcases u with rfl | u | u | u | ⟨x, hx, rfl⟩ | ⟨x, hx, rfl⟩ | ⟨x, hx, i, hi, rfl⟩ | ⟨x, hx, hb⟩ | u | u | ⟨x, hx, hb⟩ | ⟨x, hx, hb⟩ | ⟨x, hx, i, hi, rfl⟩ | u | ⟨x, hx, hb⟩
  · exact H.wd.lt
  · exact (H.oP.lt b u).2
  · exact (H.oO.lt b u).2
  · exact (H.oS.lt b u).2
  · exact (H.eP x hx).lt
  · exact (H.eO x hx).lt
  · exact (H.eI x hx i hi).lt
  · exact (H.eS x hx b hb).lt
  · exact (H.oT.lt b u).2
  · exact (H.oR.lt b u).2
  · exact (H.eT x hx b hb).lt
  · exact (H.eR x hx b hb).lt
  · exact (H.eJ x hx i hi).lt
  · exact (H.oB.lt b u).2
  · exact (H.eB x hx b hb).lt

theorem HeldInv.below {w w' : World} {h : Nat} {s : HS} (H : HeldInv w h s) (hb : Below w.heap.size w w') : HeldInv w' h s :=
  H.of_blocks fun b u => hb.block b (H.used_lt u)

/-- The element type of a block. -/
def tyOf (w : World) (b : Nat) : Option TypeId := match w.heap[b]? with
  | some (.cells _ t _) => some t
  | _ => none
theorem row_ty {w : World} {b : Nat} {t : TypeId} {n : Nat} {f : Nat → Value} (h : w.rowIs b t n f) : tyOf w b = some t := by
  obtain ⟨c, hb, _⟩ := h
  simp [tyOf, hb]
theorem owns_ty {w : World} {base : Nat} {t : TypeId} {sz : Nat} {v : Value} {n : Nat} {xs : List Value} (h : w.ownsRow base t sz v n xs) {b : Nat} (hb : v.ownBlock = some b) : tyOf w b = some t := by
  rcases h.2 with ⟨rfl, _⟩ | ⟨g, cap, cur, rfl, _, hg, _⟩
  · simp [Value.ownBlock] at hb
  · simp [Value.ownBlock] at hb
    subst hb
    simp [tyOf, hg]

/-- What is used is of these types, and where it is of a list's type it is one of the lists. -/
theorem HeldInv.used_pt {w : World} {h : Nat} {s : HS} (H : HeldInv w h s) {b : Nat} (u : Used h s b) (ht : tyOf w b = some 90) : (∃ e ∈ s.P, e.1 = b) ∨ ∃ e ∈ s.O, ∃ i, i < e.2.1 ∧ e.2.2.1 i = b := by
  rcases u with rfl | u | u | u | u | ⟨x, hx, rfl⟩ | u | ⟨x, hx, hb⟩ | u | u | ⟨x, hx, hb⟩ | ⟨x, hx, hb⟩ | ⟨x, hx, i, hi, rfl⟩ | u | ⟨x, hx, hb⟩
  · rw [row_ty H.wd] at ht; simp at ht
  · rw [owns_ty H.oP u] at ht; simp at ht
  · rw [owns_ty H.oO u] at ht; simp at ht
  · rw [owns_ty H.oS u] at ht; simp at ht
  · exact .inl u
  · rw [row_ty (H.eO x hx)] at ht; simp at ht
  · exact .inr u
  · rw [row_ty (H.eS x hx b hb)] at ht; simp at ht
  · rw [owns_ty H.oT u] at ht; simp at ht
  · rw [owns_ty H.oR u] at ht; simp at ht
  · rw [row_ty (H.eT x hx b hb)] at ht; simp at ht
  · rw [row_ty (H.eR x hx b hb)] at ht; simp at ht
  · rw [row_ty (H.eJ x hx i hi)] at ht; simp at ht
  · rw [owns_ty H.oB u] at ht; simp at ht
  · rw [row_ty (H.eB x hx b hb)] at ht; simp at ht
theorem HeldInv.used_pts {w : World} {h : Nat} {s : HS} (H : HeldInv w h s) {b : Nat} (u : Used h s b) (ht : tyOf w b = some 41) : ∃ e ∈ s.O, e.1 = b := by
  rcases u with rfl | u | u | u | ⟨x, hx, rfl⟩ | u | ⟨x, hx, i, hi, rfl⟩ | ⟨x, hx, hb⟩ | u | u | ⟨x, hx, hb⟩ | ⟨x, hx, hb⟩ | ⟨x, hx, i, hi, rfl⟩ | u | ⟨x, hx, hb⟩
  · rw [row_ty H.wd] at ht; simp at ht
  · rw [owns_ty H.oP u] at ht; simp at ht
  · rw [owns_ty H.oO u] at ht; simp at ht
  · rw [owns_ty H.oS u] at ht; simp at ht
  · rw [row_ty (H.eP x hx)] at ht; simp at ht
  · exact u
  · rw [row_ty (H.eI x hx i hi)] at ht; simp at ht
  · rw [row_ty (H.eS x hx b hb)] at ht; simp at ht
  · rw [owns_ty H.oT u] at ht; simp at ht
  · rw [owns_ty H.oR u] at ht; simp at ht
  · rw [row_ty (H.eT x hx b hb)] at ht; simp at ht
  · rw [row_ty (H.eR x hx b hb)] at ht; simp at ht
  · rw [row_ty (H.eJ x hx i hi)] at ht; simp at ht
  · rw [owns_ty H.oB u] at ht; simp at ht
  · rw [row_ty (H.eB x hx b hb)] at ht; simp at ht
theorem HeldInv.used_seg {w : World} {h : Nat} {s : HS} (H : HeldInv w h s) {b : Nat} (u : Used h s b) (ht : tyOf w b = some 105) : ∃ e ∈ s.S, e.1 = some b := by
  rcases u with rfl | u | u | u | ⟨x, hx, rfl⟩ | ⟨x, hx, rfl⟩ | ⟨x, hx, i, hi, rfl⟩ | u | u | u | ⟨x, hx, hb⟩ | ⟨x, hx, hb⟩ | ⟨x, hx, i, hi, rfl⟩ | u | ⟨x, hx, hb⟩
  · rw [row_ty H.wd] at ht; simp at ht
  · rw [owns_ty H.oP u] at ht; simp at ht
  · rw [owns_ty H.oO u] at ht; simp at ht
  · rw [owns_ty H.oS u] at ht; simp at ht
  · rw [row_ty (H.eP x hx)] at ht; simp at ht
  · rw [row_ty (H.eO x hx)] at ht; simp at ht
  · rw [row_ty (H.eI x hx i hi)] at ht; simp at ht
  · exact u
  · rw [owns_ty H.oT u] at ht; simp at ht
  · rw [owns_ty H.oR u] at ht; simp at ht
  · rw [row_ty (H.eT x hx b hb)] at ht; simp at ht
  · rw [row_ty (H.eR x hx b hb)] at ht; simp at ht
  · rw [row_ty (H.eJ x hx i hi)] at ht; simp at ht
  · rw [owns_ty H.oB u] at ht; simp at ht
  · rw [row_ty (H.eB x hx b hb)] at ht; simp at ht
theorem HeldInv.used_spot {w : World} {h : Nat} {s : HS} (H : HeldInv w h s) {b : Nat} (u : Used h s b) (ht : tyOf w b = some 53) : (∃ e ∈ s.T, e.1 = some b) ∨ ∃ e ∈ s.R, ∃ i, i < e.2.1 ∧ e.2.2.1 i = b := by
  rcases u with rfl | u | u | u | ⟨x, hx, rfl⟩ | ⟨x, hx, rfl⟩ | ⟨x, hx, i, hi, rfl⟩ | ⟨x, hx, hb⟩ | u | u | u | ⟨x, hx, hb⟩ | u | u | ⟨x, hx, hb⟩
  · rw [row_ty H.wd] at ht; simp at ht
  · rw [owns_ty H.oP u] at ht; simp at ht
  · rw [owns_ty H.oO u] at ht; simp at ht
  · rw [owns_ty H.oS u] at ht; simp at ht
  · rw [row_ty (H.eP x hx)] at ht; simp at ht
  · rw [row_ty (H.eO x hx)] at ht; simp at ht
  · rw [row_ty (H.eI x hx i hi)] at ht; simp at ht
  · rw [row_ty (H.eS x hx b hb)] at ht; simp at ht
  · rw [owns_ty H.oT u] at ht; simp at ht
  · rw [owns_ty H.oR u] at ht; simp at ht
  · exact .inl u
  · rw [row_ty (H.eR x hx b hb)] at ht; simp at ht
  · exact .inr u
  · rw [owns_ty H.oB u] at ht; simp at ht
  · rw [row_ty (H.eB x hx b hb)] at ht; simp at ht
theorem HeldInv.used_ring {w : World} {h : Nat} {s : HS} (H : HeldInv w h s) {b : Nat} (u : Used h s b) (ht : tyOf w b = some 51) : ∃ e ∈ s.R, e.1 = some b := by
  rcases u with rfl | u | u | u | ⟨x, hx, rfl⟩ | ⟨x, hx, rfl⟩ | ⟨x, hx, i, hi, rfl⟩ | ⟨x, hx, hb⟩ | u | u | ⟨x, hx, hb⟩ | u | ⟨x, hx, i, hi, rfl⟩ | u | ⟨x, hx, hb⟩
  · rw [row_ty H.wd] at ht; simp at ht
  · rw [owns_ty H.oP u] at ht; simp at ht
  · rw [owns_ty H.oO u] at ht; simp at ht
  · rw [owns_ty H.oS u] at ht; simp at ht
  · rw [row_ty (H.eP x hx)] at ht; simp at ht
  · rw [row_ty (H.eO x hx)] at ht; simp at ht
  · rw [row_ty (H.eI x hx i hi)] at ht; simp at ht
  · rw [row_ty (H.eS x hx b hb)] at ht; simp at ht
  · rw [owns_ty H.oT u] at ht; simp at ht
  · rw [owns_ty H.oR u] at ht; simp at ht
  · rw [row_ty (H.eT x hx b hb)] at ht; simp at ht
  · exact u
  · rw [row_ty (H.eJ x hx i hi)] at ht; simp at ht
  · rw [owns_ty H.oB u] at ht; simp at ht
  · rw [row_ty (H.eB x hx b hb)] at ht; simp at ht

theorem HeldInv.used_byte {w : World} {h : Nat} {s : HS} (H : HeldInv w h s) {b : Nat} (u : Used h s b) (ht : tyOf w b = some 5) : ∃ e ∈ s.B, e.1 = some b := by
  rcases u with rfl | u | u | u | ⟨x, hx, rfl⟩ | ⟨x, hx, rfl⟩ | ⟨x, hx, i, hi, rfl⟩ | ⟨x, hx, hb⟩ | u | u | ⟨x, hx, hb⟩ | ⟨x, hx, hb⟩ | ⟨x, hx, i, hi, rfl⟩ | u | u
  · rw [row_ty H.wd] at ht; simp at ht
  · rw [owns_ty H.oP u] at ht; simp at ht
  · rw [owns_ty H.oO u] at ht; simp at ht
  · rw [owns_ty H.oS u] at ht; simp at ht
  · rw [row_ty (H.eP x hx)] at ht; simp at ht
  · rw [row_ty (H.eO x hx)] at ht; simp at ht
  · rw [row_ty (H.eI x hx i hi)] at ht; simp at ht
  · rw [row_ty (H.eS x hx b hb)] at ht; simp at ht
  · rw [owns_ty H.oT u] at ht; simp at ht
  · rw [owns_ty H.oR u] at ht; simp at ht
  · rw [row_ty (H.eT x hx b hb)] at ht; simp at ht
  · rw [row_ty (H.eR x hx b hb)] at ht; simp at ht
  · rw [row_ty (H.eJ x hx i hi)] at ht; simp at ht
  · rw [owns_ty H.oB u] at ht; simp at ht
  · exact u

/-- All lists that are held lie below block T. -/
def HS.Under (s : HS) (T : Nat) : Prop := (∀ e ∈ s.P, e.1 < T) ∧ (∀ e ∈ s.O, e.1 < T ∧ ∀ i, i < e.2.1 → e.2.2.1 i < T) ∧ ∀ e ∈ s.S, ∀ b, e.1 = some b → b < T

theorem HeldInv.under {w : World} {h : Nat} {s : HS} (H : HeldInv w h s) : s.Under w.heap.size :=
  ⟨fun e he => (H.eP e he).lt, fun e he => ⟨(H.eO e he).lt, fun i hi => (H.eI e he i hi).lt⟩, fun e he b hb => (H.eS e he b hb).lt⟩

/-- A new mark's number. -/
theorem HeldInv.marked {w : World} {h : Nat} {s : HS} (H : HeldInv w h s) (hn : s.n + 1 ≤ 1099511627776) : HeldInv (w.setCell ⟨h, 2, none⟩ (.int .i64 (s.n + 1))) h { s with n := s.n + 1 } := by
  have hne : ∀ b, b ≠ h → (w.setCell ⟨h, 2, none⟩ (.int .i64 (s.n + 1))).heap[b]? = w.heap[b]? := fun b hb => blk_setCell_other _ _ _ _ (by simpa using hb)
  have ty := row_ty H.wd
  have P1 : ∀ b, tyOf w b ≠ some 70 → (w.setCell ⟨h, 2, none⟩ (.int .i64 (s.n + 1))).heap[b]? = w.heap[b]? := fun b hb => hne b (fun e => by rw [e] at hb; exact hb ty)
  refine { wd := ?_, oP := (owns_of_block H.oP fun b hb => P1 b (by rw [owns_ty H.oP hb]; decide)), oO := (owns_of_block H.oO fun b hb => P1 b (by rw [owns_ty H.oO hb]; decide)), oS := (owns_of_block H.oS fun b hb => P1 b (by rw [owns_ty H.oS hb]; decide)), oT := (owns_of_block H.oT fun b hb => P1 b (by rw [owns_ty H.oT hb]; decide)), oR := (owns_of_block H.oR fun b hb => P1 b (by rw [owns_ty H.oR hb]; decide)), eP := (fun x hx => (H.eP x hx).of_block (P1 _ (by rw [row_ty (H.eP x hx)]; decide))), eO := (fun x hx => (H.eO x hx).of_block (P1 _ (by rw [row_ty (H.eO x hx)]; decide))), eI := (fun x hx i hi => (H.eI x hx i hi).of_block (P1 _ (by rw [row_ty (H.eI x hx i hi)]; decide))), eS := (fun x hx b hb => (H.eS x hx b hb).of_block (P1 _ (by rw [row_ty (H.eS x hx b hb)]; decide))), eN := H.eN, lo := ?_, hi := hn, mP := H.mP, mO := H.mO, mS := H.mS, eT := (fun x hx b hb => (H.eT x hx b hb).of_block (P1 _ (by rw [row_ty (H.eT x hx b hb)]; decide))), eU := H.eU, eR := (fun x hx b hb => (H.eR x hx b hb).of_block (P1 _ (by rw [row_ty (H.eR x hx b hb)]; decide))), eJ := (fun x hx i hi => (H.eJ x hx i hi).of_block (P1 _ (by rw [row_ty (H.eJ x hx i hi)]; decide))), eM := H.eM, mT := H.mT, mR := H.mR, oB := (owns_of_block H.oB fun b hb => P1 b (by rw [owns_ty H.oB hb]; decide)), eB := (fun x hx b hb => (H.eB x hx b hb).of_block (P1 _ (by rw [row_ty (H.eB x hx b hb)]; decide))), eV := H.eV, mB := H.mB }
  · refine (H.wd.set 2 _).congr fun q hq => ?_
    by_cases e : q = 2
    · subst e; simp [wc]
    · simp only [if_neg e, wc]
  · have := H.lo; show (s.P.length : Int) + s.O.length + s.S.length + s.T.length + s.R.length + s.B.length ≤ s.n + 1; omega

/-- Nothing but blocks of S has been written. -/
structure Touch (S : Nat → Prop) (w w' : World) : Prop where
  os : w'.os = w.os
  tape : w'.tape = w.tape
  output : w'.output = w.output
  size : w.heap.size ≤ w'.heap.size
  block : ∀ b, b < w.heap.size → ¬ S b → w'.heap[b]? = w.heap[b]?
theorem Touch.refl (S : Nat → Prop) (w : World) : Touch S w w := ⟨rfl, rfl, rfl, Nat.le_refl _, fun _ _ _ => rfl⟩
theorem Touch.trans {S : Nat → Prop} {a b c : World} (h : Touch S a b) (k : Touch S b c) : Touch S a c :=
  ⟨k.os.trans h.os, k.tape.trans h.tape, k.output.trans h.output, Nat.le_trans h.size k.size, fun x hx hS => (k.block x (Nat.lt_of_lt_of_le hx h.size) hS).trans (h.block x hx hS)⟩
/-- New blocks may be written freely. -/
theorem Touch.trans' {S S' : Nat → Prop} {a b c : World} (h : Touch S a b) (k : Touch S' b c) (hS : ∀ x, S' x → S x ∨ a.heap.size ≤ x) : Touch S a c :=
  ⟨k.os.trans h.os, k.tape.trans h.tape, k.output.trans h.output, Nat.le_trans h.size k.size, fun x hx hn => (k.block x (Nat.lt_of_lt_of_le hx h.size) (fun e => by rcases hS x e with e | e; exact hn e; omega)).trans (h.block x hx hn)⟩
theorem Touch.setCell {S : Nat → Prop} {w w' : World} (h : Touch S w w') {p : Addr} (hp : S p.block ∨ w.heap.size ≤ p.block) (u : Value) : Touch S w (w'.setCell p u) :=
  ⟨h.os, h.tape, h.output, by rw [nblk_setCell]; exact h.size, fun x hx hS => by
    rw [blk_setCell_other _ _ _ _ (fun e => by rcases hp with hp | hp; exact hS (by rw [e]; exact hp); omega)]; exact h.block x hx hS⟩
theorem Touch.alloc {S : Nat → Prop} {w w' : World} (h : Touch S w w') (o : Obj) : Touch S w (w'.alloc o) :=
  ⟨h.os, h.tape, h.output, by rw [nblk_alloc]; have := h.size; omega, fun x hx hS => by rw [blk_alloc_lt _ _ _ (by have := h.size; omega)]; exact h.block x hx hS⟩
theorem Touch.drew {S : Nat → Prop} {w w' : World} (h : Touch S w w') : Touch S w w'.drew := ⟨h.os, h.tape, h.output, h.size, h.block⟩
theorem Touch.drewN {S : Nat → Prop} {w w' : World} (h : Touch S w w') (n : Nat) : Touch S w (w'.drewN n) := ⟨h.os, h.tape, h.output, h.size, h.block⟩
theorem Touch.grown {S : Nat → Prop} {w w' w'' : World} {row : Option Nat} (h : Touch S w w') (hg : w'.grownBy w'' row) (hr : ∀ b, row = some b → S b ∨ w.heap.size ≤ b) : Touch S w w'' :=
  ⟨hg.os.trans h.os, hg.tape.trans h.tape, hg.output.trans h.output, Nat.le_trans h.size hg.size, fun x hx hS => by
    rw [hg.block x (Nat.lt_of_lt_of_le hx h.size) (fun e => by rcases hr x e.symm with e | e; exact hS e; omega)]; exact h.block x hx hS⟩
theorem Touch.below {S : Nat → Prop} {w w' : World} (h : Touch S w w') {B : Nat} (hB : B ≤ w.heap.size) (hS : ∀ b, S b → B ≤ b) : Below B w w' :=
  ⟨h.os, h.tape, h.output, h.size, fun x hx => h.block x (by omega) (fun e => by have := hS x e; omega)⟩
theorem Touch.of_below {S : Nat → Prop} {w w' w'' : World} (h : Touch S w w') (hb : Below w'.heap.size w' w'') : Touch S w w'' :=
  h.trans' (S' := fun _ => False) ⟨hb.os, hb.tape, hb.output, hb.size, fun x hx _ => hb.block x hx⟩ (fun _ e => e.elim)
theorem Touch.row {S : Nat → Prop} {w w' : World} (h : Touch S w w') {b : Nat} {t : TypeId} {n : Nat} {f : Nat → Value} (hr : w.rowIs b t n f) (hS : ¬ S b) : w'.rowIs b t n f :=
  hr.of_block (h.block b hr.lt hS)
end Go.Proofs.Ytkhcjkmifddlbab

/- Cv -/
namespace Go.Proofs.Ytkhcjkmifddlbab
open Go.RowKit Go.Deep

set_option maxHeartbeats 400000 in
theorem lesser_any (a b : Int) (w : World) :
    Calls Try.prog 79 #[.int .i64 a, .int .i64 b] w fun e w' => e = .returned (.int .i64 (Num.lsV a b)) ∧ w' = w := by
  by_cases h : a < b
  · go_enter Try.func79, Try.ntmps79
    go_wp2
    go_ret
    exact ⟨ret_int (by unfold Num.lsV; rw [if_pos (by omega)]), rfl⟩
  · go_enter Try.func79, Try.ntmps79
    go_wp2
    go_ret
    exact ⟨ret_int (by unfold Num.lsV; rw [if_neg (by omega)]), rfl⟩

set_option maxHeartbeats 1000000 in
theorem shareOf_any (x0 y0 x1 y1 t : Int) (w : World) (ht : t = 1 ∨ t = -1) (h0 : -16384 ≤ x0 ∧ x0 ≤ 16384) (h1 : -16384 ≤ y0 ∧ y0 ≤ 16384) (h2 : -16384 ≤ x1 ∧ x1 ≤ 16384) (h3 : -16384 ≤ y1 ∧ y1 ≤ 16384) :
    Calls Try.prog 106 #[.agg #[.int .i64 x0, .int .i64 y0], .agg #[.int .i64 x1, .int .i64 y1], .int .i64 t] w fun e w' => e = .returned (.agg #[.int .i64 (Num.rowV y0 y1), .int .i64 (Num.colV x0 x1), .int .i64 (Num.hereV t x0 y0 x1 y1), .int .i64 (Num.rightV t y0 y1)]) ∧ Below w.heap.size w w' := by
  have g0 := Num.gr0 x0
  have g1 := Num.gr0 x1
  have hm := Num.ls_or (Num.gr x0 0) (Num.gr x1 0)
  have hr := Num.ls_or y0 y1
  obtain ⟨M, hM⟩ : ∃ M, M = Num.lsV (Num.gr x0 0) (Num.gr x1 0) := ⟨_, rfl⟩
  have hC : Num.colV x0 x1 = Num.lsV (Num.gr x0 0) (Num.gr x1 0) / 64 := by
    unfold Num.colV
    rw [Int.tdiv_eq_ediv_of_nonneg (by omega)]
  have hh : -32768 ≤ t * (y1 - y0) ∧ t * (y1 - y0) ≤ 32768 := by rcases ht with rfl | rfl <;> omega
  have hp := Num.mul_bd (t * (y1 - y0)) (Num.lsV (Num.gr x0 0) (Num.gr x1 0) / 64 * 64 + 64 - Num.gr x0 0 + (Num.lsV (Num.gr x0 0) (Num.gr x1 0) / 64 * 64 + 64) - Num.gr x1 0) 32768 65536 (by omega) (by omega)
  have e1 : Num.hereV t x0 y0 x1 y1 = t * (y1 - y0) * (Num.lsV (Num.gr x0 0) (Num.gr x1 0) / 64 * 64 + 64 - Num.gr x0 0 + (Num.lsV (Num.gr x0 0) (Num.gr x1 0) / 64 * 64 + 64) - Num.gr x1 0) := by unfold Num.hereV; rw [hC]
  have e2 : Num.rightV t y0 y1 = t * (y1 - y0) * 2 * 64 := rfl
  have HE := hide (And.intro hC (And.intro e1 e2))
  clear hC e1 e2 hM
  go_enter Try.func106, Try.ntmps106
  go_wp2_with (first | (go_at_call 89; refine (greater_any _ _ _).mono ?_; rintro e w' ⟨rfl, rfl⟩) | (go_at_call 79; refine (lesser_any _ _ _).mono ?_; rintro e w' ⟨rfl, rfl⟩))
  refine bodyPost_ret (v := .agg #[.int .i64 (Num.rowV y0 y1), .int .i64 (Num.colV x0 x1), .int .i64 (Num.hereV t x0 y0 x1 y1), .int .i64 (Num.rightV t y0 y1)]) (by rw [HE.out.1, HE.out.2.1, HE.out.2.2]; simp [results, Try.results106, go_sem, Num.rowV]) rfl ⟨rfl, ?_⟩
  (repeat (any_goals (first | exact Below.refl _ _ | assumption | refine Below.drew ?_ | refine below_drewN ?_ _ | refine Below.setCell ?_ ?_ _ | refine Below.alloc ?_ ?_ _ | omega | (simp; done) | (simp; omega))))

/-- The seven cells of a canvas. -/
def cv7 (W H st tk tw : Int) (ta tr : Value) (q : Nat) : Value := [.int .i64 W, .int .i64 H, .int .i64 st, .int .i64 tk, .int .i64 tw, ta, tr][q]?.getD undef
def sh4 (r c a b : Int) (q : Nat) : Value := [Value.int .i64 r, .int .i64 c, .int .i64 a, .int .i64 b][q]?.getD undef
theorem sh4_row (r c a b : Int) (w : World) (t : TypeId) : (w.alloc (.cells #[.int .i64 r, .int .i64 c, .int .i64 a, .int .i64 b] t)).rowIs w.heap.size t 4 (sh4 r c a b) := by
  refine World.rowIs_alloc w #[.int .i64 r, .int .i64 c, .int .i64 a, .int .i64 b] t (sh4 r c a b) (fun i hi => ?_)
  have hi : i < 4 := hi
  rcases (show i = 0 ∨ i = 1 ∨ i = 2 ∨ i = 3 by omega) with rfl | rfl | rfl | rfl <;> rfl

set_option maxHeartbeats 1000000 in
theorem tabAdd_any (b g W H r c : Nat) (a1 b1 B : Int) (T : Nat → Int) (tt : TypeId) (f : Nat → Value) (w : World) (hW : 1 ≤ W ∧ W ≤ 64) (hH : H ≤ 64) (hr : r < H) (hc : c < W)
    (hR : w.rowIs b tt 7 f) (f4 : f 4 = .int .i64 W) (f5 : f 5 = .slice (some ⟨g, 0, none⟩) (W * H) (W * H)) (hbg : b ≠ g) (hT : w.rowIs g 3 (W * H) (fun k => .int .i64 (T k)))
    (hB : B ≤ 4611686018427387904) (hTB : ∀ k, k < W * H → -B ≤ T k ∧ T k ≤ B) (ha : -8192 ≤ a1 ∧ a1 ≤ 8192) (hb : -8192 ≤ b1 ∧ b1 ≤ 8192) :
    Calls Try.prog 108 #[.pointer (some ⟨b, 4, none⟩), .agg #[.int .i64 r, .int .i64 c, .int .i64 a1, .int .i64 b1]] w fun e w' => e = .returned (.tuple #[]) ∧ Touch (fun q => q = g) w w' ∧ w'.rowIs g 3 (W * H) (fun k => .int .i64 (Num.tabAdd W r c a1 b1 T k)) := by
  have hrow := Num.mul_lt_row (W := W) hr
  rw [Nat.mul_comm H W] at hrow
  have hWH : W * H ≤ 4096 := Nat.mul_le_mul hW.2 hH
  obtain ⟨P, hP⟩ : ∃ P : Nat, P = r * W := ⟨_, rfl⟩
  have hPi : (r : Int) * (W : Int) = (P : Int) := by rw [hP]; simp
  rw [← hP] at hrow
  have HTA : Hid (∀ k, Num.tabAdd W r c a1 b1 T k = if k = P + c then T k + a1 else if P + c < k ∧ k < P + W then T k + b1 else T k) := fun k => by rw [hP]; rfl
  obtain ⟨n, hn⟩ : ∃ n, n = W * H := ⟨_, rfl⟩
  rw [← hn] at f5 hT hTB hrow hWH ⊢
  have w1 : IntKind.i64.wrap ((r : Int) * (W : Int)) = (P : Int) := by rw [hPi]; exact wrap_ok _ (by omega) (by omega)
  have w2 : IntKind.i64.wrap ((P : Int) + (c : Int)) = ((P + c : Nat) : Int) := by rw [wrap_ok _ (by omega) (by omega)]; omega
  have w3 : IntKind.i64.wrap ((P : Int) + (W : Int)) = ((P + W : Nat) : Int) := by rw [wrap_ok _ (by omega) (by omega)]; omega
  have HS := hide (sh4_row r c a1 b1 w 167)
  have HR := hide (hR.alloc (.cells #[.int .i64 (r : Int), .int .i64 (c : Int), .int .i64 a1, .int .i64 b1] 167))
  have HT := hide (hT.alloc (.cells #[.int .i64 (r : Int), .int .i64 (c : Int), .int .i64 a1, .int .i64 b1] 167))
  have hTo : Hid (Touch (fun q => q = g) w (w.alloc (.cells #[.int .i64 (r : Int), .int .i64 (c : Int), .int .i64 a1, .int .i64 b1] 167))) := (Touch.refl _ _).alloc _
  have hgs : g < w.heap.size := hT.lt
  have HTB := hide hTB
  clear hR hT hP hPi hn hTB
  go_enter Try.func108, Try.ntmps108
  go_wp2_with fail
  obtain ⟨sb, hsb⟩ : ∃ sb, sb = w.heap.size := ⟨_, rfl⟩
  obtain ⟨W1, hW1⟩ : ∃ W1, W1 = w.alloc (.cells #[.int .i64 (r : Int), .int .i64 (c : Int), .int .i64 a1, .int .i64 b1] 167) := ⟨_, rfl⟩
  rw [← hsb] at HS
  rw [← hW1] at HS HR HT hTo
  rw [← hW1, ← hsb]
  have hgs2 : g ≠ sb := by omega
  clear hW1 hsb
  have s0 := HS.out.cell (i := 0) (by omega)
  have s1 := HS.out.cell (i := 1) (by omega)
  have k4 := HR.out.cell (i := 4) (by omega)
  rw [f4] at k4
  change W1.cell? ⟨sb, 0, none⟩ = some (.int .i64 (r : Int)) at s0
  change W1.cell? ⟨sb, 1, none⟩ = some (.int .i64 (c : Int)) at s1
  go_quiet (fail)
  go_wp2_with fail
  go_quiet (fail)
  go_wp2_with fail
  go_loopw [6] (fun t wr => ∃ k : Nat, P + c ≤ k ∧ k ≤ P + W ∧ t = .int .i64 k ∧ Touch (fun q => q = g) W1 wr ∧ wr.rowIs g 3 n (fun q => .int .i64 (if q < k then Num.tabAdd W r c a1 b1 T q else T q))) (fun t _ => P + W - (intOf t).toNat)
  case atStart =>
    refine ⟨P + c, by omega, by omega, by first | rfl | go_num, ((Touch.refl _ _).drewN _).drewN _, ?_⟩
    refine (World.rowIs.of_block HT.out rfl).congr fun q _ => ?_
    split
    · rw [HTA.out, if_neg (by omega), if_neg (by omega)]
    · rfl
  case round =>
    obtain ⟨k, hk1, hk2, rfl, hto, hrowg⟩ := hrel
    have hR2 := hto.row HR.out hbg
    have hS2 := hto.row HS.out (fun e => hgs2 e.symm)
    have k5 := hR2.cell (i := 5) (by omega)
    rw [f5] at k5
    by_cases hlt : k < P + W
    · have kg := hrowg.cell (i := k) (by omega)
      rw [if_neg (Nat.lt_irrefl _)] at kg
      have fz := hrowg.frozen k
      have hd1 : decide ((k : Int) < ((P + W : Nat) : Int)) = true := by simp; omega
      have hd2 : decide ((k : Int) < (n : Int)) = true := by simp; omega
      have i0 : (0 : Int) ≤ (k : Int) := by omega
      have i1 : (k : Int) < (n : Int) := by omega
      have hb1 := HTB.out k (by omega)
      have HG := hide hrowg
      have HTo := hide hto
      by_cases he : k = P + c
      · subst he
        have s2 := hS2.cell (i := 2) (by omega)
        change wr.cell? ⟨sb, 2, none⟩ = some (.int .i64 a1) at s2
        have wa : IntKind.i64.wrap (T (P + c) + a1) = T (P + c) + a1 := wrap_ok _ (by omega) (by omega)
        have HN : Hid ((wr.setCell ⟨g, P + c, none⟩ (.int .i64 (T (P + c) + a1))).rowIs g 3 n (fun q => .int .i64 (if q < P + c + 1 then Num.tabAdd W r c a1 b1 T q else T q))) := by
          refine (HG.out.set (P + c) _).congr fun q _ => ?_
          by_cases e : q = P + c
          · subst e
            rw [if_pos rfl, if_pos (by omega), HTA.out, if_pos rfl]
          · rw [if_neg e]
            by_cases d : q < P + c
            · rw [if_pos d, if_pos (by omega)]
            · rw [if_neg d, if_neg (by omega)]
        clear hR2 hS2 hrowg hto
        go_wp2_with fail
        go_region
        all_goals go_wp2
        all_goals go_roundw
        case rel => exact ⟨P + c + 1, by omega, by omega, by go_num, (HTo.out.drew).setCell (.inl rfl) _, HN.out⟩
        case measure => simp [intOf]; omega
      · have s3 := hS2.cell (i := 3) (by omega)
        change wr.cell? ⟨sb, 3, none⟩ = some (.int .i64 b1) at s3
        have wa : IntKind.i64.wrap (T k + b1) = T k + b1 := wrap_ok _ (by omega) (by omega)
        have hde : decide ((k : Int) = ((P + c : Nat) : Int)) = false := by simp; omega
        have HN : Hid ((wr.setCell ⟨g, k, none⟩ (.int .i64 (T k + b1))).rowIs g 3 n (fun q => .int .i64 (if q < k + 1 then Num.tabAdd W r c a1 b1 T q else T q))) := by
          refine (HG.out.set k _).congr fun q _ => ?_
          by_cases e : q = k
          · subst e
            rw [if_pos rfl, if_pos (by omega), HTA.out, if_neg (by omega), if_pos (by omega)]
          · rw [if_neg e]
            by_cases d : q < k
            · rw [if_pos d, if_pos (by omega)]
            · rw [if_neg d, if_neg (by omega)]
        clear hR2 hS2 hrowg hto
        go_wp2_with fail
        go_region
        all_goals go_wp2
        all_goals go_roundw
        case rel => exact ⟨k + 1, by omega, by omega, by go_num, (HTo.out.drew).setCell (.inl rfl) _, HN.out⟩
        case measure => simp [intOf]; omega
    · have hd1 : decide ((k : Int) < ((P + W : Nat) : Int)) = false := by simp; omega
      have HG := hide hrowg
      have HTo := hide (hTo.out.trans hto)
      clear hR2 hS2 hrowg hto
      go_wp2
      go_end0
      exact ⟨rfl, HTo.out, HG.out.congr fun q hq => by
        by_cases d : q < k
        · rw [if_pos d]
        · rw [if_neg d, HTA.out, if_neg (by omega), if_neg (by omega)]⟩

set_option maxHeartbeats 1000000 in
theorem tabArea_any (b g W H i j : Nat) (T : Nat → Int) (tt : TypeId) (f : Nat → Value) (w : World) (hW : 1 ≤ W ∧ W ≤ 64) (hH : H ≤ 64) (hj : j < H) (hi : i < W)
    (hR : w.rowIs b tt 7 f) (f4 : f 4 = .int .i64 W) (f5 : f 5 = .slice (some ⟨g, 0, none⟩) (W * H) (W * H)) (hT : w.rowIs g 3 (W * H) (fun k => .int .i64 (T k))) :
    Calls Try.prog 66 #[.pointer (some ⟨b, 4, none⟩), .int .i64 i, .int .i64 j] w fun e w' => e = .returned (.int .i64 (T (j * W + i))) ∧ w' = w := by
  have hrow := Num.idx_in (W := W) (H := H) hi hj
  have hWH : W * H ≤ 4096 := Nat.mul_le_mul hW.2 hH
  obtain ⟨P, hP⟩ : ∃ P : Nat, P = j * W := ⟨_, rfl⟩
  have hPi : (j : Int) * (W : Int) = (P : Int) := by rw [hP]; simp
  rw [← hP] at hrow ⊢
  obtain ⟨n, hn⟩ : ∃ n, n = W * H := ⟨_, rfl⟩
  rw [← hn] at f5 hT hrow hWH
  have k4 := hR.cell (i := 4) (by omega)
  rw [f4] at k4
  have k5 := hR.cell (i := 5) (by omega)
  rw [f5] at k5
  have kg := hT.cell (i := P + i) (by omega)
  have i0 : (0 : Int) ≤ (P : Int) + (i : Int) := by omega
  have i1 : (P : Int) + (i : Int) < (n : Int) := by omega
  have hd : decide ((n : Int) ≤ (P : Int) + (i : Int)) = false := by simp; omega
  have hd0 : decide ((P : Int) + (i : Int) < 0) = false := by simp; omega
  clear hR hT hP hn
  go_enter Try.func66, Try.ntmps66
  go_wp2_with fail
  all_goals
    go_ret
    exact ⟨rfl, rfl⟩
end Go.Proofs.Ytkhcjkmifddlbab

/- Lend -/
namespace Go.Proofs.Ytkhcjkmifddlbab
open Go.RowKit Go.Deep

theorem info_ptslice : (Try.prog.info? 41).map (fun i => (i.zero, i.size, i.bytes)) = some (some (.slice none 0 0), 1, 24) := by kernel_rfl
theorem info_pt : (Try.prog.info? 90).map (fun i => (i.zero, i.size, i.bytes)) = some (some (.agg #[.int .i64 0, .int .i64 0, .int .i64 0]), 3, 24) := by kernel_rfl

theorem mk_outer (N : Nat) (hN : N ≤ 4294967296) (w : World) : (Instr.makeSlice 22 (.int .i64 ((N : Int) + 2)) (.int .i64 ((N : Int) + 2))).run Try.prog w = .ok (.slice (some ⟨w.heap.size, 0, none⟩) (N + 2) (N + 2)) (w.alloc (.cells (madeCells #[.slice none 0 0] (N + 2)) 41)) := by
  obtain ⟨i, hi, hz0, hz1, hz2⟩ := info_parts info_ptslice
  have h := run_make (P := Try.prog) w 22 41 i _ Try.underlying22 hi hz0 .i64 .i64 ((N : Int) + 2) ((N : Int) + 2) (by omega) (Int.le_refl _) (by rw [hz2]; omega) (by omega)
  rw [hz1, show ((N : Int) + 2).toNat = N + 2 by omega] at h
  simpa [Value.cells] using h
theorem mk_inner (N : Nat) (hN : N ≤ 4294967296) (w : World) : (Instr.makeSlice 41 (.int .i64 ((N : Int) + 2)) (.int .i64 ((N : Int) + 2))).run Try.prog w = .ok (.slice (some ⟨w.heap.size, 0, none⟩) (N + 2) (N + 2)) (w.alloc (.cells (madeCells #[.int .i64 0, .int .i64 0, .int .i64 0] ((N + 2) * 3)) 90)) := by
  obtain ⟨i, hi, hz0, hz1, hz2⟩ := info_parts info_pt
  have h := run_make (P := Try.prog) w 41 90 i _ Try.underlying41 hi hz0 .i64 .i64 ((N : Int) + 2) ((N : Int) + 2) (by omega) (Int.le_refl _) (by rw [hz2]; omega) (by omega)
  rw [hz1, show ((N : Int) + 2).toNat = N + 2 by omega] at h
  simpa [Value.cells] using h

theorem mk_two (w : World) : (Instr.makeSlice 41 (.int .i64 2) (.int .i64 2)).run Try.prog w = .ok (.slice (some ⟨w.heap.size, 0, none⟩) 2 2) (w.alloc (.cells (madeCells #[.int .i64 0, .int .i64 0, .int .i64 0] 6) 90)) := by
  simpa using mk_inner 0 (by omega) w

/-- One list of lend's: the loop that fills it. -/
def filled (l k : Nat) (X Y K : Nat → Int) (q : Nat) : Value := pc (fun j => if j < k then lx l X j else 0) (fun j => if j < k then ly l Y j else 0) (fun j => if j < k then lk l K j else 0) q

theorem filled_step {w : World} {b m l j : Nat} {t : TypeId} {X Y K : Nat → Int} (h : w.rowIs b t (m * 3) (filled l j X Y K)) {x y z : Int} (hx : x = lx l X j) (hy : y = ly l Y j) (hz : z = lk l K j) :
    (((w.setCell ⟨b, j * 3, none⟩ (.int .i64 x)).setCell ⟨b, j * 3 + 1, none⟩ (.int .i64 y)).setCell ⟨b, j * 3 + 2, none⟩ (.int .i64 z)).rowIs b t (m * 3) (filled l (j + 1) X Y K) := by
  refine (row_setPt (X := fun i => if i < j then lx l X i else 0) (Y := fun i => if i < j then ly l Y i else 0) (K := fun i => if i < j then lk l K i else 0) h j x y z).congr fun q hq => ?_
  unfold filled
  refine pc_congr (m := m) (fun i _ => ?_) q hq
  by_cases e : i = j
  · subst e; simp [hx, hy, hz]
  · by_cases e2 : i < j
    · simp [e, e2, show i < j + 1 by omega]
    · simp [e, e2, show ¬ i < j + 1 by omega]
theorem filled_start (w : World) (l : Nat) (t : TypeId) (X Y K : Nat → Int) : (w.alloc (.cells (madeCells #[.int .i64 0, .int .i64 0, .int .i64 0] ((l + 2) * 3)) t)).rowIs w.heap.size t ((l + 2) * 3) (filled l 0 X Y K) := by
  refine (row_made3 w (l + 2) t).congr fun q hq => ?_
  unfold filled
  exact pc_congr (m := l + 2) (fun i _ => by simp) q hq
theorem filled_done {w : World} {b l : Nat} {t : TypeId} {X Y K : Nat → Int} (h : w.rowIs b t ((l + 2) * 3) (filled l (l + 2) X Y K)) : w.rowIs b t ((l + 2) * 3) (pc (lx l X) (ly l Y) (lk l K)) := by
  refine h.congr fun q hq => ?_
  unfold filled
  exact pc_congr (m := l + 2) (fun i hi => by simp [hi]) q hq

theorem lend_step {S N k l : Nat} {n B : Nat → Nat} {X Y K : Nat → Nat → Int} {wo wr : World} (hk : k < N + 2) (hl : ln N n k = l)
    (hrow : wo.rowIs S 41 (N + 2) (fun i => if i < k then .slice (some ⟨B i, 0, none⟩) (ln N n i) (ln N n i + 2) else .slice none 0 0))
    (h3 : (∀ i, i < k → S ≤ B i) ∧ (∀ i j, i < k → j < k → B i = B j → i = j) ∧ (∀ i, i < k → wo.rowIs (B i) 90 ((ln N n i + 2) * 3) (pc (lx (ln N n i) (X i)) (ly (ln N n i) (Y i)) (lk (ln N n i) (K i)))))
    (hbq : Below wo.heap.size wo wr) (hq : wr.rowIs wo.heap.size 90 ((l + 2) * 3) (pc (lx l (X k)) (ly l (Y k)) (lk l (K k)))) :
    ∃ B' : Nat → Nat, (wr.setCell ⟨S, k, none⟩ (.slice (some ⟨wo.heap.size, 0, none⟩) l (l + 2))).rowIs S 41 (N + 2) (fun i => if i < k + 1 then .slice (some ⟨B' i, 0, none⟩) (ln N n i) (ln N n i + 2) else .slice none 0 0) ∧
      (∀ i, i < k + 1 → S ≤ B' i) ∧ (∀ i j, i < k + 1 → j < k + 1 → B' i = B' j → i = j) ∧
      (∀ i, i < k + 1 → (wr.setCell ⟨S, k, none⟩ (.slice (some ⟨wo.heap.size, 0, none⟩) l (l + 2))).rowIs (B' i) 90 ((ln N n i + 2) * 3) (pc (lx (ln N n i) (X i)) (ly (ln N n i) (Y i)) (lk (ln N n i) (K i)))) := by
  obtain ⟨hge, hinj, hin⟩ := h3
  have hS := hrow.lt
  refine ⟨fun i => if i = k then wo.heap.size else B i, ?_, ?_, ?_, ?_⟩
  · refine ((row_below hrow hbq hS).set k _).congr fun i hi => ?_
    by_cases e : i = k
    · subst e; simp [hl]
    · by_cases e2 : i < k
      · simp [e, e2, show i < k + 1 by omega]
      · simp [e, e2, show ¬ i < k + 1 by omega]
  · intro i hi
    by_cases e : i = k
    · simp [e]; omega
    · simp [e]; exact hge i (by omega)
  · intro i j hi hj
    by_cases e : i = k <;> by_cases e' : j = k
    · intro; omega
    · simp [e, e']; intro h; have := (hin j (by omega)).lt; omega
    · simp [e, e']; intro h; have := (hin i (by omega)).lt; omega
    · simp [e, e']; exact hinj i j (by omega) (by omega)
  · intro i hi
    by_cases e : i = k
    · subst e
      simp only [if_pos, hl]
      exact hq.setOther (by simp; omega) _
    · simp only [if_neg e]
      have h := hin i (by omega)
      exact (row_below h hbq h.lt).setOther (by simpa using row_ne h hrow (by decide)) _

end Go.Proofs.Ytkhcjkmifddlbab

/- Impl -/
namespace Go.Proofs.Ytkhcjkmifddlbab
open Go.RowKit Go.Deep

/-- The cells of a point. -/
def ptC (p : Int × Int × Int) : List Value := [.int .i64 p.1, .int .i64 p.2.1, .int .i64 p.2.2]
/-- The points of the first k points' list, the implied ones among them. -/
def impU (X Y K : Nat → Int) (n k : Nat) : List (Int × Int × Int) := (List.range k).flatMap (Num.impF X Y K n)
theorem impU_succ (X Y K : Nat → Int) (n k : Nat) : impU X Y K n (k + 1) = impU X Y K n k ++ Num.impF X Y K n k := by
  unfold impU; rw [List.range_succ, List.flatMap_append]; simp
theorem impU_len (X Y K : Nat → Int) (n k : Nat) : (impU X Y K n k).length ≤ 2 * k := Num.imp_length k

/-- One point more in a row of points that the call owns. -/
theorem push_pt {w : World} {base : Nat} {v : Value} {l l' : List (Int × Int × Int)} {p : Int × Int × Int} {m : Nat} (h : w.ownsRow base 90 3 v m (l.flatMap ptC ++ [.int .i64 p.1, .int .i64 p.2.1, .int .i64 p.2.2])) (hl : l' = l ++ [p]) (hm : m = l.length + 1) : w.ownsRow base 90 3 v l'.length (l'.flatMap ptC) := by
  have e1 : l'.length = m := by rw [hl, hm]; simp
  have e2 : l'.flatMap ptC = l.flatMap ptC ++ [.int .i64 p.1, .int .i64 p.2.1, .int .i64 p.2.2] := by rw [hl]; simp [ptC]
  rw [e1, e2]; exact h

theorem owns_ne_new {w : World} {base : Nat} {t : TypeId} {sz : Nat} {v : Value} {n : Nat} {xs : List Value} (h : w.ownsRow base t sz v n xs) {b : Nat} (hb : w.heap.size ≤ b) : some b ≠ v.ownBlock := fun e => by
  have := (h.lt b e.symm).2; omega

theorem news_new (W : World) (cs : List Value) (t : TypeId) (H : Nat) (hH : W.heap.size = H) : ∀ (j : Nat) (u : Value), cs[j]? = some u → (W.alloc (.cells cs.toArray t)).cell? ((⟨H, 0, none⟩ : Addr).add j) = some u := by
  intro j u hj
  subst hH
  have e2 : ((⟨W.heap.size, 0, none⟩ : Addr).add j) = ⟨W.heap.size, j, none⟩ := by
    unfold Addr.add
    split
    · rename_i h; simp_all
    · simp
  have hlt : j < cs.length := by
    rcases Nat.lt_or_ge j cs.length with h | h
    · exact h
    · rw [List.getElem?_eq_none h] at hj; cases hj
  have hr := (World.rowIs_alloc W cs.toArray t (fun i => cs[i]?.getD u) (fun i hi => by simp at hi; simp [hi])).cell (i := j) (by simpa using hlt)
  rw [e2, hr]
  simp [hj]
theorem one_ints (a b c : Int) : ∀ u ∈ [Value.int .i64 a, .int .i64 b, .int .i64 c], u.oneCell' = true := by
  intro u hu
  simp at hu
  rcases hu with rfl | rfl | rfl <;> rfl

theorem impF_no {X Y K : Nat → Int} {n k : Nat} (h : ¬ (K k = 1 ∧ K (Num.nx n k) = 1)) : Num.impF X Y K n k = [(2 * X k, 2 * Y k, K k)] := by unfold Num.impF; rw [if_neg h]
theorem impF_yes {X Y K : Nat → Int} {n k : Nat} (h : K k = 1 ∧ K (Num.nx n k) = 1) : Num.impF X Y K n k = [(2 * X k, 2 * Y k, K k)] ++ [(X k + X (Num.nx n k), Y k + Y (Num.nx n k), 0)] := by unfold Num.impF; rw [if_pos h]; rfl

set_option maxRecDepth 100000 in
set_option maxHeartbeats 2000000 in
theorem withImplied_any (a : Option Addr) (n c : Nat) (X Y K : Nat → Int) (w : World) (hn : n ≤ 2097152) (hX : ∀ i, i < n → -4096 ≤ X i ∧ X i ≤ 4096) (hY : ∀ i, i < n → -4096 ≤ Y i ∧ Y i ≤ 4096) (hr : RingAt w a n X Y K) :
    Calls Try.prog 95 #[.slice a n c] w fun e w' => ∃ v, e = .returned v ∧ Below w.heap.size w w' ∧ w'.ownsRow w.heap.size 90 3 v (impU X Y K n n).length ((impU X Y K n n).flatMap ptC) := by
  have HR := hide hr
  have HX := hide hX
  have HY := hide hY
  clear hr hX hY
  obtain ⟨i0, hi0, hz0, hz1, hz2⟩ := info_parts info_pt
  go_enter Try.func95, Try.ntmps95
  go_wp2_with fail
  go_loopw [3, 9] (fun v t wr => ∃ k : Nat, k ≤ n ∧ t = .int .i64 k ∧ Below w.heap.size w wr ∧ wr.ownsRow w.heap.size 90 3 v (impU X Y K n k).length ((impU X Y K n k).flatMap ptC)) (fun _ t _ => n - (intOf t).toNat)
  case atStart => exact ⟨0, by omega, rfl, Below.refl _ _, World.ownsRow_nil _ _ _ _⟩
  case round =>
    obtain ⟨v, rfl⟩ : ∃ v, v = u3 := ⟨_, rfl⟩
    obtain ⟨k, hk, rfl, hb, hown⟩ := hrel
    have hsz := hb.size
    have hlen := impU_len X Y K n k
    by_cases hlt : k < n
    · have hd1 : decide ((k : Int) < (n : Int)) = true := by simp; omega
      rcases HR.out with h | ⟨b, off, rfl, hc⟩
      · omega
      obtain ⟨bX, bX'⟩ := HX.out k hlt
      obtain ⟨bY, bY'⟩ := HY.out k hlt
      have hbl : b < w.heap.size := World.block_lt_of_cell? w _ (hc k hlt).1
      have hcr : ∀ j, j < n → wr.cell? ⟨b, off + j * 3, none⟩ = some (.int .i64 (X j)) ∧ wr.cell? ⟨b, off + j * 3 + 1, none⟩ = some (.int .i64 (Y j)) ∧ wr.cell? ⟨b, off + j * 3 + 2, none⟩ = some (.int .i64 (K j)) := fun j hj => by
        obtain ⟨u0, u1, u2⟩ := hc j hj
        exact ⟨(hb.cell (p := ⟨b, _, none⟩) hbl).trans u0, (hb.cell (p := ⟨b, _, none⟩) hbl).trans u1, (hb.cell (p := ⟨b, _, none⟩) hbl).trans u2⟩
      obtain ⟨d0, d1, d2⟩ := hcr k hlt
      have HC := hide hc
      clear hc hcr
      have hbw : b < wr.heap.size := by omega
      obtain ⟨L, hL⟩ : ∃ L, L = impU X Y K n k := ⟨_, rfl⟩
      rw [← hL] at hown hlen
      obtain ⟨ln, hln⟩ : ∃ ln, ln = L.length := ⟨_, rfl⟩
      obtain ⟨xs, hxs⟩ : ∃ xs, xs = L.flatMap ptC := ⟨_, rfl⟩
      rw [← hln, ← hxs] at hown
      rw [← hln] at hlen
      have HL := hide hL
      have HLn := hide hln
      have Hxs := hide hxs
      clear hL hln hxs
      go_wp2_with (at_builtin; refine wpList_append_lies _ rfl _ _ 41 rfl w.heap.size 90 i0 (.agg #[.int .i64 0, .int .i64 0, .int .i64 0]) 3 24 Try.underlying41 hi0 hz0 hz1 hz2 rfl (by omega) v ln xs rfl ((hown.alloc _).alloc _) ⟨wr.heap.size + 1, 0, none⟩ 1 1 [.int .i64 (2 * X k), .int .i64 (2 * Y k), .int .i64 (K k)] rfl rfl ?c1 ?c2 (by omega) ?c3 ?c4 ?c5 (wr.heap.size + 1 + 1) (by simp) ?_)
      case c1 => exact news_new (wr.alloc _) [.int .i64 (2 * X k), .int .i64 (2 * Y k), .int .i64 (K k)] _ _ (by simp)
      case c2 => exact one_ints _ _ _
      case c3 => unfold maxLen; omega
      case c4 => omega
      case c5 => simp; omega
      intro g cap w1 hown1 hgrow hat hlt1
      have hb1 : Below w.heap.size w w1 := ((hb.alloc (by omega) _).alloc (by simp; omega) _).grown hgrow (by simp; omega) (fun q hq => (hown.lt q hq).1)
      have hs1 : wr.heap.size + 1 < w1.heap.size := by have := hgrow.size; simp at this; omega
      have hne : some wr.heap.size ≠ v.ownBlock := owns_ne_new hown (Nat.le_refl _)
      have p0 : w1.cell? ⟨wr.heap.size, 0, none⟩ = some (.int .i64 (X k)) := (hgrow.cell_far ⟨wr.heap.size, 0, none⟩ (by simp; omega) hne).trans (by go_simp)
      have p1 : w1.cell? ⟨wr.heap.size, 1, none⟩ = some (.int .i64 (Y k)) := (hgrow.cell_far ⟨wr.heap.size, 1, none⟩ (by simp; omega) hne).trans (by go_simp)
      have p2 : w1.cell? ⟨wr.heap.size, 2, none⟩ = some (.int .i64 (K k)) := (hgrow.cell_far ⟨wr.heap.size, 2, none⟩ (by simp; omega) hne).trans (by go_simp)
      have hcr : ∀ j, j < n → w1.cell? ⟨b, off + j * 3, none⟩ = some (.int .i64 (X j)) ∧ w1.cell? ⟨b, off + j * 3 + 1, none⟩ = some (.int .i64 (Y j)) ∧ w1.cell? ⟨b, off + j * 3 + 2, none⟩ = some (.int .i64 (K j)) := fun j hj => by
        obtain ⟨u0, u1, u2⟩ := HC.out j hj
        exact ⟨(hb1.cell (p := ⟨b, _, none⟩) hbl).trans u0, (hb1.cell (p := ⟨b, _, none⟩) hbl).trans u1, (hb1.cell (p := ⟨b, _, none⟩) hbl).trans u2⟩
      have hO1 : w1.ownsRow w.heap.size 90 3 (.slice (some ⟨g, 0, none⟩) (ln + 1) cap) (L ++ [(2 * X k, 2 * Y k, K k)]).length ((L ++ [(2 * X k, 2 * Y k, K k)]).flatMap ptC) :=
        push_pt (by rw [← Hxs.out]; exact hown1) rfl (by rw [HLn.out])
      have HO1 := hide hO1
      have HXF : Hid ((L ++ [(2 * X k, 2 * Y k, K k)]).flatMap ptC = xs ++ [.int .i64 (2 * X k), .int .i64 (2 * Y k), .int .i64 (K k)]) := by unfold Hid; rw [Hxs.out]; simp [ptC]
      obtain ⟨e0, e1, e2⟩ := hcr 0 (by omega)
      simp only [Nat.zero_mul, Nat.add_zero] at e0 e1 e2
      have hsucc : impU X Y K n (k + 1) = L ++ Num.impF X Y K n k := by rw [HL.out]; exact impU_succ _ _ _ _ _
      have HSu := hide hsucc
      have hbw1 : b < w1.heap.size := by omega
      have hbs1 : w.heap.size ≤ w1.heap.size := hb1.size
      have hwr1 : wr.heap.size < w1.heap.size := by omega
      clear hgrow hat hne hO1 hown hb hsucc d0 d1 d2
      by_cases hl2 : k + 1 < n
      · obtain ⟨f0, f1, f2⟩ := hcr (k + 1) hl2
        have hnx : Num.nx n k = k + 1 := by unfold Num.nx; rw [if_pos hl2]
        have HNx := hide hnx
        obtain ⟨cX, cX'⟩ := HX.out (k + 1) (by omega)
        obtain ⟨cY, cY'⟩ := HY.out (k + 1) (by omega)
        clear hcr hnx
        by_cases hq : K k = 1 ∧ K (k + 1) = 1
        · obtain ⟨q1, q2⟩ := hq
          have t1 : (K k == 1) = true := by simp [q1]
          have t2 : (K (k + 1) == 1) = true := by simp [q2]
          have HF := hide (impF_yes (X := X) (Y := Y) (n := n) (k := k) ⟨q1, by rw [HNx.out]; exact q2⟩)
          clear q1 q2
          go_wp2_with (at_builtin; refine wpList_append_lies _ rfl _ _ 41 rfl w.heap.size 90 i0 (.agg #[.int .i64 0, .int .i64 0, .int .i64 0]) 3 24 Try.underlying41 hi0 hz0 hz1 hz2 rfl (by omega) _ (ln + 1) _ rfl ((hown1.alloc _).alloc _) ⟨w1.heap.size + 1, 0, none⟩ 1 1 [.int .i64 (X k + X (k + 1)), .int .i64 (Y k + Y (k + 1)), .int .i64 0] rfl rfl ?m1 ?m2 (by omega) ?m3 ?m4 ?m5 (w1.heap.size + 1 + 1) (by simp) ?_)
          case m1 => exact news_new (w1.alloc _) [.int .i64 (X k + X (k + 1)), .int .i64 (Y k + Y (k + 1)), .int .i64 0] _ _ (by simp)
          case m2 => exact one_ints _ _ _
          case m3 => unfold maxLen; omega
          case m4 => omega
          case m5 => simp; omega
          intro g2 cap2 w2 hown2 hgrow2 hat2 hlt2
          have hb2 : Below w.heap.size w w2 := ((hb1.alloc (by omega) _).alloc (by simp; omega) _).grown hgrow2 (by simp; omega) (fun q hq => (hown1.lt q hq).1)
          have HO2 : Hid (w2.ownsRow w.heap.size 90 3 (.slice (some ⟨g2, 0, none⟩) (ln + 1 + 1) cap2) (impU X Y K n (k + 1)).length ((impU X Y K n (k + 1)).flatMap ptC)) :=
            push_pt (l := L ++ [(2 * X k, 2 * Y k, K k)]) (p := (X k + X (k + 1), Y k + Y (k + 1), 0)) (by rw [HXF.out]; simpa using hown2) (by rw [HSu.out, HF.out, HNx.out, List.append_assoc]) (by rw [HLn.out]; simp)
          clear hown2 hgrow2 hat2 hown1 hb1
          go_wp2
          go_roundw
          case rel => exact ⟨k + 1, by omega, by go_num, hb2, HO2.out⟩
          case measure => simp [intOf]; omega
        · have HF := hide (impF_no (X := X) (Y := Y) (n := n) (k := k) (by rw [HNx.out]; exact hq))
          have HE : Hid (w1.ownsRow w.heap.size 90 3 (.slice (some ⟨g, 0, none⟩) (ln + 1) cap) (impU X Y K n (k + 1)).length ((impU X Y K n (k + 1)).flatMap ptC)) := by
            unfold Hid; rw [HSu.out, HF.out]; exact HO1.out
          by_cases q1 : K k = 1
          · have t1 : (K k == 1) = true := by simp [q1]
            have t2 : (K (k + 1) == 1) = false := by simp; intro h; exact hq ⟨q1, h⟩
            clear q1 hq
            go_wp2
            go_roundw
            case rel => exact ⟨k + 1, by omega, by go_num, by (repeat (any_goals (first | exact Below.refl _ _ | assumption | refine Below.drew ?_ | refine below_drewN ?_ _ | refine Below.setCell ?_ ?_ _ | refine Below.alloc ?_ ?_ _ | omega | (simp; done) | (simp; omega)))), HE.out.alloc _⟩
            case measure => simp [intOf]; omega
          · have t1 : (K k == 1) = false := by simp [q1]
            clear q1 hq
            go_wp2
            go_roundw
            case rel => exact ⟨k + 1, by omega, by go_num, by (repeat (any_goals (first | exact Below.refl _ _ | assumption | refine Below.drew ?_ | refine below_drewN ?_ _ | refine Below.setCell ?_ ?_ _ | refine Below.alloc ?_ ?_ _ | omega | (simp; done) | (simp; omega)))), HE.out.alloc _⟩
            case measure => simp [intOf]; omega
      · have hl3 : ¬ (k : Int) + 1 < (n : Int) := by omega
        have hnx : Num.nx n k = 0 := by unfold Num.nx; rw [if_neg hl2]
        have HNx := hide hnx
        obtain ⟨cX, cX'⟩ := HX.out (0) (by omega)
        obtain ⟨cY, cY'⟩ := HY.out (0) (by omega)
        clear hcr hnx
        by_cases hq : K k = 1 ∧ K 0 = 1
        · obtain ⟨q1, q2⟩ := hq
          have t1 : (K k == 1) = true := by simp [q1]
          have t2 : (K 0 == 1) = true := by simp [q2]
          have HF := hide (impF_yes (X := X) (Y := Y) (n := n) (k := k) ⟨q1, by rw [HNx.out]; exact q2⟩)
          clear q1 q2
          go_wp2_with (at_builtin; refine wpList_append_lies _ rfl _ _ 41 rfl w.heap.size 90 i0 (.agg #[.int .i64 0, .int .i64 0, .int .i64 0]) 3 24 Try.underlying41 hi0 hz0 hz1 hz2 rfl (by omega) _ (ln + 1) _ rfl ((hown1.alloc _).alloc _) ⟨w1.heap.size + 1, 0, none⟩ 1 1 [.int .i64 (X k + X 0), .int .i64 (Y k + Y 0), .int .i64 0] rfl rfl ?s1 ?s2 (by omega) ?s3 ?s4 ?s5 (w1.heap.size + 1 + 1) (by simp) ?_)
          try (case s1 => exact news_new (w1.alloc _) [.int .i64 (X k + X 0), .int .i64 (Y k + Y 0), .int .i64 0] _ _ (by simp))
          case s2 => first | exact one_ints _ _ _ | exact ⟨rfl, rfl, rfl⟩
          case s3 => unfold maxLen; omega
          case s4 => omega
          case s5 => first | omega | (simp; omega)
          intro g2 cap2 w2 hown2 hgrow2 hat2 hlt2
          have hb2 : Below w.heap.size w w2 := ((hb1.alloc (by omega) _).alloc (by simp; omega) _).grown hgrow2 (by simp; omega) (fun q hq => (hown1.lt q hq).1)
          have HO2 : Hid (w2.ownsRow w.heap.size 90 3 (.slice (some ⟨g2, 0, none⟩) (ln + 1 + 1) cap2) (impU X Y K n (k + 1)).length ((impU X Y K n (k + 1)).flatMap ptC)) :=
            push_pt (l := L ++ [(2 * X k, 2 * Y k, K k)]) (p := (X k + X 0, Y k + Y 0, 0)) (by rw [HXF.out]; simpa using hown2) (by rw [HSu.out, HF.out, HNx.out, List.append_assoc]) (by rw [HLn.out]; simp)
          clear hown2 hgrow2 hat2 hown1 hb1
          go_wp2
          go_roundw
          case rel => exact ⟨k + 1, by omega, by go_num, hb2, HO2.out⟩
          case measure => simp [intOf]; omega
        · have HF := hide (impF_no (X := X) (Y := Y) (n := n) (k := k) (by rw [HNx.out]; exact hq))
          have HE : Hid (w1.ownsRow w.heap.size 90 3 (.slice (some ⟨g, 0, none⟩) (ln + 1) cap) (impU X Y K n (k + 1)).length ((impU X Y K n (k + 1)).flatMap ptC)) := by
            unfold Hid; rw [HSu.out, HF.out]; exact HO1.out
          by_cases q1 : K k = 1
          · have t1 : (K k == 1) = true := by simp [q1]
            have t2 : (K 0 == 1) = false := by simp; intro h; exact hq ⟨q1, h⟩
            clear q1 hq
            go_wp2
            go_roundw
            case rel => exact ⟨k + 1, by omega, by go_num, by (repeat (any_goals (first | exact Below.refl _ _ | assumption | refine Below.drew ?_ | refine below_drewN ?_ _ | refine Below.setCell ?_ ?_ _ | refine Below.alloc ?_ ?_ _ | omega | (simp; done) | (simp; omega)))), HE.out.alloc _⟩
            case measure => simp [intOf]; omega
          · have t1 : (K k == 1) = false := by simp [q1]
            clear q1 hq
            go_wp2
            go_roundw
            case rel => exact ⟨k + 1, by omega, by go_num, by (repeat (any_goals (first | exact Below.refl _ _ | assumption | refine Below.drew ?_ | refine below_drewN ?_ _ | refine Below.setCell ?_ ?_ _ | refine Below.alloc ?_ ?_ _ | omega | (simp; done) | (simp; omega)))), HE.out.alloc _⟩
            case measure => simp [intOf]; omega
    · go_wp2
      go_ret
      have e : k = n := by omega
      subst e
      exact ⟨v, rfl, hb, hown⟩
end Go.Proofs.Ytkhcjkmifddlbab

/- CrvB -/
namespace Go.Proofs.Ytkhcjkmifddlbab
open Go.RowKit

set_option maxHeartbeats 1000000 in
theorem chords_any (k x0 y0 x1 y1 x2 y2 x3 y3 : Int) (w : World) (hr : Num.rangeB (⟨k, x0, y0, x1, y1, x2, y2, x3, y3⟩ : Num.Sg) = true) :
    Calls Try.prog 101 #[.agg #[.int .i64 k, .int .i64 x0, .int .i64 y0, .int .i64 x1, .int .i64 y1, .int .i64 x2, .int .i64 y2, .int .i64 x3, .int .i64 y3]] w fun e w' => e = .returned (.int .i64 (Num.stepsV (Num.needV (⟨k, x0, y0, x1, y1, x2, y2, x3, y3⟩ : Num.Sg)))) ∧ Below w.heap.size w w' := by
  obtain ⟨r0, r3, r1, r2⟩ := Num.range_yes hr
  have hneed := Num.needV_bd hr
  have hS := Num.stepsV_is hneed.2
  have hSle := Num.stepsV_le hneed.2
  obtain ⟨S, hSe⟩ : ∃ S, S = Num.stepsV (Num.needV (⟨k, x0, y0, x1, y1, x2, y2, x3, y3⟩ : Num.Sg)) := ⟨_, rfl⟩
  rw [← hSe] at hS hSle ⊢
  obtain ⟨D, hD⟩ : ∃ D, D = Num.needV (⟨k, x0, y0, x1, y1, x2, y2, x3, y3⟩ : Num.Sg) := ⟨_, rfl⟩
  rw [← hD] at hS hneed
  have HS := hide hS
  clear hSe hS hr
  obtain ⟨a1, a2⟩ := Num.inB_yes r0
  obtain ⟨b1, b2⟩ := Num.inB_yes r3
  clear r0 r3
  by_cases h1 : k = 1
  · subst h1
    obtain ⟨c1, c2⟩ := Num.inB_yes (r1 (.inl rfl))
    have HD : Hid (D = Num.bendV x0 y0 x1 y1 x3 y3) := by unfold Hid; rw [hD]; simp [Num.needV]
    clear r1 r2 hD
    go_enter Try.func101, Try.ntmps101
    go_wp2_with fail
    refine (bend_any _ _ _ _ _ _ _ a1 a2 c1 c2 b1 b2).mono ?_
    rw [← HD.out]
    rintro e w1 ⟨rfl, hb⟩
    have hb0 : Below w.heap.size w w1 := Below.trans (by (repeat (any_goals (first | exact Below.refl _ _ | assumption | refine Below.drew ?_ | refine below_drewN ?_ _ | refine Below.setCell ?_ ?_ _ | refine Below.alloc ?_ ?_ _ | omega | (simp; done) | (simp; omega))))) (hb.mono (by simp))
    clear hb a1 a2 b1 b2 c1 c2
    go_wp2_with fail
    go_loop [6] (fun t => ∃ q : Int, 1 ≤ q ∧ q ≤ S ∧ t = .int .i64 q) (fun t => (S - intOf t).toNat)
    case atStart => exact ⟨1, by omega, HS.out.1, rfl⟩
    case round =>
      obtain ⟨q, q1, q2, rfl⟩ := hrel
      obtain ⟨s1, s2⟩ := steps_round HS.out q1 q2
      have b1 := Num.sq_mono (a := q) (b := 111) (by omega) (by omega)
      have b0 := Num.sq_mono (a := 0) (b := q) (by omega) (by omega)
      by_cases hlt : 16 * q * q < D
      · have s3 := s1 hlt
        clear s1 s2
        go_wp2
        go_round
        case rel => exact ⟨q + 1, by omega, by omega, rfl⟩
        case measure => simp [intOf]; omega
      · have HE := hide (s2 hlt)
        clear s1 s2
        go_wp2
        go_ret
        exact ⟨ret_int HE.out, hb0⟩
  · by_cases h2 : k = 2
    · subst h2
      obtain ⟨c1, c2⟩ := Num.inB_yes (r1 (.inr rfl))
      obtain ⟨d1, d2⟩ := Num.inB_yes (r2 rfl)
      have HD : Hid (D = 3 * Num.gr (Num.bendV x0 y0 x1 y1 x2 y2) (Num.bendV x1 y1 x2 y2 x3 y3)) := by unfold Hid; rw [hD]; simp [Num.needV]
      have p := Num.bendV_bd a1 a2 c1 c2 d1 d2
      have q := Num.bendV_bd c1 c2 d1 d2 b1 b2
      have gb := Num.gr_bd p.1 p.2 q.1 q.2
      clear r1 r2 hD p q
      go_enter Try.func101, Try.ntmps101
      go_wp2_with fail
      refine (bend_any _ _ _ _ _ _ _ a1 a2 c1 c2 d1 d2).mono ?_
      rintro e w1 ⟨rfl, hb⟩
      obtain ⟨hc, hfz⟩ := bcell hb
      have hz : w.heap.size < w1.heap.size := by have := hb.size; simp at this; omega
      have hb0 : Below w.heap.size w w1 := Below.trans (by (repeat (any_goals (first | exact Below.refl _ _ | assumption | refine Below.drew ?_ | refine below_drewN ?_ _ | refine Below.setCell ?_ ?_ _ | refine Below.alloc ?_ ?_ _ | omega | (simp; done) | (simp; omega))))) (hb.mono (by simp))
      have e3 : w1.cell? ⟨w.heap.size, 3, none⟩ = some (.int .i64 x1) := by rw [hc _ _ (by simp)]; go_simp
      have e4 : w1.cell? ⟨w.heap.size, 4, none⟩ = some (.int .i64 y1) := by rw [hc _ _ (by simp)]; go_simp
      have e5 : w1.cell? ⟨w.heap.size, 5, none⟩ = some (.int .i64 x2) := by rw [hc _ _ (by simp)]; go_simp
      have e6 : w1.cell? ⟨w.heap.size, 6, none⟩ = some (.int .i64 y2) := by rw [hc _ _ (by simp)]; go_simp
      have e7 : w1.cell? ⟨w.heap.size, 7, none⟩ = some (.int .i64 x3) := by rw [hc _ _ (by simp)]; go_simp
      have e8 : w1.cell? ⟨w.heap.size, 8, none⟩ = some (.int .i64 y3) := by rw [hc _ _ (by simp)]; go_simp
      clear hb hc hfz
      go_wp2_with fail
      refine (bend_any _ _ _ _ _ _ _ c1 c2 d1 d2 b1 b2).mono ?_
      rintro e w2 ⟨rfl, hb2⟩
      have hb3 : Below w.heap.size w w2 := hb0.trans (hb2.mono (by omega))
      clear hb2 hb0 a1 a2 b1 b2 c1 c2 d1 d2 e3 e4 e5 e6 e7 e8
      go_wp2_with (go_at_call 89; refine (greater_any _ _ _).mono ?_; rintro e w' ⟨rfl, rfl⟩)
      rw [← HD.out]
      go_wp2_with fail
      go_loop [6] (fun t => ∃ q : Int, 1 ≤ q ∧ q ≤ S ∧ t = .int .i64 q) (fun t => (S - intOf t).toNat)
      case atStart => exact ⟨1, by omega, HS.out.1, rfl⟩
      case round =>
        obtain ⟨q, q1, q2, rfl⟩ := hrel
        obtain ⟨s1, s2⟩ := steps_round HS.out q1 q2
        have b1 := Num.sq_mono (a := q) (b := 111) (by omega) (by omega)
        have b0 := Num.sq_mono (a := 0) (b := q) (by omega) (by omega)
        by_cases hlt : 16 * q * q < D
        · have s3 := s1 hlt
          clear s1 s2
          go_wp2
          go_round
          case rel => exact ⟨q + 1, by omega, by omega, rfl⟩
          case measure => simp [intOf]; omega
        · have HE := hide (s2 hlt)
          clear s1 s2
          go_wp2
          go_ret
          exact ⟨ret_int HE.out, hb3⟩
    · have t1 : (k == 1) = false := by simpa using h1
      have t2 : (k == 2) = false := by simpa using h2
      have hD0 : D = 0 := by rw [hD]; simp [Num.needV, h1, h2]
      clear r1 r2 hD
      subst hD0
      have hS1 : S = 1 := by
        rcases Int.lt_or_le 1 S with h | h
        · have := HS.out.2.2 1 (by omega) h; omega
        · have := HS.out.1; omega
      clear a1 a2 b1 b2 h1 h2
      go_enter Try.func101, Try.ntmps101
      go_wp2_with fail
      go_loop [6] (fun t => t = .int .i64 1) (fun _ => 0)
      case atStart => rfl
      case round =>
        subst hrel
        go_wp2
        go_ret
        exact ⟨ret_int (by omega), by (repeat (any_goals (first | exact Below.refl _ _ | assumption | refine Below.drew ?_ | refine below_drewN ?_ _ | refine Below.setCell ?_ ?_ _ | refine Below.alloc ?_ ?_ _ | omega | (simp; done) | (simp; omega))))⟩

set_option maxHeartbeats 1000000 in
theorem spotOf_any (k x0 y0 x1 y1 x2 y2 x3 y3 i n : Int) (w : World) (hr : Num.rangeB (⟨k, x0, y0, x1, y1, x2, y2, x3, y3⟩ : Num.Sg) = true) (hi : 0 ≤ i) (hin : i ≤ n) (h1 : 1 ≤ n) (hn : n ≤ 111) :
    Calls Try.prog 102 #[.agg #[.int .i64 k, .int .i64 x0, .int .i64 y0, .int .i64 x1, .int .i64 y1, .int .i64 x2, .int .i64 y2, .int .i64 x3, .int .i64 y3], .int .i64 i, .int .i64 n] w fun e w' => e = .returned (.agg #[.int .i64 (Num.spotX (⟨k, x0, y0, x1, y1, x2, y2, x3, y3⟩ : Num.Sg) n i), .int .i64 (Num.spotY (⟨k, x0, y0, x1, y1, x2, y2, x3, y3⟩ : Num.Sg) n i)]) ∧ Below w.heap.size w w' := by
  obtain ⟨r0, r3, r1, r2⟩ := Num.range_yes hr
  obtain ⟨a1, a2⟩ := Num.inB_yes r0
  obtain ⟨b1, b2⟩ := Num.inB_yes r3
  clear r0 r3 hr
  by_cases e1 : k = 1
  · subst e1
    obtain ⟨c1, c2⟩ := Num.inB_yes (r1 (.inl rfl))
    have HX : Hid (Num.spotX (⟨1, x0, y0, x1, y1, x2, y2, x3, y3⟩ : Num.Sg) n i = Num.hu (Num.qSum (n - i) i x0 x1 x3) (n * n)) := by unfold Hid Num.spotX; rw [if_pos rfl]
    have HY : Hid (Num.spotY (⟨1, x0, y0, x1, y1, x2, y2, x3, y3⟩ : Num.Sg) n i = Num.hu (Num.qSum (n - i) i y0 y1 y3) (n * n)) := by unfold Hid Num.spotY; rw [if_pos rfl]
    clear r1 r2
    rw [HX.out, HY.out]
    go_enter Try.func102, Try.ntmps102
    go_wp2_with (go_at_call 112; refine (quadAt_any _ _ _ _ _ _ (by assumption) (by assumption) (by assumption) hi hin h1 hn).mono ?_; rintro e w' ⟨rfl, rfl⟩)
    refine bodyPost_ret (v := .agg #[.int .i64 (Num.hu (Num.qSum (n - i) i x0 x1 x3) (n * n)), .int .i64 (Num.hu (Num.qSum (n - i) i y0 y1 y3) (n * n))]) (by simp [results, Try.results102, go_sem]) rfl ⟨rfl, ?_⟩
    clear a1 a2 b1 b2 c1 c2
    (repeat (any_goals (first | exact Below.refl _ _ | assumption | refine Below.drew ?_ | refine below_drewN ?_ _ | refine Below.setCell ?_ ?_ _ | refine Below.alloc ?_ ?_ _ | omega | (simp; done) | (simp; omega))))
  · by_cases e2 : k = 2
    · subst e2
      obtain ⟨c1, c2⟩ := Num.inB_yes (r1 (.inr rfl))
      obtain ⟨d1, d2⟩ := Num.inB_yes (r2 rfl)
      have HX : Hid (Num.spotX (⟨2, x0, y0, x1, y1, x2, y2, x3, y3⟩ : Num.Sg) n i = Num.hu (Num.cSum (n - i) i x0 x1 x2 x3) (n * n * n)) := by unfold Hid Num.spotX; rw [if_neg (by show ¬ (2 : Int) = 1; decide), if_pos rfl]
      have HY : Hid (Num.spotY (⟨2, x0, y0, x1, y1, x2, y2, x3, y3⟩ : Num.Sg) n i = Num.hu (Num.cSum (n - i) i y0 y1 y2 y3) (n * n * n)) := by unfold Hid Num.spotY; rw [if_neg (by show ¬ (2 : Int) = 1; decide), if_pos rfl]
      clear r1 r2
      rw [HX.out, HY.out]
      go_enter Try.func102, Try.ntmps102
      go_wp2_with (go_at_call 113; refine (cubicAt_any _ _ _ _ _ _ _ (by assumption) (by assumption) (by assumption) (by assumption) hi hin h1 hn).mono ?_; rintro e w' ⟨rfl, rfl⟩)
      refine bodyPost_ret (v := .agg #[.int .i64 (Num.hu (Num.cSum (n - i) i x0 x1 x2 x3) (n * n * n)), .int .i64 (Num.hu (Num.cSum (n - i) i y0 y1 y2 y3) (n * n * n))]) (by simp [results, Try.results102, go_sem]) rfl ⟨rfl, ?_⟩
      clear a1 a2 b1 b2 c1 c2 d1 d2
      (repeat (any_goals (first | exact Below.refl _ _ | assumption | refine Below.drew ?_ | refine below_drewN ?_ _ | refine Below.setCell ?_ ?_ _ | refine Below.alloc ?_ ?_ _ | omega | (simp; done) | (simp; omega))))
    · have t1 : (k == 1) = false := by simpa using e1
      have t2 : (k == 2) = false := by simpa using e2
      clear r1 r2 a1 a2 b1 b2
      by_cases ein : i = n
      · have HX : Hid (Num.spotX (⟨k, x0, y0, x1, y1, x2, y2, x3, y3⟩ : Num.Sg) n i = x3) := by unfold Hid Num.spotX; rw [if_neg e1, if_neg e2, if_pos ein]
        have HY : Hid (Num.spotY (⟨k, x0, y0, x1, y1, x2, y2, x3, y3⟩ : Num.Sg) n i = y3) := by unfold Hid Num.spotY; rw [if_neg e1, if_neg e2, if_pos ein]
        have t3 : (i == n) = true := by simpa using ein
        rw [HX.out, HY.out]
        clear e1 e2 ein
        go_enter Try.func102, Try.ntmps102
        go_wp2
        refine bodyPost_ret (v := .agg #[.int .i64 x3, .int .i64 y3]) (by simp [results, Try.results102, go_sem]) rfl ⟨rfl, ?_⟩
        (repeat (any_goals (first | exact Below.refl _ _ | assumption | refine Below.drew ?_ | refine below_drewN ?_ _ | refine Below.setCell ?_ ?_ _ | refine Below.alloc ?_ ?_ _ | omega | (simp; done) | (simp; omega))))
      · have HX : Hid (Num.spotX (⟨k, x0, y0, x1, y1, x2, y2, x3, y3⟩ : Num.Sg) n i = x0) := by unfold Hid Num.spotX; rw [if_neg e1, if_neg e2, if_neg ein]
        have HY : Hid (Num.spotY (⟨k, x0, y0, x1, y1, x2, y2, x3, y3⟩ : Num.Sg) n i = y0) := by unfold Hid Num.spotY; rw [if_neg e1, if_neg e2, if_neg ein]
        have t3 : (i == n) = false := by simpa using ein
        rw [HX.out, HY.out]
        clear e1 e2 ein
        go_enter Try.func102, Try.ntmps102
        go_wp2
        refine bodyPost_ret (v := .agg #[.int .i64 x0, .int .i64 y0]) (by simp [results, Try.results102, go_sem]) rfl ⟨rfl, ?_⟩
        (repeat (any_goals (first | exact Below.refl _ _ | assumption | refine Below.drew ?_ | refine below_drewN ?_ _ | refine Below.setCell ?_ ?_ _ | refine Below.alloc ?_ ?_ _ | omega | (simp; done) | (simp; omega))))
end Go.Proofs.Ytkhcjkmifddlbab

/- Spots -/
namespace Go.Proofs.Ytkhcjkmifddlbab
open Go.RowKit Go.Deep

/-- The cells of a spot. -/
def spC (p : Int × Int) : List Value := [.int .i64 p.1, .int .i64 p.2]
theorem info_spot : (Try.prog.info? 53).map (fun i => (i.zero, i.size, i.bytes)) = some (some (.agg #[.int .i64 0, .int .i64 0]), 2, 16) := by kernel_rfl
theorem push_sp {w : World} {base : Nat} {v : Value} {l l' : List (Int × Int)} {p : Int × Int} {m : Nat} (h : w.ownsRow base 53 2 v m (l.flatMap spC ++ [.int .i64 p.1, .int .i64 p.2])) (hl : l' = l ++ [p]) (hm : m = l.length + 1) : w.ownsRow base 53 2 v l'.length (l'.flatMap spC) := by
  have e1 : l'.length = m := by rw [hl, hm]; simp
  have e2 : l'.flatMap spC = l.flatMap spC ++ [.int .i64 p.1, .int .i64 p.2] := by rw [hl]; simp [spC]
  rw [e1, e2]; exact h
theorem owns_mono {w : World} {base base' : Nat} {t : TypeId} {sz : Nat} {v : Value} {n : Nat} {xs : List Value} (h : w.ownsRow base t sz v n xs) (hb : base' ≤ base) : w.ownsRow base' t sz v n xs := by
  refine ⟨h.1, ?_⟩
  rcases h.2 with hn | ⟨g, cap, cur, rfl, hb', rest⟩
  · exact .inl hn
  · exact .inr ⟨g, cap, cur, rfl, Nat.le_trans hb hb', rest⟩
theorem news_sp (W : World) (cs : List Value) (t : TypeId) (H : Nat) (hH : W.heap.size = H) : ∀ (j : Nat) (u : Value), cs[j]? = some u → (W.alloc (.cells cs.toArray t)).cell? ((⟨H, 0, none⟩ : Addr).add j) = some u := by
  intro j u hj
  subst hH
  have e2 : ((⟨W.heap.size, 0, none⟩ : Addr).add j) = ⟨W.heap.size, j, none⟩ := by
    unfold Addr.add
    split
    · rename_i h; simp_all
    · simp
  have hlt : j < cs.length := by
    rcases Nat.lt_or_ge j cs.length with h | h
    · exact h
    · rw [List.getElem?_eq_none h] at hj; cases hj
  have hr := (World.rowIs_alloc W cs.toArray t (fun i => cs[i]?.getD u) (fun i hi => by simp at hi; simp [hi])).cell (i := j) (by simpa using hlt)
  rw [e2, hr]
  simp [hj]
theorem one_two (a b : Int) : ∀ u ∈ [Value.int .i64 a, .int .i64 b], u.oneCell' = true := by
  intro u hu
  simp at hu
  rcases hu with rfl | rfl <;> rfl
theorem flat2_len (l : List (Int × Int)) : (l.flatMap spC).length = l.length * 2 := by
  induction l with
  | nil => simp
  | cons x r ih => rw [List.flatMap_cons, List.length_append, ih]; simp [spC]; omega
theorem flat2_one (l : List (Int × Int)) : ∀ u ∈ l.flatMap spC, u.oneCell' = true := by
  intro u hu
  rw [List.mem_flatMap] at hu
  obtain ⟨g, _, hg⟩ := hu
  exact one_two g.1 g.2 u hg
theorem flat2_at : ∀ (l : List (Int × Int)) (i : Nat) (hi : i < l.length), (l.flatMap spC)[i * 2]? = some (.int .i64 l[i].1) ∧ (l.flatMap spC)[i * 2 + 1]? = some (.int .i64 l[i].2) := by
  intro l
  induction l with
  | nil => intro i hi; simp at hi
  | cons x r ih =>
    intro i hi
    rw [List.flatMap_cons]
    have h2 : (spC x).length = 2 := rfl
    cases i with
    | zero => simp [spC]
    | succ j =>
      have := ih j (by simpa using hi)
      simp only [List.getElem_cons_succ]
      rw [List.getElem?_append_right (by omega), List.getElem?_append_right (by omega), h2, show (j + 1) * 2 - 2 = j * 2 by omega, show (j + 1) * 2 + 1 - 2 = j * 2 + 1 by omega]
      exact this
theorem owns_sp {w : World} {base b cap : Nat} {t : TypeId} {l : List (Int × Int)} (h : w.ownsRow base t 2 (.slice (some ⟨b, 0, none⟩) l.length cap) l.length (l.flatMap spC)) (i : Nat) (hi : i < l.length) :
    w.cell? ⟨b, i * 2, none⟩ = some (.int .i64 l[i].1) ∧ w.cell? ⟨b, i * 2 + 1, none⟩ = some (.int .i64 l[i].2) := by
  have e := flat2_at l i hi
  have e0 := h.cellAt (i * 2) (by omega)
  have e1 := h.cellAt (i * 2 + 1) (by omega)
  rw [e.1] at e0
  rw [e.2] at e1
  exact ⟨e0, e1⟩
theorem owns_formN {w : World} {base : Nat} {t : TypeId} {z : Nat} {v : Value} {n : Nat} {xs : List Value} (h : w.ownsRow base t z v n xs) : ∃ ao cap, v = .slice ao n cap ∧ (0 < n → ∃ b, ao = some ⟨b, 0, none⟩) := by
  rcases h.2 with ⟨rfl, h0⟩ | ⟨g, cap, cur, rfl, _⟩
  · exact ⟨none, 0, by rw [h0], by omega⟩
  · exact ⟨some ⟨g, 0, none⟩, cap, rfl, fun _ => ⟨g, rfl⟩⟩
/-- The cells of a row of spots, as the new ones of an append. -/
theorem news_row {w : World} {base g cap : Nat} {t : TypeId} {l : List (Int × Int)} (h : w.ownsRow base t 2 (.slice (some ⟨g, 0, none⟩) l.length cap) l.length (l.flatMap spC)) : ∀ (j : Nat) (u : Value), (l.flatMap spC)[j]? = some u → w.cell? ((⟨g, 0, none⟩ : Addr).add j) = some u := by
  intro j u hj
  have e2 : ((⟨g, 0, none⟩ : Addr).add j) = ⟨g, j, none⟩ := by
    unfold Addr.add
    split
    · rename_i h; simp_all
    · simp
  have hlt : j < l.length * 2 := by
    rcases Nat.lt_or_ge j (l.length * 2) with h | h
    · exact h
    · rw [List.getElem?_eq_none (by rw [flat2_len]; exact h)] at hj; cases hj
  rw [e2, h.cellAt j hlt, hj]
end Go.Proofs.Ytkhcjkmifddlbab

/- CvR -/
namespace Go.Proofs.Ytkhcjkmifddlbab
open Go.RowKit Go.Deep

/-- The cells of a cell. -/
def clC (c : Num.Cl) : List Value := [.int .i64 c.1, .int .i64 c.2.1, .int .i64 c.2.2]
theorem info_cl : (Try.prog.info? 143).map (fun i => (i.zero, i.size, i.bytes)) = some (some (.agg #[.int .i64 0, .int .i64 0, .int .i64 0]), 3, 24) := by kernel_rfl
theorem push_cl {w : World} {base : Nat} {v : Value} {l l' : List Num.Cl} {p : Num.Cl} {m : Nat} (h : w.ownsRow base 143 3 v m (l.flatMap clC ++ [.int .i64 p.1, .int .i64 p.2.1, .int .i64 p.2.2])) (hl : l' = l ++ [p]) (hm : m = l.length + 1) : w.ownsRow base 143 3 v l'.length (l'.flatMap clC) := by
  have e1 : l'.length = m := by rw [hl, hm]; simp
  have e2 : l'.flatMap clC = l.flatMap clC ++ [.int .i64 p.1, .int .i64 p.2.1, .int .i64 p.2.2] := by rw [hl]; simp [clC]
  rw [e1, e2]; exact h
theorem flat3_at : ∀ (l : List Num.Cl) (i : Nat) (hi : i < l.length), (l.flatMap clC)[i * 3]? = some (.int .i64 l[i].1) ∧ (l.flatMap clC)[i * 3 + 1]? = some (.int .i64 l[i].2.1) ∧ (l.flatMap clC)[i * 3 + 2]? = some (.int .i64 l[i].2.2) := by
  intro l
  induction l with
  | nil => intro i hi; simp at hi
  | cons x r ih =>
    intro i hi
    rw [List.flatMap_cons]
    have h2 : (clC x).length = 3 := rfl
    cases i with
    | zero => simp [clC]
    | succ j =>
      have := ih j (by simpa using hi)
      simp only [List.getElem_cons_succ]
      rw [List.getElem?_append_right (by omega), List.getElem?_append_right (by omega), List.getElem?_append_right (by omega), h2, show (j + 1) * 3 - 3 = j * 3 by omega, show (j + 1) * 3 + 1 - 3 = j * 3 + 1 by omega, show (j + 1) * 3 + 2 - 3 = j * 3 + 2 by omega]
      exact this
theorem owns_cl {w : World} {base b cap : Nat} {t : TypeId} {l : List Num.Cl} (h : w.ownsRow base t 3 (.slice (some ⟨b, 0, none⟩) l.length cap) l.length (l.flatMap clC)) (i : Nat) (hi : i < l.length) :
    w.cell? ⟨b, i * 3, none⟩ = some (.int .i64 l[i].1) ∧ w.cell? ⟨b, i * 3 + 1, none⟩ = some (.int .i64 l[i].2.1) ∧ w.cell? ⟨b, i * 3 + 2, none⟩ = some (.int .i64 l[i].2.2) := by
  have e := flat3_at l i hi
  have e0 := h.cellAt (i * 3) (by omega)
  have e1 := h.cellAt (i * 3 + 1) (by omega)
  have e2 := h.cellAt (i * 3 + 2) (by omega)
  rw [e.1] at e0
  rw [e.2.1] at e1
  rw [e.2.2] at e2
  exact ⟨e0, e1, e2⟩

set_option maxRecDepth 100000 in
set_option maxHeartbeats 2000000 in
theorem filled_any (v0 : Value) (base : Nat) (l : List Num.Cl) (w : World) (hl : l.length ≤ 4096) (hv : w.ownsRow base 143 3 v0 l.length (l.flatMap clC)) :
    Calls Try.prog 83 #[v0] w fun e w' => ∃ v, e = .returned v ∧ Below w.heap.size w w' ∧ w'.ownsRow w.heap.size 143 3 v (l.filter Num.fullB).length ((l.filter Num.fullB).flatMap clC) := by
  obtain ⟨i0, hi0, hz0, hz1, hz2⟩ := info_parts info_cl
  obtain ⟨ao, cap0, rfl, hao⟩ := owns_formN hv
  have HV := hide hv
  have HAo := hide hao
  obtain ⟨n, hn⟩ : ∃ n, n = l.length := ⟨_, rfl⟩
  rw [← hn] at hl ⊢
  have HN := hide hn
  clear hv hao hn
  go_enter Try.func83, Try.ntmps83
  go_wp2_with fail
  go_loopw [3, 8] (fun v t wr => ∃ k : Nat, k ≤ n ∧ t = .int .i64 k ∧ Below w.heap.size w wr ∧ wr.ownsRow w.heap.size 143 3 v ((l.take k).filter Num.fullB).length (((l.take k).filter Num.fullB).flatMap clC)) (fun _ t _ => n - (intOf t).toNat)
  case atStart => exact ⟨0, by omega, rfl, Below.refl _ _, World.ownsRow_nil _ _ _ _⟩
  case round =>
    obtain ⟨v, rfl⟩ : ∃ v, v = u3 := ⟨_, rfl⟩
    obtain ⟨k, hk, rfl, hb, hown⟩ := hrel
    have hsz := hb.size
    by_cases hlt : k < n
    · have hkl : k < l.length := by rw [← HN.out]; exact hlt
      obtain ⟨b, rfl⟩ := HAo.out (by omega)
      have hbl : b < w.heap.size := (HV.out.lt b rfl).2
      obtain ⟨d0, d1, d2⟩ := owns_cl HV.out k hkl
      have d0 := (hb.cell (p := ⟨b, _, none⟩) hbl).trans d0
      have d1 := (hb.cell (p := ⟨b, _, none⟩) hbl).trans d1
      have d2 := (hb.cell (p := ⟨b, _, none⟩) hbl).trans d2
      have hbw : b < wr.heap.size := by omega
      have HT : Hid (l.take (k + 1) = l.take k ++ [l[k]]) := List.take_succ_eq_append_getElem hkl
      obtain ⟨c, hc⟩ : ∃ c, c = l[k] := ⟨_, rfl⟩
      rw [← hc] at HT d0 d1 d2
      clear hc
      obtain ⟨c1, c2, c3⟩ := c
      simp only at d0 d1 d2
      have hd1 : decide ((k : Int) < (n : Int)) = true := by simp; omega
      have i0' : (0 : Int) ≤ (k : Int) := by omega
      have i1' : (k : Int) < (n : Int) := by omega
      obtain ⟨L, hL⟩ : ∃ L, L = (l.take k).filter Num.fullB := ⟨_, rfl⟩
      have hlen : L.length ≤ 4096 := by
        rw [hL]; have := List.length_filter_le Num.fullB (l.take k); simp only [List.length_take] at this; omega
      rw [← hL] at hown
      have HF : Hid ((l.take (k + 1)).filter Num.fullB = L ++ if Num.fullB (c1, c2, c3) = true then [(c1, c2, c3)] else []) := by
        unfold Hid
        rw [HT.out, List.filter_append, hL]
        congr 1
        split
        · rename_i h; rw [List.filter_cons_of_pos h, List.filter_nil]
        · rename_i h; rw [List.filter_cons_of_neg h, List.filter_nil]
      clear hL HT
      by_cases hf : Num.fullB (c1, c2, c3) = true
      · rw [if_pos hf] at HF
        obtain ⟨ln, hln⟩ : ∃ ln, ln = L.length := ⟨_, rfl⟩
        obtain ⟨xs, hxs⟩ : ∃ xs, xs = L.flatMap clC := ⟨_, rfl⟩
        rw [← hln, ← hxs] at hown
        rw [← hln] at hlen
        have HLn := hide hln
        have HXs := hide hxs
        clear hln hxs
        have hq : (c2 != 0 || c3 != 0) = true := by simpa [Num.fullB, bne] using hf
        clear hf
        cases h2 : (c2 != 0)
        · have h3 : (c3 != 0) = true := by simpa [h2] using hq
          clear hq
          go_wp2_with (at_builtin; refine wpList_append_lies _ rfl _ _ 141 rfl w.heap.size 143 i0 (.agg #[.int .i64 0, .int .i64 0, .int .i64 0]) 3 24 Try.underlying141 hi0 hz0 hz1 hz2 rfl (by omega) v ln xs rfl ((hown.alloc _).alloc _) ⟨wr.heap.size + 1, 0, none⟩ 1 1 [.int .i64 c1, .int .i64 c2, .int .i64 c3] rfl rfl ?a1 ?a2 (by omega) ?a3 ?a4 ?a5 (wr.heap.size + 1 + 1) (by simp) ?_)
          try (case a1 => exact news_new (wr.alloc _) [.int .i64 c1, .int .i64 c2, .int .i64 c3] _ _ (by simp))
          case a2 => first | exact one_ints _ _ _ | exact ⟨rfl, rfl, rfl⟩
          case a3 => unfold maxLen; omega
          case a4 => omega
          case a5 => first | omega | (simp; omega)
          intro g cap w2 hown2 hgrow hat hlt2
          have hb2 : Below w.heap.size w w2 := ((hb.alloc (by omega) _).alloc (by simp; omega) _).grown hgrow (by simp; omega) (fun q hq => (hown.lt q hq).1)
          have HO2 := hide (push_cl (l := L) (l' := (l.take (k + 1)).filter Num.fullB) (p := (c1, c2, c3)) (by rw [← HXs.out]; exact hown2) HF.out (by rw [HLn.out]))
          clear hown2 hgrow hat hown hb
          go_wp2
          go_roundw
          case rel => exact ⟨k + 1, by omega, by go_num, hb2, HO2.out⟩
          case measure => simp [intOf]; omega
        · clear hq
          go_wp2_with (at_builtin; refine wpList_append_lies _ rfl _ _ 141 rfl w.heap.size 143 i0 (.agg #[.int .i64 0, .int .i64 0, .int .i64 0]) 3 24 Try.underlying141 hi0 hz0 hz1 hz2 rfl (by omega) v ln xs rfl ((hown.alloc _).alloc _) ⟨wr.heap.size + 1, 0, none⟩ 1 1 [.int .i64 c1, .int .i64 c2, .int .i64 c3] rfl rfl ?b1 ?b2 (by omega) ?b3 ?b4 ?b5 (wr.heap.size + 1 + 1) (by simp) ?_)
          try (case b1 => exact news_new (wr.alloc _) [.int .i64 c1, .int .i64 c2, .int .i64 c3] _ _ (by simp))
          case b2 => first | exact one_ints _ _ _ | exact ⟨rfl, rfl, rfl⟩
          case b3 => unfold maxLen; omega
          case b4 => omega
          case b5 => first | omega | (simp; omega)
          intro g cap w2 hown2 hgrow hat hlt2
          have hb2 : Below w.heap.size w w2 := ((hb.alloc (by omega) _).alloc (by simp; omega) _).grown hgrow (by simp; omega) (fun q hq => (hown.lt q hq).1)
          have HO2 := hide (push_cl (l := L) (l' := (l.take (k + 1)).filter Num.fullB) (p := (c1, c2, c3)) (by rw [← HXs.out]; exact hown2) HF.out (by rw [HLn.out]))
          clear hown2 hgrow hat hown hb
          go_wp2
          go_roundw
          case rel => exact ⟨k + 1, by omega, by go_num, hb2, HO2.out⟩
          case measure => simp [intOf]; omega
      · rw [if_neg hf, List.append_nil] at HF
        have hq : c2 = 0 ∧ c3 = 0 := by simpa [Num.fullB] using hf
        obtain ⟨rfl, rfl⟩ := hq
        have HE : Hid (wr.ownsRow w.heap.size 143 3 v ((l.take (k + 1)).filter Num.fullB).length (((l.take (k + 1)).filter Num.fullB).flatMap clC)) := by unfold Hid; rw [HF.out]; exact hown
        clear hown hf
        go_wp2
        go_roundw
        case rel => exact ⟨k + 1, by omega, by go_num, by (repeat (any_goals (first | exact Below.refl _ _ | assumption | refine Below.drew ?_ | refine below_drewN ?_ _ | refine Below.setCell ?_ ?_ _ | refine Below.alloc ?_ ?_ _ | omega | (simp; done) | (simp; omega)))), HE.out.alloc _⟩
        case measure => simp [intOf]; omega
    · have e : k = n := by omega
      have hd0 : decide ((k : Int) < (n : Int)) = false := by simp; omega
      have HO : Hid (wr.ownsRow w.heap.size 143 3 v (l.filter Num.fullB).length ((l.filter Num.fullB).flatMap clC)) := by
        unfold Hid
        rw [e, HN.out, List.take_length] at hown
        exact hown
      clear hown
      go_wp2
      go_ret
      exact ⟨v, rfl, hb, HO.out⟩
end Go.Proofs.Ytkhcjkmifddlbab

/- AreaK -/
namespace Go.Proofs.Ytkhcjkmifddlbab
namespace Num

/-- Columns from lo on, each greater than the one ahead, below 64. -/
def Srt : Int → List Cl → Prop
  | _, [] => True
  | lo, c :: r => lo ≤ c.1 ∧ c.1 < 64 ∧ Srt (c.1 + 1) r
theorem srt_mono : ∀ {l : List Cl} {lo lo' : Int}, Srt lo l → lo' ≤ lo → Srt lo' l := by
  intro l lo lo' h hl
  cases l with
  | nil => trivial
  | cons c r => exact ⟨by have := h.1; omega, h.2.1, h.2.2⟩
theorem srt_len : ∀ (l : List Cl) (lo : Int), Srt lo l → lo ≤ 64 → (l.length : Int) ≤ 64 - lo := by
  intro l
  induction l with
  | nil => intro lo _ h; simp; omega
  | cons c r ih =>
    intro lo h hl
    have := ih (c.1 + 1) h.2.2 (by have := h.2.1; omega)
    have := h.1
    simp only [List.length_cons]
    omega
theorem srt_le {l : List Cl} (h : Srt 0 l) : l.length ≤ 64 := by have := srt_len l 0 h (by omega); omega
theorem srt_filter (p : Cl → Bool) : ∀ (l : List Cl) (lo : Int), Srt lo l → Srt lo (l.filter p) := by
  intro l
  induction l with
  | nil => intro lo h; exact h
  | cons c r ih =>
    intro lo h
    by_cases e : p c = true
    · rw [List.filter_cons_of_pos e]
      exact ⟨h.1, h.2.1, ih _ h.2.2⟩
    · rw [List.filter_cons_of_neg e]
      exact srt_mono (ih _ h.2.2) (by have := h.1; omega)
theorem srt_ins : ∀ (l : List Cl) (lo : Int) (k : Nat) (s : Cl), Srt lo l → k ≤ l.length → (∀ i (hi : i < l.length), i < k → l[i].1 < s.1) → (∀ h : k < l.length, s.1 < l[k].1) → lo ≤ s.1 → s.1 < 64 → Srt lo (insC l k s) := by
  intro l
  induction l with
  | nil => intro lo k s _ hk _ _ h1 h2; have : k = 0 := by simpa using hk
           subst this; exact ⟨h1, h2, trivial⟩
  | cons c r ih =>
    intro lo k s h hk ha hb h1 h2
    cases k with
    | zero =>
      have := hb (by simp)
      simp only [List.getElem_cons_zero] at this
      exact ⟨h1, h2, by show s.1 + 1 ≤ c.1; omega, h.2.1, h.2.2⟩
    | succ k =>
      have h0 := ha 0 (by simp) (by omega)
      simp only [List.getElem_cons_zero] at h0
      refine ⟨h.1, h.2.1, ih (c.1 + 1) k s h.2.2 (by simpa using hk) (fun i hi hik => ?_) (fun hk2 => ?_) (by omega) h2⟩
      · have := ha (i + 1) (by simpa using hi) (by omega)
        simpa using this
      · have := hb (by simpa using hk2)
        simpa using this
theorem srt_set : ∀ (l : List Cl) (lo : Int) (k : Nat) (s : Cl) (hk : k < l.length), Srt lo l → l[k].1 = s.1 → Srt lo (setC l k s) := by
  intro l
  induction l with
  | nil => intro lo k s hk; simp at hk
  | cons c r ih =>
    intro lo k s hk h he
    cases k with
    | zero =>
      simp only [List.getElem_cons_zero] at he
      exact ⟨by show lo ≤ s.1; rw [← he]; exact h.1, by show s.1 < 64; rw [← he]; exact h.2.1, by show Srt (s.1 + 1) r; rw [← he]; exact h.2.2⟩
    | succ k =>
      have he : r[k]'(by simpa using hk) = r[k]'(by simpa using hk) ∧ (r[k]'(by simpa using hk)).1 = s.1 := ⟨rfl, by simpa using he⟩
      exact ⟨h.1, h.2.1, ih (c.1 + 1) k s (by simpa using hk) h.2.2 he.2⟩
/-- The cells behind the first i, one more among them. -/
def insU (l : List Cl) (k : Nat) (s : Cl) (i : Nat) : List Cl := if k < i then insC (l.take i) k s else l.take i
theorem insU_lt {l : List Cl} {k i : Nat} {s : Cl} (h : i < k) (hi : i < l.length) : insU l k s (i + 1) = insU l k s i ++ [l[i]] := by
  unfold insU
  rw [if_neg (by omega), if_neg (by omega), List.take_succ_eq_append_getElem hi]
theorem insU_eq {l : List Cl} {k : Nat} {s : Cl} (hi : k < l.length) : insU l k s (k + 1) = insU l k s k ++ [s] ++ [l[k]] := by
  unfold insU insC
  rw [if_pos (by omega), if_neg (by omega), List.take_succ_eq_append_getElem hi]
  have hl : (l.take k).length = k := by simp; omega
  rw [List.take_append_of_le_length (by omega), List.drop_append_of_le_length (by omega), List.drop_of_length_le (by omega), List.take_of_length_le (by omega)]
  simp
theorem insU_gt {l : List Cl} {k i : Nat} {s : Cl} (h : k < i) (hi : i < l.length) : insU l k s (i + 1) = insU l k s i ++ [l[i]] := by
  unfold insU insC
  rw [if_pos (by omega), if_pos h, List.take_succ_eq_append_getElem hi]
  have hl : (l.take i).length = i := by simp; omega
  rw [List.take_append_of_le_length (by omega), List.drop_append_of_le_length (by omega)]
  simp
theorem insU_end {l : List Cl} {k : Nat} {s : Cl} (hk : k < l.length) : insU l k s l.length = insC l k s := by
  unfold insU; rw [if_pos hk, List.take_length]
theorem insU_last (l : List Cl) (s : Cl) : insU l l.length s l.length ++ [s] = insC l l.length s := by
  unfold insU insC; rw [if_neg (by omega), List.take_length, List.drop_length]
theorem insU_len (l : List Cl) (k : Nat) (s : Cl) (i : Nat) : (insU l k s i).length ≤ i + 1 := by
  unfold insU insC
  split <;> simp <;> omega
end Num
end Go.Proofs.Ytkhcjkmifddlbab
