/- Joined: Lists, Held, CutV, AreaV, AreaB, AreaC, AreaD, AreaE, AreaF. -/
import Derived.Test.YtkhcjkmifddlbabPart1
import Derived.Deep.OwnRows
import Derived.Deep.AppendLies
/- Lists -/
namespace Go.Proofs.Ytkhcjkmifddlbab
open Go.RowKit Go.Deep

/-- The cells of a row of points. -/
def pc (X Y K : Nat → Int) (q : Nat) : Value := .int .i64 (if q % 3 = 0 then X (q / 3) else if q % 3 = 1 then Y (q / 3) else K (q / 3))
theorem pc0 (X Y K : Nat → Int) (k : Nat) : pc X Y K (k * 3) = .int .i64 (X k) := by
  unfold pc; rw [if_pos (by omega), show k * 3 / 3 = k by omega]
theorem pc1 (X Y K : Nat → Int) (k : Nat) : pc X Y K (k * 3 + 1) = .int .i64 (Y k) := by
  unfold pc; rw [if_neg (by omega), if_pos (by omega), show (k * 3 + 1) / 3 = k by omega]
theorem pc2 (X Y K : Nat → Int) (k : Nat) : pc X Y K (k * 3 + 2) = .int .i64 (K k) := by
  unfold pc; rw [if_neg (by omega), if_neg (by omega), show (k * 3 + 2) / 3 = k by omega]
theorem pc_congr {X Y K X' Y' K' : Nat → Int} {m : Nat} (h : ∀ k, k < m → X k = X' k ∧ Y k = Y' k ∧ K k = K' k) (q : Nat) (hq : q < m * 3) : pc X Y K q = pc X' Y' K' q := by
  obtain ⟨a, b, c⟩ := h (q / 3) (by omega)
  unfold pc
  rw [a, b, c]

/-- Three stores: point k of a row of points. -/
theorem row_setPt {w : World} {b : Nat} {t : TypeId} {m : Nat} {X Y K : Nat → Int} (h : w.rowIs b t (m * 3) (pc X Y K)) (k : Nat) (x y z : Int) :
    (((w.setCell ⟨b, k * 3, none⟩ (.int .i64 x)).setCell ⟨b, k * 3 + 1, none⟩ (.int .i64 y)).setCell ⟨b, k * 3 + 2, none⟩ (.int .i64 z)).rowIs b t (m * 3) (pc (fun j => if j = k then x else X j) (fun j => if j = k then y else Y j) (fun j => if j = k then z else K j)) := by
  refine (((h.set (k * 3) _).set (k * 3 + 1) _).set (k * 3 + 2) _).congr fun q hq => ?_
  by_cases e2 : q = k * 3 + 2
  · subst e2; rw [if_pos rfl, pc2, if_pos rfl]
  rw [if_neg e2]
  by_cases e1 : q = k * 3 + 1
  · subst e1; rw [if_pos rfl, pc1, if_pos rfl]
  rw [if_neg e1]
  by_cases e0 : q = k * 3
  · subst e0; rw [if_pos rfl, pc0, if_pos rfl]
  rw [if_neg e0]
  have e3 : ¬ q / 3 = k := by omega
  simp only [pc, if_neg e3]

theorem row_below {w w' : World} {B b : Nat} {t : TypeId} {n : Nat} {f : Nat → Value} (h : w.rowIs b t n f) (hb : Below B w w') (hlt : b < B) : w'.rowIs b t n f :=
  h.of_block (hb.block b hlt)

theorem row_cells {w : World} {b : Nat} {t : TypeId} {m : Nat} {X Y K : Nat → Int} (h : w.rowIs b t (m * 3) (pc X Y K)) (k : Nat) (hk : k < m) :
    w.cell? ⟨b, k * 3, none⟩ = some (.int .i64 (X k)) ∧ w.cell? ⟨b, k * 3 + 1, none⟩ = some (.int .i64 (Y k)) ∧ w.cell? ⟨b, k * 3 + 2, none⟩ = some (.int .i64 (K k)) := by
  refine ⟨?_, ?_, ?_⟩
  · rw [h.cell (by omega), pc0]
  · rw [h.cell (by omega), pc1]
  · rw [h.cell (by omega), pc2]

/-- Two rows of different element types lie in different blocks. -/
theorem row_ne {w : World} {b b' : Nat} {t t' : TypeId} {n n' : Nat} {f f' : Nat → Value} (h : w.rowIs b t n f) (h' : w.rowIs b' t' n' f') (ht : t ≠ t') : b ≠ b' := by
  intro e
  subst e
  obtain ⟨c, hb, _⟩ := h
  obtain ⟨c', hb', _⟩ := h'
  rw [hb] at hb'
  simp at hb'
  exact ht hb'.2

/-- What make lays for points. -/
theorem row_made3 (w : World) (m : Nat) (t : TypeId) : (w.alloc (.cells (madeCells #[.int .i64 0, .int .i64 0, .int .i64 0] (m * 3)) t)).rowIs w.heap.size t (m * 3) (pc (fun _ => 0) (fun _ => 0) (fun _ => 0)) := by
  refine ⟨_, blk_alloc_new _ _, size_madeCells _ _, fun i hi => ?_⟩
  have e : pc (fun _ => 0) (fun _ => 0) (fun _ => 0) i = .int .i64 0 := by unfold pc; split <;> (try split) <;> rfl
  rw [e]
  rcases (show i % 3 = 0 ∨ i % 3 = 1 ∨ i % 3 = 2 by omega) with h | h | h <;> simp [madeCells, hi, h]

/-- The length of list i, among N lists and two more that are empty. -/
def ln (N : Nat) (n : Nat → Nat) (i : Nat) : Nat := if i < N then n i else 0
/-- What lies in the lists: the points, and ink behind them. -/
def lx (l : Nat) (X : Nat → Int) (k : Nat) : Int := if k < l then X k else 1099511627776
def ly (l : Nat) (X : Nat → Int) (k : Nat) : Int := if k < l then X k else -7
def lk (l : Nat) (X : Nat → Int) (k : Nat) : Int := if k < l then X k else 9

/-- An outline that was lent: its outer list at block ob, list i at block B i. -/
structure Lent (w : World) (base ob N : Nat) (B n : Nat → Nat) (X Y K : Nat → Nat → Int) : Prop where
  outer : w.rowIs ob 41 (N + 2) (fun i => .slice (some ⟨B i, 0, none⟩) (ln N n i) (ln N n i + 2))
  ge : base ≤ ob
  geB : ∀ i, i < N + 2 → base ≤ B i
  inj : ∀ i j, i < N + 2 → j < N + 2 → B i = B j → i = j
  inner : ∀ i, i < N + 2 → w.rowIs (B i) 90 ((ln N n i + 2) * 3) (pc (lx (ln N n i) (X i)) (ly (ln N n i) (Y i)) (lk (ln N n i) (K i)))

theorem Lent.below {w w' : World} {base ob N : Nat} {B n : Nat → Nat} {X Y K : Nat → Nat → Int} (h : Lent w base ob N B n X Y K) (hb : Below w.heap.size w w') : Lent w' base ob N B n X Y K :=
  ⟨row_below h.outer hb h.outer.lt, h.ge, h.geB, h.inj, fun i hi => row_below (h.inner i hi) hb (h.inner i hi).lt⟩

/-- What was lent reads as the outline. -/
theorem Lent.out {w : World} {base ob N : Nat} {B n : Nat → Nat} {X Y K : Nat → Nat → Int} (h : Lent w base ob N B n X Y K) :
    OutAt w (some ⟨ob, 0, none⟩) N (fun i => some ⟨B i, 0, none⟩) (fun i => n i + 2) n X Y K := by
  refine ⟨Or.inr ⟨ob, 0, rfl, fun i hi => ?_⟩, fun i hi => Or.inr ⟨B i, 0, rfl, fun k hk => ?_⟩⟩
  · have := h.outer.cell (i := i) (by omega)
    simp only [ln, if_pos hi] at this
    simpa using this
  · have := row_cells (h.inner i (by omega)) k (by simp [ln, hi]; omega)
    simp only [ln, if_pos hi, lx, ly, lk, if_pos hk] at this
    simpa using this
end Go.Proofs.Ytkhcjkmifddlbab

/- Held -/
namespace Go.Proofs.Ytkhcjkmifddlbab
open Go.RowKit Go.Deep

/-- The cells of a list of points, all marks. -/
def mkP (k : Int) (q : Nat) : Value := pc (fun _ => 2199023255552 + k) (fun _ => -7) (fun _ => 9) q
/-- The cells of a list of segments, all marks. -/
def mkS (k : Int) (q : Nat) : Value := .int .i64 (if q % 9 = 0 then 9 else if q % 9 % 2 = 1 then 2199023255552 + k else -7)

/-- The cells of a list of spots, all marks. -/
def mkT (k : Int) (q : Nat) : Value := .int .i64 (if q % 2 = 0 then 2199023255552 + k else -7)

/-- The number that stands at place q of bytes that are all marks. -/
def mkB (k : Int) (q : Nat) : Value := .int .u8 (IntKind.u8.wrap (k + (q : Int) * (1 + k / 256)))

/-- What is held. -/
structure HS where
  n : Int
  cs : Value
  rs : Value
  vP : Value
  vO : Value
  vS : Value
  vT : Value
  vR : Value
  vB : Value
  P : List (Nat × Nat × Int)
  O : List (Nat × Nat × (Nat → Nat) × Int)
  S : List (Option Nat × Nat × Int)
  T : List (Option Nat × Nat × Int)
  R : List (Option Nat × Nat × (Nat → Nat) × Int)
  B : List (Option Nat × Nat × Int)

/-- The cells of the caller's world. -/
def wc (s : HS) (q : Nat) : Value :=
  if q = 0 then s.cs else if q = 1 then s.rs else if q = 2 then .int .i64 s.n else if q = 3 then s.vP else if q = 4 then s.vO else if q = 5 then s.vS else if q = 6 then s.vT else if q = 7 then s.vR else s.vB

def peC (e : Nat × Nat × Int) : List Value := [.slice (some ⟨e.1, 0, none⟩) e.2.1 e.2.1, .int .i64 e.2.2]
def oeC (e : Nat × Nat × (Nat → Nat) × Int) : List Value := [.slice (some ⟨e.1, 0, none⟩) e.2.1 e.2.1, .int .i64 e.2.2.2]
def seC (e : Option Nat × Nat × Int) : List Value := [.slice (e.1.map fun b => ⟨b, 0, none⟩) e.2.1 e.2.1, .int .i64 e.2.2]

def reC (e : Option Nat × Nat × (Nat → Nat) × Int) : List Value := [.slice (e.1.map fun b => ⟨b, 0, none⟩) e.2.1 e.2.1, .int .i64 e.2.2.2]

/-- All that is held reads as its mark. -/
structure HeldInv (w : World) (h : Nat) (s : HS) : Prop where
  wd : w.rowIs h 70 9 (wc s)
  oP : w.ownsRow h 122 2 s.vP s.P.length (s.P.flatMap peC)
  oO : w.ownsRow h 125 2 s.vO s.O.length (s.O.flatMap oeC)
  oS : w.ownsRow h 103 2 s.vS s.S.length (s.S.flatMap seC)
  eP : ∀ e ∈ s.P, w.rowIs e.1 90 (e.2.1 * 3) (mkP e.2.2)
  eO : ∀ e ∈ s.O, w.rowIs e.1 41 e.2.1 (fun i => .slice (some ⟨e.2.2.1 i, 0, none⟩) 1 1)
  eI : ∀ e ∈ s.O, ∀ i, i < e.2.1 → w.rowIs (e.2.2.1 i) 90 3 (mkP e.2.2.2)
  eS : ∀ e ∈ s.S, ∀ b, e.1 = some b → w.rowIs b 105 (e.2.1 * 9) (mkS e.2.2)
  eN : ∀ e ∈ s.S, e.1 = none → e.2.1 = 0
  lo : (s.P.length : Int) + (s.O.length : Int) + (s.S.length : Int) + (s.T.length : Int) + (s.R.length : Int) + (s.B.length : Int) ≤ s.n
  hi : s.n ≤ 1099511627776
  mP : ∀ e ∈ s.P, 0 ≤ e.2.2 ∧ e.2.2 ≤ 1099511627776 ∧ e.2.1 ≤ 1099511627776
  mO : ∀ e ∈ s.O, 0 ≤ e.2.2.2 ∧ e.2.2.2 ≤ 1099511627776 ∧ e.2.1 ≤ 1099511627776
  mS : ∀ e ∈ s.S, 0 ≤ e.2.2 ∧ e.2.2 ≤ 1099511627776 ∧ (e.2.1 : Int) ≤ 9223372036854775807
  oT : w.ownsRow h 127 2 s.vT s.T.length (s.T.flatMap seC)
  oR : w.ownsRow h 129 2 s.vR s.R.length (s.R.flatMap reC)
  eT : ∀ e ∈ s.T, ∀ b, e.1 = some b → w.rowIs b 53 (e.2.1 * 2) (mkT e.2.2)
  eU : ∀ e ∈ s.T, e.1 = none → e.2.1 = 0
  eR : ∀ e ∈ s.R, ∀ b, e.1 = some b → w.rowIs b 51 e.2.1 (fun i => .slice (some ⟨e.2.2.1 i, 0, none⟩) 1 1)
  eJ : ∀ e ∈ s.R, ∀ i, i < e.2.1 → w.rowIs (e.2.2.1 i) 53 2 (mkT e.2.2.2)
  eM : ∀ e ∈ s.R, e.1 = none → e.2.1 = 0
  mT : ∀ e ∈ s.T, 0 ≤ e.2.2 ∧ e.2.2 ≤ 1099511627776 ∧ (e.2.1 : Int) ≤ 9223372036854775807
  mR : ∀ e ∈ s.R, 0 ≤ e.2.2.2 ∧ e.2.2.2 ≤ 1099511627776 ∧ (e.2.1 : Int) ≤ 9223372036854775807
  oB : w.ownsRow h 108 2 s.vB s.B.length (s.B.flatMap seC)
  eB : ∀ e ∈ s.B, ∀ b, e.1 = some b → w.rowIs b 5 e.2.1 (mkB e.2.2)
  eV : ∀ e ∈ s.B, e.1 = none → e.2.1 = 0
  mB : ∀ e ∈ s.B, 0 ≤ e.2.2 ∧ e.2.2 ≤ 1099511627776 ∧ (e.2.1 : Int) ≤ 9223372036854775807

/-- The blocks in which it lies. -/
def Used (h : Nat) (s : HS) (b : Nat) : Prop :=
  b = h ∨ s.vP.ownBlock = some b ∨ s.vO.ownBlock = some b ∨ s.vS.ownBlock = some b ∨ (∃ e ∈ s.P, e.1 = b) ∨ (∃ e ∈ s.O, e.1 = b) ∨ (∃ e ∈ s.O, ∃ i, i < e.2.1 ∧ e.2.2.1 i = b) ∨ (∃ e ∈ s.S, e.1 = some b) ∨
  s.vT.ownBlock = some b ∨ s.vR.ownBlock = some b ∨ (∃ e ∈ s.T, e.1 = some b) ∨ (∃ e ∈ s.R, e.1 = some b) ∨ (∃ e ∈ s.R, ∃ i, i < e.2.1 ∧ e.2.2.1 i = b) ∨ s.vB.ownBlock = some b ∨ (∃ e ∈ s.B, e.1 = some b)

theorem owns_of_block {w w' : World} {base : Nat} {t : TypeId} {sz : Nat} {v : Value} {n : Nat} {xs : List Value} (h : w.ownsRow base t sz v n xs) (e : ∀ b, v.ownBlock = some b → w'.heap[b]? = w.heap[b]?) : w'.ownsRow base t sz v n xs := by
  refine ⟨h.1, ?_⟩
  rcases h.2 with hn | ⟨g, cap, cur, rfl, hb, hg, rest⟩
  · exact .inl hn
  · exact .inr ⟨g, cap, cur, rfl, hb, (e g rfl).trans hg, rest⟩

theorem HeldInv.of_blocks {w w' : World} {h : Nat} {s : HS} (H : HeldInv w h s) (e : ∀ b, Used h s b → w'.heap[b]? = w.heap[b]?) : HeldInv w' h s where
  wd := H.wd.of_block (e h (.inl rfl))
  oP := owns_of_block H.oP fun b hb => e b (by unfold Used; simp [hb])
  oO := owns_of_block H.oO fun b hb => e b (by unfold Used; simp [hb])
  oS := owns_of_block H.oS fun b hb => e b (by unfold Used; simp [hb])
  eP x hx := (H.eP x hx).of_block (e _ (.inr (.inr (.inr (.inr (.inl ⟨x, hx, rfl⟩))))))
  eO x hx := (H.eO x hx).of_block (e _ (.inr (.inr (.inr (.inr (.inr (.inl ⟨x, hx, rfl⟩)))))))
  eI x hx i hi := (H.eI x hx i hi).of_block (e _ (.inr (.inr (.inr (.inr (.inr (.inr (.inl ⟨x, hx, i, hi, rfl⟩))))))))
  eS x hx b hb := (H.eS x hx b hb).of_block (e _ (.inr (.inr (.inr (.inr (.inr (.inr (.inr (.inl ⟨x, hx, hb⟩)))))))))
  eN := H.eN
  lo := H.lo
  hi := H.hi
  mP := H.mP
  mO := H.mO
  mS := H.mS
  oT := owns_of_block H.oT fun b hb => e b (by unfold Used; simp [hb])
  oR := owns_of_block H.oR fun b hb => e b (by unfold Used; simp [hb])
  eT x hx b hb := (H.eT x hx b hb).of_block (e _ (.inr (.inr (.inr (.inr (.inr (.inr (.inr (.inr (.inr (.inr (.inl ⟨x, hx, hb⟩))))))))))))
  eU := H.eU
  eR x hx b hb := (H.eR x hx b hb).of_block (e _ (.inr (.inr (.inr (.inr (.inr (.inr (.inr (.inr (.inr (.inr (.inr (.inl ⟨x, hx, hb⟩)))))))))))))
  eJ x hx i hi := (H.eJ x hx i hi).of_block (e _ (.inr (.inr (.inr (.inr (.inr (.inr (.inr (.inr (.inr (.inr (.inr (.inr (.inl ⟨x, hx, i, hi, rfl⟩))))))))))))))
  eM := H.eM
  mT := H.mT
  mR := H.mR
  oB := owns_of_block H.oB fun b hb => e b (by unfold Used; simp [hb])
  eB x hx b hb := (H.eB x hx b hb).of_block (e _ (.inr (.inr (.inr (.inr (.inr (.inr (.inr (.inr (.inr (.inr (.inr (.inr (.inr (.inr ⟨x, hx, hb⟩)))))))))))))))
  eV := H.eV
  mB := H.mB

theorem HeldInv.used_lt {w : World} {h : Nat} {s : HS} (H : HeldInv w h s) {b : Nat} (u : Used h s b) : b < w.heap.size := by
  rcases u with rfl | u | u | u | ⟨x, hx, rfl⟩ | ⟨x, hx, rfl⟩ | ⟨x, hx, i, hi, rfl⟩ | ⟨x, hx, hb⟩ | u | u | ⟨x, hx, hb⟩ | ⟨x, hx, hb⟩ | ⟨x, hx, i, hi, rfl⟩ | u | ⟨x, hx, hb⟩
  · exact H.wd.lt
  · exact (H.oP.lt b u).2
  · exact (H.oO.lt b u).2
  · exact (H.oS.lt b u).2
  · exact (H.eP x hx).lt
  · exact (H.eO x hx).lt
  · exact (H.eI x hx i hi).lt
  · exact (H.eS x hx b hb).lt
  · exact (H.oT.lt b u).2
  · exact (H.oR.lt b u).2
  · exact (H.eT x hx b hb).lt
  · exact (H.eR x hx b hb).lt
  · exact (H.eJ x hx i hi).lt
  · exact (H.oB.lt b u).2
  · exact (H.eB x hx b hb).lt

theorem HeldInv.below {w w' : World} {h : Nat} {s : HS} (H : HeldInv w h s) (hb : Below w.heap.size w w') : HeldInv w' h s :=
  H.of_blocks fun b u => hb.block b (H.used_lt u)

/-- The element type of a block. -/
def tyOf (w : World) (b : Nat) : Option TypeId := match w.heap[b]? with
  | some (.cells _ t _) => some t
  | _ => none
theorem row_ty {w : World} {b : Nat} {t : TypeId} {n : Nat} {f : Nat → Value} (h : w.rowIs b t n f) : tyOf w b = some t := by
  obtain ⟨c, hb, _⟩ := h
  simp [tyOf, hb]
theorem owns_ty {w : World} {base : Nat} {t : TypeId} {sz : Nat} {v : Value} {n : Nat} {xs : List Value} (h : w.ownsRow base t sz v n xs) {b : Nat} (hb : v.ownBlock = some b) : tyOf w b = some t := by
  rcases h.2 with ⟨rfl, _⟩ | ⟨g, cap, cur, rfl, _, hg, _⟩
  · simp [Value.ownBlock] at hb
  · simp [Value.ownBlock] at hb
    subst hb
    simp [tyOf, hg]

/-- What is used is of these types, and where it is of a list's type it is one of the lists. -/
theorem HeldInv.used_pt {w : World} {h : Nat} {s : HS} (H : HeldInv w h s) {b : Nat} (u : Used h s b) (ht : tyOf w b = some 90) : (∃ e ∈ s.P, e.1 = b) ∨ ∃ e ∈ s.O, ∃ i, i < e.2.1 ∧ e.2.2.1 i = b := by
  rcases u with rfl | u | u | u | u | ⟨x, hx, rfl⟩ | u | ⟨x, hx, hb⟩ | u | u | ⟨x, hx, hb⟩ | ⟨x, hx, hb⟩ | ⟨x, hx, i, hi, rfl⟩ | u | ⟨x, hx, hb⟩
  · rw [row_ty H.wd] at ht; simp at ht
  · rw [owns_ty H.oP u] at ht; simp at ht
  · rw [owns_ty H.oO u] at ht; simp at ht
  · rw [owns_ty H.oS u] at ht; simp at ht
  · exact .inl u
  · rw [row_ty (H.eO x hx)] at ht; simp at ht
  · exact .inr u
  · rw [row_ty (H.eS x hx b hb)] at ht; simp at ht
  · rw [owns_ty H.oT u] at ht; simp at ht
  · rw [owns_ty H.oR u] at ht; simp at ht
  · rw [row_ty (H.eT x hx b hb)] at ht; simp at ht
  · rw [row_ty (H.eR x hx b hb)] at ht; simp at ht
  · rw [row_ty (H.eJ x hx i hi)] at ht; simp at ht
  · rw [owns_ty H.oB u] at ht; simp at ht
  · rw [row_ty (H.eB x hx b hb)] at ht; simp at ht
theorem HeldInv.used_pts {w : World} {h : Nat} {s : HS} (H : HeldInv w h s) {b : Nat} (u : Used h s b) (ht : tyOf w b = some 41) : ∃ e ∈ s.O, e.1 = b := by
  rcases u with rfl | u | u | u | ⟨x, hx, rfl⟩ | u | ⟨x, hx, i, hi, rfl⟩ | ⟨x, hx, hb⟩ | u | u | ⟨x, hx, hb⟩ | ⟨x, hx, hb⟩ | ⟨x, hx, i, hi, rfl⟩ | u | ⟨x, hx, hb⟩
  · rw [row_ty H.wd] at ht; simp at ht
  · rw [owns_ty H.oP u] at ht; simp at ht
  · rw [owns_ty H.oO u] at ht; simp at ht
  · rw [owns_ty H.oS u] at ht; simp at ht
  · rw [row_ty (H.eP x hx)] at ht; simp at ht
  · exact u
  · rw [row_ty (H.eI x hx i hi)] at ht; simp at ht
  · rw [row_ty (H.eS x hx b hb)] at ht; simp at ht
  · rw [owns_ty H.oT u] at ht; simp at ht
  · rw [owns_ty H.oR u] at ht; simp at ht
  · rw [row_ty (H.eT x hx b hb)] at ht; simp at ht
  · rw [row_ty (H.eR x hx b hb)] at ht; simp at ht
  · rw [row_ty (H.eJ x hx i hi)] at ht; simp at ht
  · rw [owns_ty H.oB u] at ht; simp at ht
  · rw [row_ty (H.eB x hx b hb)] at ht; simp at ht
theorem HeldInv.used_seg {w : World} {h : Nat} {s : HS} (H : HeldInv w h s) {b : Nat} (u : Used h s b) (ht : tyOf w b = some 105) : ∃ e ∈ s.S, e.1 = some b := by
  rcases u with rfl | u | u | u | ⟨x, hx, rfl⟩ | ⟨x, hx, rfl⟩ | ⟨x, hx, i, hi, rfl⟩ | u | u | u | ⟨x, hx, hb⟩ | ⟨x, hx, hb⟩ | ⟨x, hx, i, hi, rfl⟩ | u | ⟨x, hx, hb⟩
  · rw [row_ty H.wd] at ht; simp at ht
  · rw [owns_ty H.oP u] at ht; simp at ht
  · rw [owns_ty H.oO u] at ht; simp at ht
  · rw [owns_ty H.oS u] at ht; simp at ht
  · rw [row_ty (H.eP x hx)] at ht; simp at ht
  · rw [row_ty (H.eO x hx)] at ht; simp at ht
  · rw [row_ty (H.eI x hx i hi)] at ht; simp at ht
  · exact u
  · rw [owns_ty H.oT u] at ht; simp at ht
  · rw [owns_ty H.oR u] at ht; simp at ht
  · rw [row_ty (H.eT x hx b hb)] at ht; simp at ht
  · rw [row_ty (H.eR x hx b hb)] at ht; simp at ht
  · rw [row_ty (H.eJ x hx i hi)] at ht; simp at ht
  · rw [owns_ty H.oB u] at ht; simp at ht
  · rw [row_ty (H.eB x hx b hb)] at ht; simp at ht
theorem HeldInv.used_spot {w : World} {h : Nat} {s : HS} (H : HeldInv w h s) {b : Nat} (u : Used h s b) (ht : tyOf w b = some 53) : (∃ e ∈ s.T, e.1 = some b) ∨ ∃ e ∈ s.R, ∃ i, i < e.2.1 ∧ e.2.2.1 i = b := by
  rcases u with rfl | u | u | u | ⟨x, hx, rfl⟩ | ⟨x, hx, rfl⟩ | ⟨x, hx, i, hi, rfl⟩ | ⟨x, hx, hb⟩ | u | u | u | ⟨x, hx, hb⟩ | u | u | ⟨x, hx, hb⟩
  · rw [row_ty H.wd] at ht; simp at ht
  · rw [owns_ty H.oP u] at ht; simp at ht
  · rw [owns_ty H.oO u] at ht; simp at ht
  · rw [owns_ty H.oS u] at ht; simp at ht
  · rw [row_ty (H.eP x hx)] at ht; simp at ht
  · rw [row_ty (H.eO x hx)] at ht; simp at ht
  · rw [row_ty (H.eI x hx i hi)] at ht; simp at ht
  · rw [row_ty (H.eS x hx b hb)] at ht; simp at ht
  · rw [owns_ty H.oT u] at ht; simp at ht
  · rw [owns_ty H.oR u] at ht; simp at ht
  · exact .inl u
  · rw [row_ty (H.eR x hx b hb)] at ht; simp at ht
  · exact .inr u
  · rw [owns_ty H.oB u] at ht; simp at ht
  · rw [row_ty (H.eB x hx b hb)] at ht; simp at ht
theorem HeldInv.used_ring {w : World} {h : Nat} {s : HS} (H : HeldInv w h s) {b : Nat} (u : Used h s b) (ht : tyOf w b = some 51) : ∃ e ∈ s.R, e.1 = some b := by
  rcases u with rfl | u | u | u | ⟨x, hx, rfl⟩ | ⟨x, hx, rfl⟩ | ⟨x, hx, i, hi, rfl⟩ | ⟨x, hx, hb⟩ | u | u | ⟨x, hx, hb⟩ | u | ⟨x, hx, i, hi, rfl⟩ | u | ⟨x, hx, hb⟩
  · rw [row_ty H.wd] at ht; simp at ht
  · rw [owns_ty H.oP u] at ht; simp at ht
  · rw [owns_ty H.oO u] at ht; simp at ht
  · rw [owns_ty H.oS u] at ht; simp at ht
  · rw [row_ty (H.eP x hx)] at ht; simp at ht
  · rw [row_ty (H.eO x hx)] at ht; simp at ht
  · rw [row_ty (H.eI x hx i hi)] at ht; simp at ht
  · rw [row_ty (H.eS x hx b hb)] at ht; simp at ht
  · rw [owns_ty H.oT u] at ht; simp at ht
  · rw [owns_ty H.oR u] at ht; simp at ht
  · rw [row_ty (H.eT x hx b hb)] at ht; simp at ht
  · exact u
  · rw [row_ty (H.eJ x hx i hi)] at ht; simp at ht
  · rw [owns_ty H.oB u] at ht; simp at ht
  · rw [row_ty (H.eB x hx b hb)] at ht; simp at ht

theorem HeldInv.used_byte {w : World} {h : Nat} {s : HS} (H : HeldInv w h s) {b : Nat} (u : Used h s b) (ht : tyOf w b = some 5) : ∃ e ∈ s.B, e.1 = some b := by
  rcases u with rfl | u | u | u | ⟨x, hx, rfl⟩ | ⟨x, hx, rfl⟩ | ⟨x, hx, i, hi, rfl⟩ | ⟨x, hx, hb⟩ | u | u | ⟨x, hx, hb⟩ | ⟨x, hx, hb⟩ | ⟨x, hx, i, hi, rfl⟩ | u | u
  · rw [row_ty H.wd] at ht; simp at ht
  · rw [owns_ty H.oP u] at ht; simp at ht
  · rw [owns_ty H.oO u] at ht; simp at ht
  · rw [owns_ty H.oS u] at ht; simp at ht
  · rw [row_ty (H.eP x hx)] at ht; simp at ht
  · rw [row_ty (H.eO x hx)] at ht; simp at ht
  · rw [row_ty (H.eI x hx i hi)] at ht; simp at ht
  · rw [row_ty (H.eS x hx b hb)] at ht; simp at ht
  · rw [owns_ty H.oT u] at ht; simp at ht
  · rw [owns_ty H.oR u] at ht; simp at ht
  · rw [row_ty (H.eT x hx b hb)] at ht; simp at ht
  · rw [row_ty (H.eR x hx b hb)] at ht; simp at ht
  · rw [row_ty (H.eJ x hx i hi)] at ht; simp at ht
  · rw [owns_ty H.oB u] at ht; simp at ht
  · exact u

/-- All lists that are held lie below block T. -/
def HS.Under (s : HS) (T : Nat) : Prop := (∀ e ∈ s.P, e.1 < T) ∧ (∀ e ∈ s.O, e.1 < T ∧ ∀ i, i < e.2.1 → e.2.2.1 i < T) ∧ ∀ e ∈ s.S, ∀ b, e.1 = some b → b < T

theorem HeldInv.under {w : World} {h : Nat} {s : HS} (H : HeldInv w h s) : s.Under w.heap.size :=
  ⟨fun e he => (H.eP e he).lt, fun e he => ⟨(H.eO e he).lt, fun i hi => (H.eI e he i hi).lt⟩, fun e he b hb => (H.eS e he b hb).lt⟩

/-- A new mark's number. -/
theorem HeldInv.marked {w : World} {h : Nat} {s : HS} (H : HeldInv w h s) (hn : s.n + 1 ≤ 1099511627776) : HeldInv (w.setCell ⟨h, 2, none⟩ (.int .i64 (s.n + 1))) h { s with n := s.n + 1 } := by
  have hne : ∀ b, b ≠ h → (w.setCell ⟨h, 2, none⟩ (.int .i64 (s.n + 1))).heap[b]? = w.heap[b]? := fun b hb => blk_setCell_other _ _ _ _ (by simpa using hb)
  have ty := row_ty H.wd
  have P1 : ∀ b, tyOf w b ≠ some 70 → (w.setCell ⟨h, 2, none⟩ (.int .i64 (s.n + 1))).heap[b]? = w.heap[b]? := fun b hb => hne b (fun e => by rw [e] at hb; exact hb ty)
  refine { wd := ?_, oP := (owns_of_block H.oP fun b hb => P1 b (by rw [owns_ty H.oP hb]; decide)), oO := (owns_of_block H.oO fun b hb => P1 b (by rw [owns_ty H.oO hb]; decide)), oS := (owns_of_block H.oS fun b hb => P1 b (by rw [owns_ty H.oS hb]; decide)), oT := (owns_of_block H.oT fun b hb => P1 b (by rw [owns_ty H.oT hb]; decide)), oR := (owns_of_block H.oR fun b hb => P1 b (by rw [owns_ty H.oR hb]; decide)), eP := (fun x hx => (H.eP x hx).of_block (P1 _ (by rw [row_ty (H.eP x hx)]; decide))), eO := (fun x hx => (H.eO x hx).of_block (P1 _ (by rw [row_ty (H.eO x hx)]; decide))), eI := (fun x hx i hi => (H.eI x hx i hi).of_block (P1 _ (by rw [row_ty (H.eI x hx i hi)]; decide))), eS := (fun x hx b hb => (H.eS x hx b hb).of_block (P1 _ (by rw [row_ty (H.eS x hx b hb)]; decide))), eN := H.eN, lo := ?_, hi := hn, mP := H.mP, mO := H.mO, mS := H.mS, eT := (fun x hx b hb => (H.eT x hx b hb).of_block (P1 _ (by rw [row_ty (H.eT x hx b hb)]; decide))), eU := H.eU, eR := (fun x hx b hb => (H.eR x hx b hb).of_block (P1 _ (by rw [row_ty (H.eR x hx b hb)]; decide))), eJ := (fun x hx i hi => (H.eJ x hx i hi).of_block (P1 _ (by rw [row_ty (H.eJ x hx i hi)]; decide))), eM := H.eM, mT := H.mT, mR := H.mR, oB := (owns_of_block H.oB fun b hb => P1 b (by rw [owns_ty H.oB hb]; decide)), eB := (fun x hx b hb => (H.eB x hx b hb).of_block (P1 _ (by rw [row_ty (H.eB x hx b hb)]; decide))), eV := H.eV, mB := H.mB }
  · refine (H.wd.set 2 _).congr fun q hq => ?_
    by_cases e : q = 2
    · subst e; simp [wc]
    · simp only [if_neg e, wc]
  · have := H.lo; show (s.P.length : Int) + s.O.length + s.S.length + s.T.length + s.R.length + s.B.length ≤ s.n + 1; omega

/-- Nothing but blocks of S has been written. -/
structure Touch (S : Nat → Prop) (w w' : World) : Prop where
  os : w'.os = w.os
  tape : w'.tape = w.tape
  output : w'.output = w.output
  size : w.heap.size ≤ w'.heap.size
  block : ∀ b, b < w.heap.size → ¬ S b → w'.heap[b]? = w.heap[b]?
theorem Touch.refl (S : Nat → Prop) (w : World) : Touch S w w := ⟨rfl, rfl, rfl, Nat.le_refl _, fun _ _ _ => rfl⟩
theorem Touch.trans {S : Nat → Prop} {a b c : World} (h : Touch S a b) (k : Touch S b c) : Touch S a c :=
  ⟨k.os.trans h.os, k.tape.trans h.tape, k.output.trans h.output, Nat.le_trans h.size k.size, fun x hx hS => (k.block x (Nat.lt_of_lt_of_le hx h.size) hS).trans (h.block x hx hS)⟩
/-- New blocks may be written freely. -/
theorem Touch.trans' {S S' : Nat → Prop} {a b c : World} (h : Touch S a b) (k : Touch S' b c) (hS : ∀ x, S' x → S x ∨ a.heap.size ≤ x) : Touch S a c :=
  ⟨k.os.trans h.os, k.tape.trans h.tape, k.output.trans h.output, Nat.le_trans h.size k.size, fun x hx hn => (k.block x (Nat.lt_of_lt_of_le hx h.size) (fun e => by rcases hS x e with e | e; exact hn e; omega)).trans (h.block x hx hn)⟩
theorem Touch.setCell {S : Nat → Prop} {w w' : World} (h : Touch S w w') {p : Addr} (hp : S p.block ∨ w.heap.size ≤ p.block) (u : Value) : Touch S w (w'.setCell p u) :=
  ⟨h.os, h.tape, h.output, by rw [nblk_setCell]; exact h.size, fun x hx hS => by
    rw [blk_setCell_other _ _ _ _ (fun e => by rcases hp with hp | hp; exact hS (by rw [e]; exact hp); omega)]; exact h.block x hx hS⟩
theorem Touch.alloc {S : Nat → Prop} {w w' : World} (h : Touch S w w') (o : Obj) : Touch S w (w'.alloc o) :=
  ⟨h.os, h.tape, h.output, by rw [nblk_alloc]; have := h.size; omega, fun x hx hS => by rw [blk_alloc_lt _ _ _ (by have := h.size; omega)]; exact h.block x hx hS⟩
theorem Touch.drew {S : Nat → Prop} {w w' : World} (h : Touch S w w') : Touch S w w'.drew := ⟨h.os, h.tape, h.output, h.size, h.block⟩
theorem Touch.drewN {S : Nat → Prop} {w w' : World} (h : Touch S w w') (n : Nat) : Touch S w (w'.drewN n) := ⟨h.os, h.tape, h.output, h.size, h.block⟩
theorem Touch.grown {S : Nat → Prop} {w w' w'' : World} {row : Option Nat} (h : Touch S w w') (hg : w'.grownBy w'' row) (hr : ∀ b, row = some b → S b ∨ w.heap.size ≤ b) : Touch S w w'' :=
  ⟨hg.os.trans h.os, hg.tape.trans h.tape, hg.output.trans h.output, Nat.le_trans h.size hg.size, fun x hx hS => by
    rw [hg.block x (Nat.lt_of_lt_of_le hx h.size) (fun e => by rcases hr x e.symm with e | e; exact hS e; omega)]; exact h.block x hx hS⟩
theorem Touch.below {S : Nat → Prop} {w w' : World} (h : Touch S w w') {B : Nat} (hB : B ≤ w.heap.size) (hS : ∀ b, S b → B ≤ b) : Below B w w' :=
  ⟨h.os, h.tape, h.output, h.size, fun x hx => h.block x (by omega) (fun e => by have := hS x e; omega)⟩
theorem Touch.of_below {S : Nat → Prop} {w w' w'' : World} (h : Touch S w w') (hb : Below w'.heap.size w' w'') : Touch S w w'' :=
  h.trans' (S' := fun _ => False) ⟨hb.os, hb.tape, hb.output, hb.size, fun x hx _ => hb.block x hx⟩ (fun _ e => e.elim)
theorem Touch.row {S : Nat → Prop} {w w' : World} (h : Touch S w w') {b : Nat} {t : TypeId} {n : Nat} {f : Nat → Value} (hr : w.rowIs b t n f) (hS : ¬ S b) : w'.rowIs b t n f :=
  hr.of_block (h.block b hr.lt hS)
end Go.Proofs.Ytkhcjkmifddlbab

/- CutV -/
namespace Go.Proofs.Ytkhcjkmifddlbab
namespace Num

/-- Of a search by two tests, the second of which ends at j. -/
theorem filter_end {A B : Nat → Bool} {j : Nat} : ∀ m, j ≤ m → (∀ k, k < m → B k = decide (k < j)) → (List.range m).filter (fun k => A k && B k) = (List.range j).filter A := by
  intro m
  induction m with
  | zero => intro h _; have : j = 0 := by omega
            subst this; rfl
  | succ m ih =>
    intro h hB
    by_cases e : j = m + 1
    · subst e
      apply List.filter_congr
      intro k hk
      have : k < m + 1 := by simpa using hk
      rw [hB k this]; simp [this]
    · rw [List.range_succ, List.filter_append, ih (by omega) (fun k hk => hB k (by omega))]
      have : B m = false := by rw [hB m (by omega)]; simp; omega
      simp [this]

/-- Line k, from the least on, and from the greatest on. -/
def upK (k : Nat) : Int := 64 * ((k : Int) - 256)
def dnK (k : Nat) : Int := 64 * (256 - (k : Int))
/-- The lines beyond p among the first j. -/
def upL (p : Int) (j : Nat) : List Int := ((List.range j).filter fun k => decide (p < upK k)).map upK
def dnL (p : Int) (j : Nat) : List Int := ((List.range j).filter fun k => decide (dnK k < p)).map dnK
/-- The lines between p and q among the first m. -/
def upR (p q : Int) (m : Nat) : List Int := ((List.range m).filter fun k => decide (p < upK k) && decide (upK k < q)).map upK
def dnR (p q : Int) (m : Nat) : List Int := ((List.range m).filter fun k => decide (dnK k < p) && decide (q < dnK k)).map dnK
def linesV (p q : Int) : List Int := upR p q 513 ++ dnR p q 513

theorem upL_succ (p : Int) (j : Nat) : upL p (j + 1) = upL p j ++ if p < upK j then [upK j] else [] := by
  unfold upL
  rw [List.range_succ, List.filter_append, List.map_append]
  split <;> rename_i h <;> simp [h]
theorem dnL_succ (p : Int) (j : Nat) : dnL p (j + 1) = dnL p j ++ if dnK j < p then [dnK j] else [] := by
  unfold dnL
  rw [List.range_succ, List.filter_append, List.map_append]
  split <;> rename_i h <;> simp [h]
theorem upR_succ (p q : Int) (m : Nat) : upR p q (m + 1) = upR p q m ++ if p < upK m ∧ upK m < q then [upK m] else [] := by
  unfold upR
  rw [List.range_succ, List.filter_append, List.map_append]
  split <;> rename_i h
  · simp [h.1, h.2]
  · have : (decide (p < upK m) && decide (upK m < q)) = false := by simp; omega
    simp [this]
theorem dnR_succ (p q : Int) (m : Nat) : dnR p q (m + 1) = dnR p q m ++ if q < dnK m ∧ dnK m < p then [dnK m] else [] := by
  unfold dnR
  rw [List.range_succ, List.filter_append, List.map_append]
  split <;> rename_i h
  · simp [h.1, h.2]
  · have : (decide (dnK m < p) && decide (q < dnK m)) = false := by simp; omega
    simp [this]
theorem upL_start {p : Int} {j : Nat} (h : ∀ k, k < j → upK k ≤ p) : upL p j = [] := by
  unfold upL
  rw [List.map_eq_nil_iff, List.filter_eq_nil_iff]
  intro k hk
  have := h k (by simpa using hk)
  simp; omega
theorem dnL_start {p : Int} {j : Nat} (h : ∀ k, k < j → p ≤ dnK k) : dnL p j = [] := by
  unfold dnL
  rw [List.map_eq_nil_iff, List.filter_eq_nil_iff]
  intro k hk
  have := h k (by simpa using hk)
  simp; omega
theorem upR_none {p q : Int} (m : Nat) (h : q ≤ p) : upR p q m = [] := by
  unfold upR
  rw [List.map_eq_nil_iff, List.filter_eq_nil_iff]
  intro k _
  simp; omega
theorem dnR_none {p q : Int} (m : Nat) (h : p ≤ q) : dnR p q m = [] := by
  unfold dnR
  rw [List.map_eq_nil_iff, List.filter_eq_nil_iff]
  intro k _
  simp; omega
/-- The program's lines are the document's. -/
theorem lines_up {p q : Int} {j : Nat} (hpq : p < q) (hj : j ≤ 513) (hq : ∀ k, k < j → upK k < q) (hq2 : ∀ k, j ≤ k → k < 513 → q ≤ upK k) : linesV p q = upL p j := by
  unfold linesV
  rw [dnR_none _ (by omega), List.append_nil]
  unfold upR upL
  rw [filter_end (j := j) 513 hj]
  intro k hk
  by_cases h : k < j
  · simp [h, hq k h]
  · have := hq2 k (by omega) hk
    simp [h]; omega
theorem lines_dn {p q : Int} {j : Nat} (hpq : q ≤ p) (hj : j ≤ 513) (hq : ∀ k, k < j → q < dnK k) (hq2 : ∀ k, j ≤ k → k < 513 → dnK k ≤ q) : linesV p q = dnL p j := by
  unfold linesV
  rw [upR_none _ (by omega), List.nil_append]
  unfold dnR dnL
  rw [filter_end (j := j) 513 hj]
  intro k hk
  by_cases h : k < j
  · simp [h, hq k h]
  · have := hq2 k (by omega) hk
    simp [h]; omega
theorem upL_len (p : Int) (j : Nat) : (upL p j).length ≤ j := by
  unfold upL; rw [List.length_map]; exact Nat.le_trans (List.length_filter_le _ _) (by simp)
theorem dnL_len (p : Int) (j : Nat) : (dnL p j).length ≤ j := by
  unfold dnL; rw [List.length_map]; exact Nat.le_trans (List.length_filter_le _ _) (by simp)
theorem upR_len (p q : Int) (j : Nat) : (upR p q j).length ≤ j := by
  unfold upR; rw [List.length_map]; exact Nat.le_trans (List.length_filter_le _ _) (by simp)
theorem dnR_len (p q : Int) (j : Nat) : (dnR p q j).length ≤ j := by
  unfold dnR; rw [List.length_map]; exact Nat.le_trans (List.length_filter_le _ _) (by simp)
theorem linesV_len (p q : Int) : (linesV p q).length ≤ 1026 := by
  unfold linesV
  rw [List.length_append]
  have := upR_len p q 513
  have := dnR_len p q 513
  omega
/-- All lines lie strictly between. -/
theorem linesV_mem {p q v : Int} (h : v ∈ linesV p q) : (p < v ∧ v < q) ∨ (q < v ∧ v < p) := by
  unfold linesV upR dnR at h
  simp only [List.mem_append, List.mem_map, List.mem_filter, Bool.and_eq_true, decide_eq_true_eq] at h
  rcases h with ⟨k, ⟨_, h1, h2⟩, rfl⟩ | ⟨k, ⟨_, h1, h2⟩, rfl⟩
  · exact .inl ⟨h1, h2⟩
  · exact .inr ⟨h2, h1⟩

theorem hu_add (a n d : Int) (hd : 0 < d) : hu (a * d + n) d = a + hu n d := by
  obtain ⟨h1, h2⟩ := hu_facts n d hd
  apply hu_of _ _ _ hd
  · have e : 2 * d * (a + hu n d) = 2 * (a * d) + 2 * d * hu n d := by rw [Int.mul_add, Int.mul_assoc 2 d a, Int.mul_comm d a]
    omega
  · have e : 2 * d * (a + hu n d) = 2 * (a * d) + 2 * d * hu n d := by rw [Int.mul_add, Int.mul_assoc 2 d a, Int.mul_comm d a]
    omega
theorem hu_between {n d B : Int} (hd : 0 < d) (h1 : -(B * d) ≤ n) (h2 : n ≤ B * d) : -B ≤ hu n d ∧ hu n d ≤ B := by
  obtain ⟨f1, f2⟩ := hu_facts n d hd
  constructor
  · rcases Int.lt_or_le (hu n d) (-B) with h | h
    · exfalso
      have := Int.mul_le_mul_of_nonneg_left (show hu n d + 1 ≤ -B by omega) (show 0 ≤ 2 * d by omega)
      rw [Int.mul_add] at this
      have e : 2 * d * -B = -(2 * (B * d)) := by rw [Int.mul_neg, Int.mul_assoc, Int.mul_comm d B]
      omega
    · exact h
  · rcases Int.lt_or_le B (hu n d) with h | h
    · exfalso
      have := Int.mul_le_mul_of_nonneg_left (show B + 1 ≤ hu n d by omega) (show 0 ≤ 2 * d by omega)
      rw [Int.mul_add] at this
      have e : 2 * d * B = 2 * (B * d) := by rw [Int.mul_assoc, Int.mul_comm d B]
      omega
    · exact h

/-- Where the line that goes from a to b, while the other coordinate goes from p to q, is at n. -/
def atV (a b p q n : Int) : Int := if q - p < 0 then hu (-(a * (q - n) + b * (n - p))) (-(q - p)) else hu (a * (q - n) + b * (n - p)) (q - p)
theorem at_num (a b p q n : Int) : a * (q - n) + b * (n - p) = a * (q - p) + (b - a) * (n - p) := by
  rw [Int.sub_mul, show q - p = (q - n) + (n - p) by omega, Int.mul_add]; omega
/-- The program's way. -/
theorem atV_eq {a b p q n : Int} (h : p ≠ q) : atV a b p q n = a + if q - p < 0 then hu (-((b - a) * (n - p))) (-(q - p)) else hu ((b - a) * (n - p)) (q - p) := by
  unfold atV
  rw [at_num]
  split
  · rename_i hd
    rw [show -(a * (q - p) + (b - a) * (n - p)) = a * -(q - p) + -((b - a) * (n - p)) by rw [Int.mul_neg]; omega]
    exact hu_add _ _ _ (by omega)
  · exact hu_add _ _ _ (by omega)
theorem mul_ge {a t B : Int} (h : -B ≤ a ∧ a ≤ B) (ht : 0 ≤ t) : -(B * t) ≤ a * t ∧ a * t ≤ B * t := by
  have h1 := Int.mul_le_mul_of_nonneg_right h.1 ht
  have h2 := Int.mul_le_mul_of_nonneg_right h.2 ht
  rw [Int.neg_mul] at h1
  exact ⟨h1, h2⟩
theorem atV_bd {a b p q n B : Int} (ha : -B ≤ a ∧ a ≤ B) (hb : -B ≤ b ∧ b ≤ B) (h : (p < n ∧ n < q) ∨ (q < n ∧ n < p)) : -B ≤ atV a b p q n ∧ atV a b p q n ≤ B := by
  unfold atV
  rcases h with h | h
  · rw [if_neg (by omega)]
    have h1 := mul_ge (t := q - n) ha (by omega)
    have h2 := mul_ge (t := n - p) hb (by omega)
    have e : B * (q - p) = B * (q - n) + B * (n - p) := by rw [← Int.mul_add]; congr 1; omega
    exact hu_between (by omega) (by omega) (by omega)
  · rw [if_pos (by omega)]
    have h1 := mul_ge (t := n - q) ha (by omega)
    have h2 := mul_ge (t := p - n) hb (by omega)
    have e : B * -(q - p) = B * (n - q) + B * (p - n) := by rw [← Int.mul_add]; congr 1; omega
    have e1 : a * (q - n) = -(a * (n - q)) := by rw [← Int.mul_neg]; congr 1; omega
    have e2 : b * (n - p) = -(b * (p - n)) := by rw [← Int.mul_neg]; congr 1; omega
    exact hu_between (by omega) (by omega) (by omega)

/-- Where a chord meets the row lines, and the column lines. -/
def rowsV (ax ay bx b2 : Int) : List (Int × Int) := (linesV ay b2).map fun y => (atV ax bx ay b2 y, y)
def colsV (ax ay bx b2 : Int) : List (Int × Int) := (linesV ax bx).map fun x => (x, atV ay b2 ax bx x)
/-- From one spot to the next, cut at the column lines. -/
def cutF : Int → Int → List (Int × Int) → List (Int × Int)
  | _, _, [] => []
  | x, y, t :: r => colsV x y t.1 t.2 ++ t :: cutF t.1 t.2 r
def cutsE (ax ay bx b2 : Int) : Int := if (inB ax ay && inB bx b2) = false then 6 else 0
/-- Cuts' answer. -/
def cutsL (ax ay bx b2 : Int) : List (Int × Int) := if cutsE ax ay bx b2 = 0 then (ax, ay) :: cutF ax ay (rowsV ax ay bx b2 ++ [(bx, b2)]) else []

theorem cuts_ok {ax ay bx b2 : Int} (h : cutsE ax ay bx b2 = 0) : inB ax ay = true ∧ inB bx b2 = true := by
  unfold cutsE at h
  cases h1 : inB ax ay <;> cases h2 : inB bx b2 <;> simp [h1, h2] at h
  exact ⟨rfl, rfl⟩
theorem rowsV_len (ax ay bx b2 : Int) : (rowsV ax ay bx b2).length ≤ 1026 := by unfold rowsV; rw [List.length_map]; exact linesV_len _ _
theorem colsV_len (ax ay bx b2 : Int) : (colsV ax ay bx b2).length ≤ 1026 := by unfold colsV; rw [List.length_map]; exact linesV_len _ _
/-- The spots on row lines are in range. -/
theorem rowsV_in {ax ay bx b2 : Int} (ha : inB ax ay = true) (hb : inB bx b2 = true) : ∀ t ∈ rowsV ax ay bx b2, inB t.1 t.2 = true := by
  intro t ht
  unfold rowsV at ht
  rw [List.mem_map] at ht
  obtain ⟨y, hy, rfl⟩ := ht
  have h := linesV_mem hy
  have a := inB_yes ha
  have b := inB_yes hb
  have := atV_bd (n := y) a.1 b.1 h
  have hy2 : -16384 ≤ y ∧ y ≤ 16384 := by omega
  simp [inB, wi]
  omega
theorem cutF_len (r : List (Int × Int)) : ∀ x y, (cutF x y r).length ≤ 1027 * r.length := by
  induction r with
  | nil => intro x y; simp [cutF]
  | cons t r ih =>
    intro x y
    simp only [cutF, List.length_append, List.length_cons]
    have := ih t.1 t.2
    have := colsV_len x y t.1 t.2
    omega
/-- The last spot behind the first spots r. -/
def lastS (x y : Int) : List (Int × Int) → Int × Int
  | [] => (x, y)
  | t :: r => lastS t.1 t.2 r
theorem cutF_snoc (r : List (Int × Int)) (t : Int × Int) : ∀ x y, cutF x y (r ++ [t]) = cutF x y r ++ colsV (lastS x y r).1 (lastS x y r).2 t.1 t.2 ++ [t] := by
  induction r with
  | nil => intro x y; simp [cutF, lastS]
  | cons u r ih => intro x y; simp only [List.cons_append, cutF, lastS, ih, List.append_assoc, List.cons_append]
theorem lastS_snoc (r : List (Int × Int)) (t : Int × Int) : ∀ x y, lastS x y (r ++ [t]) = t := by
  induction r with
  | nil => intro x y; rfl
  | cons u r ih => intro x y; simp only [List.cons_append, lastS, ih]
theorem lastS_in (r : List (Int × Int)) : ∀ x y, inB x y = true → (∀ t ∈ r, inB t.1 t.2 = true) → inB (lastS x y r).1 (lastS x y r).2 = true := by
  induction r with
  | nil => intro x y h _; exact h
  | cons u r ih => intro x y _ hr; exact ih u.1 u.2 (hr u (by simp)) (fun t ht => hr t (by simp [ht]))
end Num
end Go.Proofs.Ytkhcjkmifddlbab

/- AreaV -/
namespace Go.Proofs.Ytkhcjkmifddlbab
namespace Num

/-- A number, but at least 0 and at most 64. -/
def cl (v : Int) : Int := if v < 0 then 0 else if 64 < v then 64 else v
/-- What a piece counts at the pixels of column i, in its row. -/
def pieceA (i x0 y0 x1 y1 : Int) : Int := (y1 - y0) * (cl (64 * i + 64 - x0) + cl (64 * i + 64 - x1))
/-- Does a piece lie in row j? -/
def inRow (j y0 y1 : Int) : Bool := decide (64 * j ≤ y0) && decide (y0 ≤ 64 * j + 64) && (decide (64 * j ≤ y1) && decide (y1 ≤ 64 * j + 64))
/-- The pieces from one spot to the next, all that lie in row j. -/
def sumP (i j : Int) : Int → Int → List (Int × Int) → Int
  | _, _, [] => 0
  | x, y, t :: r => (if inRow j y t.2 = true then pieceA i x y t.1 t.2 else 0) + sumP i j t.1 t.2 r
theorem sumP_append (i j : Int) (l r : List (Int × Int)) : ∀ x y, sumP i j x y (l ++ r) = sumP i j x y l + sumP i j (lastS x y l).1 (lastS x y l).2 r := by
  induction l with
  | nil => intro x y; simp [sumP, lastS]
  | cons t l ih => intro x y; simp only [List.cons_append, sumP, lastS, ih]; omega

/-- The document's parts. -/
def reachV (px py qx qy x : Int) : Int := if x ≤ px then py else if qx ≤ x then qy else atV py qy px qx x
def lsV (a b : Int) : Int := if a < b then a else b
def clipV (v lo hi : Int) : Int := gr lo (lsV v hi)
def partV (ax ay bx b2 i : Int) : Int :=
  if bx < ax then
    128 * sz (reachV bx b2 ax ay (64 * i) - b2) + sz (reachV bx b2 ax ay (64 * i + 64) - reachV bx b2 ax ay (64 * i)) * (64 * i + 64 - clipV (64 * i) bx ax + (64 * i + 64) - clipV (64 * i + 64) bx ax)
  else
    128 * sz (reachV ax ay bx b2 (64 * i) - ay) + sz (reachV ax ay bx b2 (64 * i + 64) - reachV ax ay bx b2 (64 * i)) * (64 * i + 64 - clipV (64 * i) ax bx + (64 * i + 64) - clipV (64 * i + 64) ax bx)
def downV (ax ay bx b2 i j : Int) : Int :=
  if lsV b2 (64 * j + 64) ≤ gr ay (64 * j) then 0
  else partV (atV ax bx ay b2 (gr ay (64 * j))) (gr ay (64 * j)) (atV ax bx ay b2 (lsV b2 (64 * j + 64))) (lsV b2 (64 * j + 64)) i
def chordV (ax ay bx b2 i j : Int) : Int := if b2 < ay then -downV bx b2 ax ay i j else downV ax ay bx b2 i j

theorem hu_mono {n m d : Int} (hd : 0 < d) (h : n ≤ m) : hu n d ≤ hu m d := by
  unfold hu
  exact Int.ediv_le_ediv (by omega) (by omega)
theorem hu_le_of {n d B : Int} (hd : 0 < d) (h : n ≤ B * d) : hu n d ≤ B := by
  have h1 := hu_mono hd h
  have h2 : hu (B * d) d = B := by
    have := hu_add B 0 d hd
    rw [Int.add_zero] at this
    rw [this]
    have h0 : hu 0 d = 0 := hu_of 0 d 0 hd (by omega) (by omega)
    omega
  omega
theorem hu_ge_of {n d B : Int} (hd : 0 < d) (h : B * d ≤ n) : B ≤ hu n d := by
  have h1 := hu_mono hd h
  have h2 : hu (B * d) d = B := by
    have := hu_add B 0 d hd
    rw [Int.add_zero] at this
    rw [this]
    have h0 : hu 0 d = 0 := hu_of 0 d 0 hd (by omega) (by omega)
    omega
  omega
/-- From either end the same. -/
theorem atV_symm {a b p q n : Int} (h : p ≠ q) : atV a b p q n = atV b a q p n := by
  unfold atV
  have e1 : a * (q - n) + b * (n - p) = -(b * (p - n) + a * (n - q)) := by
    have x1 : a * (q - n) = -(a * (n - q)) := by rw [← Int.mul_neg]; congr 1; omega
    have x2 : b * (n - p) = -(b * (p - n)) := by rw [← Int.mul_neg]; congr 1; omega
    omega
  by_cases c : q - p < 0
  · rw [if_pos c, if_neg (by omega), e1, Int.neg_neg, show -(q - p) = p - q by omega]
  · rw [if_neg c, if_pos (by omega), e1, show -(p - q) = q - p by omega]
/-- The ends. -/
theorem atV_begin {a b p q : Int} (h : p ≠ q) : atV a b p q p = a := by
  rw [atV_eq h]
  rw [Int.sub_self, Int.mul_zero, Int.neg_zero]
  split
  · have h0 : hu 0 (-(q - p)) = 0 := hu_of 0 _ 0 (by omega) (by omega) (by omega)
    omega
  · have h0 : hu 0 (q - p) = 0 := hu_of 0 _ 0 (by omega) (by omega) (by omega)
    omega
theorem atV_end {a b p q : Int} (h : p ≠ q) : atV a b p q q = b := by
  rw [atV_symm h]; exact atV_begin (fun e => h e.symm)
/-- On the way from p to q the line goes from a to b, and never back. -/
theorem atV_mono {a b p q n m : Int} (hpq : p < q) (hab : a ≤ b) (h : n ≤ m) : atV a b p q n ≤ atV a b p q m := by
  rw [atV_eq (by omega), atV_eq (by omega), if_neg (by omega), if_neg (by omega)]
  have := Int.mul_le_mul_of_nonneg_left (show n - p ≤ m - p by omega) (show 0 ≤ b - a by omega)
  have := hu_mono (show 0 < q - p by omega) this
  omega
theorem atV_anti {a b p q n m : Int} (hpq : p < q) (hab : b ≤ a) (h : n ≤ m) : atV a b p q m ≤ atV a b p q n := by
  rw [atV_eq (by omega), atV_eq (by omega), if_neg (by omega), if_neg (by omega)]
  have h1 := Int.mul_le_mul_of_nonneg_left (show n - p ≤ m - p by omega) (show 0 ≤ a - b by omega)
  have e1 : (b - a) * (n - p) = -((a - b) * (n - p)) := by rw [← Int.neg_mul]; congr 1; omega
  have e2 : (b - a) * (m - p) = -((a - b) * (m - p)) := by rw [← Int.neg_mul]; congr 1; omega
  have := hu_mono (n := (b - a) * (m - p)) (m := (b - a) * (n - p)) (show 0 < q - p by omega) (by omega)
  omega
/-- And stays between. -/
theorem atV_in {a b p q n : Int} (hab : a ≤ b) (hpq : p < q) (h1 : p ≤ n) (h2 : n ≤ q) : a ≤ atV a b p q n ∧ atV a b p q n ≤ b := by
  have x := atV_mono (a := a) (b := b) hpq hab h1
  have y := atV_mono (a := a) (b := b) hpq hab h2
  rw [atV_begin (by omega)] at x
  rw [atV_end (by omega)] at y
  exact ⟨x, y⟩
end Num
end Go.Proofs.Ytkhcjkmifddlbab

/- AreaB -/
namespace Go.Proofs.Ytkhcjkmifddlbab
namespace Num

theorem clip_lo {v lo hi : Int} (h : v ≤ lo) : clipV v lo hi = lo := by unfold clipV gr lsV; split <;> split at * <;> omega
theorem clip_hi {v lo hi : Int} (h : hi ≤ v) (h2 : lo ≤ hi) : clipV v lo hi = hi := by unfold clipV gr lsV; split <;> split at * <;> omega
theorem clip_mid {v lo hi : Int} (h : lo ≤ v) (h2 : v ≤ hi) : clipV v lo hi = v := by unfold clipV gr lsV; split <;> split at * <;> omega
theorem clip_up {v lo lo' hi : Int} (h : lo ≤ lo') (h1 : lo' ≤ v) (h2 : lo' ≤ hi) : clipV v lo hi = clipV v lo' hi := by
  unfold clipV gr lsV; repeat' split
  all_goals omega
theorem clip_dn {v lo hi hi' : Int} (h : hi' ≤ hi) (h1 : v ≤ hi') : clipV v lo hi = clipV v lo hi' := by
  unfold clipV gr lsV; repeat' split
  all_goals omega
theorem cl_far {v : Int} (h : 64 ≤ v) : cl v = 64 := by
  unfold cl; repeat' split
  all_goals omega
theorem cl_none {v : Int} (h : v ≤ 0) : cl v = 0 := by
  unfold cl; repeat' split
  all_goals omega
theorem cl_in {v : Int} (h : 0 ≤ v) (h2 : v ≤ 64) : cl v = v := by
  unfold cl; repeat' split
  all_goals omega

/-- No line strictly between. -/
def noLine (x y : Int) : Prop := ∀ k : Int, ¬ (x < 64 * k ∧ 64 * k < y)
/-- From x to the right, to the left, from line to line. -/
def StepsU : Int → List Int → Prop
  | _, [] => True
  | x, y :: r => x < y ∧ noLine x y ∧ (r = [] ∨ ∃ k : Int, y = 64 * k) ∧ StepsU y r
def StepsD : Int → List Int → Prop
  | _, [] => True
  | x, y :: r => y < x ∧ noLine y x ∧ (r = [] ∨ ∃ k : Int, y = 64 * k) ∧ StepsD y r
def lastI (x : Int) : List Int → Int
  | [] => x
  | y :: r => lastI y r
theorem lastU : ∀ l x, StepsU x l → x ≤ lastI x l := by
  intro l
  induction l with
  | nil => intro x _; exact Int.le_refl _
  | cons y r ih => intro x h; have := ih y h.2.2.2; have := h.1; simp only [lastI]; omega
theorem lastD : ∀ l x, StepsD x l → lastI x l ≤ x := by
  intro l
  induction l with
  | nil => intro x _; exact Int.le_refl _
  | cons y r ih => intro x h; have := ih y h.2.2.2; have := h.1; simp only [lastI]; omega
/-- The pieces' sum, the height a function of x. -/
def sumY (Y : Int → Int) (i : Int) : Int → List Int → Int
  | _, [] => 0
  | x, y :: r => (Y y - Y x) * (cl (64 * i + 64 - x) + cl (64 * i + 64 - y)) + sumY Y i y r
/-- The document's, from lo to hi. -/
def formY (Y : Int → Int) (i lo hi : Int) : Int :=
  128 * (Y (clipV (64 * i) lo hi) - Y lo) + (Y (clipV (64 * i + 64) lo hi) - Y (clipV (64 * i) lo hi)) * (64 * i + 64 - clipV (64 * i) lo hi + (64 * i + 64) - clipV (64 * i + 64) lo hi)

theorem formY_self (Y : Int → Int) (i x : Int) : formY Y i x x = 0 := by
  have h : ∀ v, clipV v x x = x := by intro v; unfold clipV gr lsV; repeat' split
                                      all_goals omega
  unfold formY; rw [h, h, Int.sub_self, Int.zero_mul]; omega

theorem sumU (Y : Int → Int) (i : Int) : ∀ l x, StepsU x l → sumY Y i x l = formY Y i x (lastI x l) := by
  intro l
  induction l with
  | nil => intro x _; simp only [sumY, lastI, formY_self]
  | cons y r ih =>
    intro x h
    obtain ⟨hxy', hn, hr, hs⟩ := h
    have hxy := Int.le_of_lt hxy'
    have hl := lastU r y hs
    simp only [sumY, lastI, ih y hs]
    generalize hz : lastI y r = z at *
    have n1 := hn i
    have n2 := hn (i + 1)
    by_cases c1 : y ≤ 64 * i
    · unfold formY
      rw [clip_up (v := 64 * i) hxy c1 hl, clip_up (v := 64 * i + 64) hxy (by omega) hl, cl_far (by omega), cl_far (by omega)]
      generalize (Y (clipV (64 * i + 64) y z) - Y (clipV (64 * i) y z)) * _ = M
      omega
    · have hx : 64 * i ≤ x := by omega
      by_cases c2 : 64 * i + 64 < y
      · have hx2 : 64 * i + 64 ≤ x := by omega
        unfold formY
        rw [clip_lo (v := 64 * i) (lo := y) (by omega), clip_lo (v := 64 * i + 64) (lo := y) (by omega), clip_lo (v := 64 * i) (lo := x) (by omega), clip_lo (v := 64 * i + 64) (lo := x) (by omega), cl_none (by omega), cl_none (by omega)]
        simp only [Int.sub_self, Int.zero_mul, Int.mul_zero, Int.add_zero]
      · have hR : clipV (64 * i + 64) x z = y ∧ formY Y i y z = 0 := by
          rcases hr with hr | ⟨k, hk⟩
          · subst hr
            simp only [lastI] at hz
            subst hz
            exact ⟨clip_hi (by omega) hxy, formY_self _ _ _⟩
          · have : y = 64 * i + 64 := by omega
            refine ⟨by rw [← this]; exact clip_mid hxy hl, ?_⟩
            unfold formY
            rw [clip_lo (v := 64 * i) (lo := y) (by omega), clip_lo (v := 64 * i + 64) (lo := y) (by omega)]
            simp only [Int.sub_self, Int.zero_mul, Int.mul_zero, Int.add_zero]
        rw [hR.2]
        unfold formY
        rw [hR.1, clip_lo (v := 64 * i) (lo := x) (by omega), cl_in (by omega) (by omega), cl_in (by omega) (by omega)]
        rw [show 64 * i + 64 - x + (64 * i + 64) - y = 64 * i + 64 - x + (64 * i + 64 - y) by omega]
        generalize (Y y - Y x) * _ = M
        omega

theorem sumD (Y : Int → Int) (i : Int) : ∀ l x, StepsD x l → sumY Y i x l = -formY Y i (lastI x l) x := by
  intro l
  induction l with
  | nil => intro x _; simp only [sumY, lastI, formY_self, Int.neg_zero]
  | cons y r ih =>
    intro x h
    obtain ⟨hxy', hn, hr, hs⟩ := h
    have hxy := Int.le_of_lt hxy'
    have hl := lastD r y hs
    simp only [sumY, lastI, ih y hs]
    generalize hz : lastI y r = z at *
    have n1 := hn i
    have n2 := hn (i + 1)
    by_cases c1 : 64 * i + 64 ≤ y
    · unfold formY
      rw [clip_dn (v := 64 * i) hxy (by omega), clip_dn (v := 64 * i + 64) hxy (by omega), cl_none (by omega), cl_none (by omega)]
      generalize (Y (clipV (64 * i + 64) z y) - Y (clipV (64 * i) z y)) * _ = M
      omega
    · have hx : x ≤ 64 * i + 64 := by omega
      by_cases c2 : x ≤ 64 * i
      · unfold formY
        rw [clip_hi (v := 64 * i) (hi := y) (by omega) hl, clip_hi (v := 64 * i + 64) (hi := y) (by omega) hl, clip_hi (v := 64 * i) (hi := x) (by omega) (by omega), clip_hi (v := 64 * i + 64) (hi := x) (by omega) (by omega), cl_far (by omega), cl_far (by omega)]
        simp only [Int.sub_self, Int.zero_mul, Int.add_zero]
        omega
      · have hy : 64 * i ≤ y := by omega
        have hR : clipV (64 * i) z x = y ∧ clipV (64 * i) z y = y := by
          rcases hr with hr | ⟨k, hk⟩
          · subst hr
            simp only [lastI] at hz
            subst hz
            exact ⟨clip_lo (by omega), clip_lo (by omega)⟩
          · have : y = 64 * i := by omega
            exact ⟨by rw [← this]; exact clip_mid hl hxy, clip_hi (by omega) hl⟩
        unfold formY
        rw [hR.1, hR.2, clip_hi (v := 64 * i + 64) (hi := y) (by omega) hl, clip_hi (v := 64 * i + 64) (hi := x) (by omega) (by omega), cl_in (by omega) (by omega), cl_in (by omega) (by omega)]
        rw [show 64 * i + 64 - y + (64 * i + 64) - x = 64 * i + 64 - x + (64 * i + 64 - y) by omega]
        rw [show Y y - Y x = -(Y x - Y y) by omega, Int.neg_mul, Int.sub_self, Int.zero_mul]
        generalize (Y x - Y y) * _ = M
        omega

/-- A chord's pieces, the height by a function. -/
theorem sumP_Y (Y : Int → Int) (i j : Int) : ∀ (l : List Int) (x : Int), 64 * j ≤ Y x ∧ Y x ≤ 64 * j + 64 → (∀ v ∈ l, 64 * j ≤ Y v ∧ Y v ≤ 64 * j + 64) → sumP i j x (Y x) (l.map fun v => (v, Y v)) = sumY Y i x l := by
  intro l
  induction l with
  | nil => intro x _ _; rfl
  | cons v r ih =>
    intro x hx hl
    have hv := hl v (by simp)
    have c : inRow j (Y x) (Y v) = true := by unfold inRow; simp; omega
    simp only [List.map_cons, sumP, sumY, c, if_true, ih v hv (fun u hu => hl u (by simp [hu])), pieceA]

/-- The lines between, one by one. -/
theorem stepsU_go {p q : Int} : ∀ m s x, p ≤ x → x < q → (∀ k : Int, x < 64 * k → 64 * k < q → upK s ≤ 64 * k ∧ 64 * k < upK (s + m)) → (∀ k, s ≤ k → p < upK k → x < upK k) →
    StepsU x (((List.range' s m).filter fun k => decide (p < upK k) && decide (upK k < q)).map upK ++ [q]) := by
  intro m
  induction m with
  | zero =>
    intro s x _ hxq hk _
    refine ⟨hxq, fun k h => ?_, .inl rfl, trivial⟩
    have := hk k h.1 h.2
    simp only [Nat.add_zero] at this
    omega
  | succ m ih =>
    intro s x hpx hxq hk hs
    rw [List.range'_succ]
    by_cases c : p < upK s ∧ upK s < q
    · rw [List.filter_cons_of_pos (by simp [c.1, c.2])]
      have hxs := hs s (Nat.le_refl _) c.1
      refine ⟨hxs, fun k h => ?_, .inr ⟨(s : Int) - 256, rfl⟩, ?_⟩
      · have := hk k h.1 (by omega)
        omega
      · apply ih (s + 1) (upK s) (by omega) (by omega)
        · intro k h1 h2
          have h3 := hk k (by omega) h2
          have e : s + 1 + m = s + (m + 1) := by omega
          rw [e]
          refine ⟨?_, h3.2⟩
          unfold upK at h1 ⊢
          omega
        · intro k hk2 _
          unfold upK
          omega
    · rw [List.filter_cons_of_neg (by simp; omega)]
      apply ih (s + 1) x hpx hxq
      · intro k h1 h2
        have h3 := hk k h1 h2
        have e : s + 1 + m = s + (m + 1) := by omega
        rw [e]
        refine ⟨?_, h3.2⟩
        unfold upK at h3 c ⊢
        omega
      · intro k hk2 h; exact hs k (by omega) h
theorem stepsD_go {p q : Int} : ∀ m s x, x ≤ p → q < x → (∀ k : Int, q < 64 * k → 64 * k < x → 64 * k ≤ dnK s ∧ dnK (s + m) < 64 * k) → (∀ k, s ≤ k → dnK k < p → dnK k < x) →
    StepsD x (((List.range' s m).filter fun k => decide (dnK k < p) && decide (q < dnK k)).map dnK ++ [q]) := by
  intro m
  induction m with
  | zero =>
    intro s x _ hxq hk _
    refine ⟨hxq, fun k h => ?_, .inl rfl, trivial⟩
    have := hk k h.1 h.2
    simp only [Nat.add_zero] at this
    omega
  | succ m ih =>
    intro s x hpx hxq hk hs
    rw [List.range'_succ]
    by_cases c : dnK s < p ∧ q < dnK s
    · rw [List.filter_cons_of_pos (by simp [c.1, c.2])]
      have hxs := hs s (Nat.le_refl _) c.1
      refine ⟨hxs, fun k h => ?_, .inr ⟨256 - (s : Int), rfl⟩, ?_⟩
      · have := hk k (by omega) h.2
        omega
      · apply ih (s + 1) (dnK s) (by omega) (by omega)
        · intro k h1 h2
          have h3 := hk k h1 (by omega)
          have e : s + 1 + m = s + (m + 1) := by omega
          rw [e]
          refine ⟨?_, h3.2⟩
          unfold dnK at h2 ⊢
          omega
        · intro k hk2 _
          unfold dnK
          omega
    · rw [List.filter_cons_of_neg (by simp; omega)]
      apply ih (s + 1) x hpx hxq
      · intro k h1 h2
        have h3 := hk k h1 h2
        have e : s + 1 + m = s + (m + 1) := by omega
        rw [e]
        refine ⟨?_, h3.2⟩
        unfold dnK at h3 c ⊢
        omega
      · intro k hk2 h; exact hs k (by omega) h
theorem steps_up {p q : Int} (h : p < q) (hp : -16384 ≤ p) (hq : q ≤ 16384) {l : List Int} (hl : l = linesV p q ++ [q]) : StepsU p l := by
  unfold linesV at hl
  rw [dnR_none _ (Int.le_of_lt h), List.append_nil] at hl
  unfold upR at hl
  rw [List.range_eq_range'] at hl
  revert hl
  generalize hm : (513 : Nat) = m
  intro hl
  rw [hl]
  apply stepsU_go m 0 p (Int.le_refl _) h
  · subst hm
    intro k h1 h2; unfold upK; simp; omega
  · intro k _ h; exact h
theorem steps_dn {p q : Int} (h : q < p) (hp : p ≤ 16384) (hq : -16384 ≤ q) {l : List Int} (hl : l = linesV p q ++ [q]) : StepsD p l := by
  unfold linesV at hl
  rw [upR_none _ (Int.le_of_lt h), List.nil_append] at hl
  unfold dnR at hl
  rw [List.range_eq_range'] at hl
  revert hl
  generalize hm : (513 : Nat) = m
  intro hl
  rw [hl]
  apply stepsD_go m 0 p (Int.le_refl _) h
  · subst hm
    intro k h1 h2; unfold dnK; simp; omega
  · intro k _ h; exact h
theorem lastI_snoc (l : List Int) (q : Int) : ∀ x, lastI x (l ++ [q]) = q := by
  induction l with
  | nil => intro x; rfl
  | cons u r ih => intro x; simp only [List.cons_append, lastI, ih]
theorem sum_up (Y : Int → Int) (i : Int) {p q : Int} (h : p < q) (hp : -16384 ≤ p) (hq : q ≤ 16384) : sumY Y i p (linesV p q ++ [q]) = formY Y i p q := by
  generalize hl : linesV p q ++ [q] = l
  rw [sumU Y i l p (steps_up h hp hq hl.symm), ← hl, lastI_snoc]
theorem sum_dn (Y : Int → Int) (i : Int) {p q : Int} (h : q < p) (hp : p ≤ 16384) (hq : -16384 ≤ q) : sumY Y i p (linesV p q ++ [q]) = -formY Y i q p := by
  generalize hl : linesV p q ++ [q] = l
  rw [sumD Y i l p (steps_dn h hp hq hl.symm), ← hl, lastI_snoc]
end Num
end Go.Proofs.Ytkhcjkmifddlbab

/- AreaC -/
namespace Go.Proofs.Ytkhcjkmifddlbab
namespace Num

theorem sz_pos {n : Int} (h : 0 ≤ n) : sz n = n := by unfold sz; split <;> omega
theorem sz_neg {n : Int} (h : n ≤ 0) : sz n = -n := by unfold sz; split <;> omega
theorem clip_le {lo hi v w : Int} (h : v ≤ w) : clipV v lo hi ≤ clipV w lo hi := by
  unfold clipV gr lsV; repeat' split
  all_goals omega
theorem clip_ge (lo hi v : Int) : lo ≤ clipV v lo hi := by
  unfold clipV gr lsV; repeat' split
  all_goals omega
theorem reach_eq {lo hi ylo yhi x : Int} (h : lo < hi) : reachV lo ylo hi yhi x = atV ylo yhi lo hi (clipV x lo hi) := by
  unfold reachV
  split
  · rename_i c; rw [clip_lo c, atV_begin (by omega)]
  · split
    · rename_i c; rw [clip_hi c (by omega), atV_end (by omega)]
    · rw [clip_mid (by omega) (by omega)]
/-- The document's part, its ends from the left to the right. -/
def docG (lo ylo hi yhi i : Int) : Int :=
  128 * sz (reachV lo ylo hi yhi (64 * i) - ylo) + sz (reachV lo ylo hi yhi (64 * i + 64) - reachV lo ylo hi yhi (64 * i)) * (64 * i + 64 - clipV (64 * i) lo hi + (64 * i + 64) - clipV (64 * i + 64) lo hi)
theorem partV_eq (ax ay bx b2 i : Int) : partV ax ay bx b2 i = if bx < ax then docG bx b2 ax ay i else docG ax ay bx b2 i := rfl
theorem docG_up {lo hi ylo yhi : Int} (i : Int) (h : lo < hi) (hy : ylo ≤ yhi) : docG lo ylo hi yhi i = formY (atV ylo yhi lo hi) i lo hi := by
  unfold docG formY
  rw [reach_eq h, reach_eq h]
  have m1 := atV_mono h hy (clip_ge lo hi (64 * i))
  have m2 := atV_mono h hy (clip_le (lo := lo) (hi := hi) (show 64 * i ≤ 64 * i + 64 by omega))
  rw [atV_begin (show lo ≠ hi by omega)] at m1 ⊢
  rw [sz_pos (by omega), sz_pos (by omega)]
theorem docG_dn {lo hi ylo yhi : Int} (i : Int) (h : lo < hi) (hy : yhi ≤ ylo) : docG lo ylo hi yhi i = -formY (atV ylo yhi lo hi) i lo hi := by
  unfold docG formY
  rw [reach_eq h, reach_eq h]
  have m1 := atV_anti h hy (clip_ge lo hi (64 * i))
  have m2 := atV_anti h hy (clip_le (lo := lo) (hi := hi) (show 64 * i ≤ 64 * i + 64 by omega))
  rw [atV_begin (show lo ≠ hi by omega)] at m1 ⊢
  rw [sz_neg (by omega), sz_neg (by omega), Int.neg_mul]
  omega
theorem atV_rng {a b p q n lo hi : Int} (h : (p ≤ n ∧ n ≤ q ∧ p < q) ∨ (q ≤ n ∧ n ≤ p ∧ q < p)) (ha : lo ≤ a ∧ a ≤ hi) (hb : lo ≤ b ∧ b ≤ hi) : lo ≤ atV a b p q n ∧ atV a b p q n ≤ hi := by
  have key : ∀ {a b p q : Int}, p ≤ n → n ≤ q → p < q → lo ≤ a ∧ a ≤ hi → lo ≤ b ∧ b ≤ hi → lo ≤ atV a b p q n ∧ atV a b p q n ≤ hi := by
    intro a b p q h1 h2 h3 ha hb
    rcases Int.le_total a b with c | c
    · have := atV_in c h3 h1 h2; omega
    · have x := atV_anti h3 c h1
      have y := atV_anti h3 c h2
      rw [atV_begin (by omega)] at x
      rw [atV_end (by omega)] at y
      omega
  rcases h with ⟨h1, h2, h3⟩ | ⟨h1, h2, h3⟩
  · exact key h1 h2 h3 ha hb
  · rw [atV_symm (by omega)]; exact key h1 h2 h3 hb ha

/-- A piece within row j. -/
theorem cols_part {px py qx qy : Int} (i j : Int) (hp : -16384 ≤ px ∧ px ≤ 16384) (hq : -16384 ≤ qx ∧ qx ≤ 16384) (h1 : 64 * j ≤ py ∧ py ≤ 64 * j + 64) (h2 : 64 * j ≤ qy ∧ qy ≤ 64 * j + 64) :
    sumP i j px py (colsV px py qx qy ++ [(qx, qy)]) = if qy < py then -partV qx qy px py i else partV px py qx qy i := by
  have glue : px ≠ qx → sumP i j px py (colsV px py qx qy ++ [(qx, qy)]) = sumY (atV py qy px qx) i px (linesV px qx ++ [qx]) := by
    intro hne
    rw [← sumP_Y (atV py qy px qx) i j]
    · rw [atV_begin hne, List.map_append, List.map_cons, List.map_nil, atV_end hne]; rfl
    · rw [atV_begin hne]; exact h1
    · intro v hv
      rw [List.mem_append] at hv
      rcases hv with hv | hv
      · have := linesV_mem hv
        exact atV_rng (by omega) h1 h2
      · rw [List.mem_singleton] at hv; subst hv
        rw [atV_end hne]; exact h2
  rcases Int.lt_trichotomy px qx with c | c | c
  · rw [glue (by omega), sum_up _ i c hp.1 hq.2]
    by_cases d : qy < py
    · rw [if_pos d, partV_eq, if_pos c, docG_dn i c (by omega)]; omega
    · rw [if_neg d, partV_eq, if_neg (by omega), docG_up i c (by omega)]
  · subst c
    have e : colsV px py px qy = [] := by unfold colsV linesV; rw [upR_none _ (Int.le_refl _), dnR_none _ (Int.le_refl _)]; rfl
    have r : inRow j py qy = true := by unfold inRow; simp; omega
    rw [e]
    simp only [List.nil_append, sumP, r, if_true, pieceA, Int.add_zero]
    rw [partV_eq, partV_eq, if_neg (Int.lt_irrefl _), if_neg (Int.lt_irrefl _)]
    have k : ∀ a b : Int, a ≤ b → docG px a px b i = (b - a) * (cl (64 * i + 64 - px) + cl (64 * i + 64 - px)) := by
      intro a b hab
      have hc : ∀ v, clipV v px px = px := by
        intro v; unfold clipV gr lsV; repeat' split
        all_goals omega
      unfold docG
      rw [hc, hc]
      unfold reachV
      by_cases c1 : 64 * i ≤ px
      · rw [if_pos c1]
        by_cases c2 : 64 * i + 64 ≤ px
        · rw [if_pos c2, cl_none (by omega), Int.sub_self, sz_pos (Int.le_refl _), Int.zero_mul]; omega
        · rw [if_neg c2, if_pos (by omega), cl_in (by omega) (by omega), Int.sub_self, sz_pos (Int.le_refl _), sz_pos (by omega)]
          rw [show 64 * i + 64 - px + (64 * i + 64) - px = 64 * i + 64 - px + (64 * i + 64 - px) by omega]
          omega
      · rw [if_neg c1, if_pos (by omega), if_neg (by omega), if_pos (by omega), cl_far (by omega), sz_pos (by omega), Int.sub_self, sz_pos (Int.le_refl _), Int.zero_mul]; omega
    split
    · rw [k qy py (by omega), ← Int.neg_mul, show -(py - qy) = qy - py by omega]
    · rw [k py qy (by omega)]
  · rw [glue (by omega), sum_dn _ i c hp.2 hq.1]
    have e : formY (atV py qy px qx) i qx px = formY (atV qy py qx px) i qx px := by
      have : atV py qy px qx = atV qy py qx px := by funext n; exact atV_symm (by omega)
      rw [this]
    rw [e]
    by_cases d : qy < py
    · rw [if_pos d, partV_eq, if_neg (by omega), docG_up i c (by omega)]
    · rw [if_neg d, partV_eq, if_pos c, docG_dn i c (by omega)]
/-- A piece of another row. -/
theorem cols_other {px py qx qy : Int} (i j k : Int) (hj : j ≠ k) (h1 : 64 * k ≤ py ∧ py ≤ 64 * k + 64) (h2 : 64 * k ≤ qy ∧ qy ≤ 64 * k + 64) :
    sumP i j px py (colsV px py qx qy ++ [(qx, qy)]) = 0 := by
  have key : ∀ (l : List (Int × Int)) x y, 64 * k ≤ y ∧ y ≤ 64 * k + 64 → (∀ t ∈ l, 64 * k ≤ t.2 ∧ t.2 ≤ 64 * k + 64) → sumP i j x y l = 0 := by
    intro l
    induction l with
    | nil => intro x y _ _; rfl
    | cons t r ih =>
      intro x y hy hl
      have ht := hl t (by simp)
      simp only [sumP, ih t.1 t.2 ht (fun u hu => hl u (by simp [hu])), Int.add_zero]
      split
      · rename_i c
        have : y = t.2 := by unfold inRow at c; simp at c; omega
        unfold pieceA; rw [this, Int.sub_self, Int.zero_mul]
      · rfl
  apply key _ _ _ h1
  intro t ht
  rw [List.mem_append] at ht
  rcases ht with ht | ht
  · unfold colsV at ht
    rw [List.mem_map] at ht
    obtain ⟨v, hv, rfl⟩ := ht
    have := linesV_mem hv
    exact atV_rng (by omega) h1 h2
  · rw [List.mem_singleton] at ht; subst ht; exact h2
end Num
end Go.Proofs.Ytkhcjkmifddlbab

/- AreaD -/
namespace Go.Proofs.Ytkhcjkmifddlbab
namespace Num

/-- From row line to row line. -/
def sumR (X : Int → Int) (i j : Int) : Int → List Int → Int
  | _, [] => 0
  | y, v :: r => sumP i j (X y) y (colsV (X y) y (X v) v ++ [(X v, v)]) + sumR X i j v r
theorem sumP_R (X : Int → Int) (i j : Int) : ∀ l y, sumP i j (X y) y (cutF (X y) y (l.map fun v => (X v, v))) = sumR X i j y l := by
  intro l
  induction l with
  | nil => intro y; rfl
  | cons v r ih =>
    intro y
    simp only [List.map_cons, cutF, sumR]
    rw [show colsV (X y) y (X v) v ++ (X v, v) :: cutF (X v) v (r.map fun v => (X v, v)) = (colsV (X y) y (X v) v ++ [(X v, v)]) ++ cutF (X v) v (r.map fun v => (X v, v)) by simp, sumP_append, lastS_snoc, ih]
/-- The document's, from lo to hi. -/
def rowF (X : Int → Int) (i j lo hi : Int) : Int :=
  if lsV hi (64 * j + 64) ≤ gr lo (64 * j) then 0 else partV (X (gr lo (64 * j))) (gr lo (64 * j)) (X (lsV hi (64 * j + 64))) (lsV hi (64 * j + 64)) i
theorem gr_l {a b : Int} (h : b ≤ a) : gr a b = a := by unfold gr; split <;> omega
theorem gr_r {a b : Int} (h : a ≤ b) : gr a b = b := by unfold gr; split <;> omega
theorem ls_l {a b : Int} (h : a ≤ b) : lsV a b = a := by unfold lsV; split <;> omega
theorem ls_r {a b : Int} (h : b ≤ a) : lsV a b = b := by unfold lsV; split <;> omega
theorem gr_ge (a b : Int) : a ≤ gr a b ∧ b ≤ gr a b := by unfold gr; split <;> omega
theorem ls_le (a b : Int) : lsV a b ≤ a ∧ lsV a b ≤ b := by unfold lsV; split <;> omega

theorem rowsU (X : Int → Int) (i j : Int) : ∀ l y, StepsU y l → (∀ v ∈ y :: l, -16384 ≤ X v ∧ X v ≤ 16384) → sumR X i j y l = rowF X i j y (lastI y l) := by
  intro l
  induction l with
  | nil =>
    intro y _ _
    have h1 := ls_le y (64 * j + 64)
    have h2 := gr_ge y (64 * j)
    simp only [sumR, lastI]
    unfold rowF
    rw [if_pos (by omega)]
  | cons v r ih =>
    intro y h hX
    obtain ⟨hyv, hn, hr, hs⟩ := h
    have hl := lastU r v hs
    simp only [sumR, lastI, ih v hs (fun u hu => hX u (by simp at hu ⊢; exact .inr hu))]
    have xy := hX y (by simp)
    have xv := hX v (by simp)
    generalize hz : lastI v r = z at *
    have hk1 : 64 * (y / 64) ≤ y := by omega
    have hk2 : y < 64 * (y / 64) + 64 := by omega
    have hk3 : v ≤ 64 * (y / 64) + 64 := by have := hn (y / 64 + 1); omega
    generalize y / 64 = k at hk1 hk2 hk3
    rcases Int.lt_trichotomy k j with c | c | c
    · rw [cols_other i j k (by omega) (by omega) (by omega), Int.zero_add]
      unfold rowF
      rw [gr_r (show v ≤ 64 * j by omega), gr_r (show y ≤ 64 * j by omega)]
    · subst c
      rw [cols_part i k xy xv (by omega) (by omega), if_neg (by omega)]
      have e : lsV z (64 * k + 64) = v := by
        rcases hr with hr | ⟨m, hm⟩
        · subst hr; simp only [lastI] at hz; subst hz; exact ls_l (by omega)
        · rw [ls_r (by omega)]; omega
      have g := gr_ge v (64 * k)
      unfold rowF
      rw [e, if_pos g.1, gr_l hk1, if_neg (by omega), Int.add_zero]
    · rw [cols_other i j k (by omega) (by omega) (by omega), Int.zero_add]
      unfold rowF
      have h1 := ls_le z (64 * j + 64)
      have h2 := gr_ge y (64 * j)
      have h3 := gr_ge v (64 * j)
      rw [if_pos (by omega), if_pos (by omega)]
theorem rowsD (X : Int → Int) (i j : Int) : ∀ l y, StepsD y l → (∀ v ∈ y :: l, -16384 ≤ X v ∧ X v ≤ 16384) → sumR X i j y l = -rowF X i j (lastI y l) y := by
  intro l
  induction l with
  | nil =>
    intro y _ _
    have h1 := ls_le y (64 * j + 64)
    have h2 := gr_ge y (64 * j)
    simp only [sumR, lastI]
    unfold rowF
    rw [if_pos (by omega), Int.neg_zero]
  | cons v r ih =>
    intro y h hX
    obtain ⟨hyv, hn, hr, hs⟩ := h
    have hl := lastD r v hs
    simp only [sumR, lastI, ih v hs (fun u hu => hX u (by simp at hu ⊢; exact .inr hu))]
    have xy := hX y (by simp)
    have xv := hX v (by simp)
    generalize hz : lastI v r = z at *
    have hk1 : 64 * ((y - 1) / 64) < y := by omega
    have hk2 : y ≤ 64 * ((y - 1) / 64) + 64 := by omega
    have hk3 : 64 * ((y - 1) / 64) ≤ v := by have := hn ((y - 1) / 64); omega
    generalize (y - 1) / 64 = k at hk1 hk2 hk3
    rcases Int.lt_trichotomy k j with c | c | c
    · rw [cols_other i j k (by omega) (by omega) (by omega), Int.zero_add]
      unfold rowF
      have h1 := gr_ge z (64 * j)
      have h2 := ls_le y (64 * j + 64)
      have h3 := ls_le v (64 * j + 64)
      rw [if_pos (by omega), if_pos (by omega)]
    · subst c
      rw [cols_part i k xy xv (by omega) (by omega), if_pos hyv]
      have e : gr z (64 * k) = v := by
        rcases hr with hr | ⟨m, hm⟩
        · subst hr; simp only [lastI] at hz; subst hz; exact gr_l (by omega)
        · rw [gr_r (by omega)]; omega
      have g := ls_le v (64 * k + 64)
      unfold rowF
      rw [e, if_pos g.1, ls_l hk2, if_neg (by omega), Int.neg_zero, Int.add_zero]
    · rw [cols_other i j k (by omega) (by omega) (by omega), Int.zero_add]
      unfold rowF
      rw [ls_r (show 64 * j + 64 ≤ v by omega), ls_r (show 64 * j + 64 ≤ y by omega)]

/-- A chord's pieces, at a pixel. -/
theorem chord_sum {ax ay bx b2 : Int} (i j : Int) (ha : inB ax ay = true) (hb : inB bx b2 = true) :
    sumP i j ax ay (cutF ax ay (rowsV ax ay bx b2 ++ [(bx, b2)])) = chordV ax ay bx b2 i j := by
  have a := inB_yes ha
  have b := inB_yes hb
  have glue : ay ≠ b2 → sumP i j ax ay (cutF ax ay (rowsV ax ay bx b2 ++ [(bx, b2)])) = sumR (atV ax bx ay b2) i j ay (linesV ay b2 ++ [b2]) := by
    intro hne
    rw [← sumP_R, atV_begin hne, List.map_append, List.map_cons, List.map_nil, atV_end hne]; rfl
  have rng : ay ≠ b2 → ∀ l, l = linesV ay b2 ++ [b2] → ∀ v ∈ ay :: l, -16384 ≤ atV ax bx ay b2 v ∧ atV ax bx ay b2 v ≤ 16384 := by
    intro hne l hl v hv
    rw [List.mem_cons, hl, List.mem_append, List.mem_singleton] at hv
    apply atV_rng _ (by omega) (by omega)
    rcases hv with hv | hv | hv
    · omega
    · have := linesV_mem hv; omega
    · omega
  rcases Int.lt_trichotomy ay b2 with c | c | c
  · rw [glue (by omega)]
    have r := rng (by omega)
    generalize hl : linesV ay b2 ++ [b2] = l
    rw [rowsU _ i j l ay (steps_up c (by omega) (by omega) hl.symm) (r l hl.symm), ← hl, lastI_snoc]
    unfold chordV
    rw [if_neg (by omega)]; rfl
  · subst c
    have e : rowsV ax ay bx ay = [] := by unfold rowsV linesV; rw [upR_none _ (Int.le_refl _), dnR_none _ (Int.le_refl _)]; rfl
    have z : ∀ (l : List (Int × Int)) x, (∀ t ∈ l, t.2 = ay) → sumP i j x ay l = 0 := by
      intro l
      induction l with
      | nil => intro x _; rfl
      | cons t r ih =>
        intro x h
        have ht := h t (by simp)
        simp only [sumP]
        rw [ht, ih t.1 (fun u hu => h u (by simp [hu]))]
        unfold pieceA
        rw [Int.sub_self, Int.zero_mul]
        split <;> rfl
    rw [e, z]
    · unfold chordV downV
      have h1 := ls_le ay (64 * j + 64)
      have h2 := gr_ge ay (64 * j)
      rw [if_neg (Int.lt_irrefl _), if_pos (by omega)]
    · intro t ht
      rw [List.nil_append] at ht
      simp only [cutF, List.mem_append, List.mem_singleton] at ht
      rcases ht with ht | ht
      · unfold colsV at ht
        rw [List.mem_map] at ht
        obtain ⟨v, hv, rfl⟩ := ht
        have := linesV_mem hv
        have := atV_rng (a := ay) (b := ay) (p := ax) (q := bx) (n := v) (lo := ay) (hi := ay) (by omega) (by omega) (by omega)
        show atV ay ay ax bx v = ay
        omega
      · rw [ht]
  · rw [glue (by omega)]
    have r := rng (by omega)
    generalize hl : linesV ay b2 ++ [b2] = l
    rw [rowsD _ i j l ay (steps_dn c (by omega) (by omega) hl.symm) (r l hl.symm), ← hl, lastI_snoc]
    unfold chordV
    rw [if_pos c]
    have : atV ax bx ay b2 = atV bx ax b2 ay := by funext n; exact atV_symm (by omega)
    rw [this]; rfl
end Num
end Go.Proofs.Ytkhcjkmifddlbab

/- AreaE -/
namespace Go.Proofs.Ytkhcjkmifddlbab
namespace Num

theorem downV_flat (ax bx y i j : Int) : downV ax y bx y i j = 0 := by
  unfold downV
  have h1 := ls_le y (64 * j + 64)
  have h2 := gr_ge y (64 * j)
  rw [if_pos (by omega)]
/-- The other way round it counts the other way. -/
theorem chordV_back (ax ay bx b2 i j : Int) : chordV bx b2 ax ay i j = -chordV ax ay bx b2 i j := by
  unfold chordV
  rcases Int.lt_trichotomy ay b2 with c | c | c
  · rw [if_pos c, if_neg (by omega)]
  · subst c; rw [if_neg (Int.lt_irrefl _), if_neg (Int.lt_irrefl _), downV_flat, downV_flat, Int.neg_zero]
  · rw [if_neg (by omega), if_pos c, Int.neg_neg]

theorem atV_shift {a b p q n : Int} (u v : Int) (h : p ≠ q) : atV (a + u) (b + u) (p + v) (q + v) (n + v) = atV a b p q n + u := by
  rw [atV_eq (by omega), atV_eq h, show q + v - (p + v) = q - p by omega, show b + u - (a + u) = b - a by omega, show n + v - (p + v) = n - p by omega]
  omega
theorem gr_shift (a b u : Int) : gr (a + u) (b + u) = gr a b + u := by
  unfold gr; repeat' split
  all_goals omega
theorem ls_shift (a b u : Int) : lsV (a + u) (b + u) = lsV a b + u := by
  unfold lsV; repeat' split
  all_goals omega
theorem clip_shift (v lo hi u : Int) : clipV (v + u) (lo + u) (hi + u) = clipV v lo hi + u := by unfold clipV; rw [ls_shift, gr_shift]
theorem reach_shift (px py qx qy x u v : Int) : reachV (px + u) (py + v) (qx + u) (qy + v) (x + u) = reachV px py qx qy x + v := by
  unfold reachV
  by_cases c1 : x ≤ px
  · rw [if_pos c1, if_pos (by omega)]
  · rw [if_neg c1, if_neg (by omega)]
    by_cases c2 : qx ≤ x
    · rw [if_pos c2, if_pos (by omega)]
    · rw [if_neg c2, if_neg (by omega), atV_shift v u (by omega)]
theorem docG_shift (lo ylo hi yhi i s v : Int) : docG (lo + 64 * s) (ylo + v) (hi + 64 * s) (yhi + v) (i + s) = docG lo ylo hi yhi i := by
  unfold docG
  rw [show 64 * (i + s) + 64 = 64 * i + 64 + 64 * s by omega, show 64 * (i + s) = 64 * i + 64 * s by omega, reach_shift, reach_shift, clip_shift, clip_shift]
  rw [show reachV lo ylo hi yhi (64 * i) + v - (ylo + v) = reachV lo ylo hi yhi (64 * i) - ylo by omega]
  rw [show reachV lo ylo hi yhi (64 * i + 64) + v - (reachV lo ylo hi yhi (64 * i) + v) = reachV lo ylo hi yhi (64 * i + 64) - reachV lo ylo hi yhi (64 * i) by omega]
  rw [show 64 * i + 64 + 64 * s - (clipV (64 * i) lo hi + 64 * s) + (64 * i + 64 + 64 * s) - (clipV (64 * i + 64) lo hi + 64 * s) = 64 * i + 64 - clipV (64 * i) lo hi + (64 * i + 64) - clipV (64 * i + 64) lo hi by omega]
theorem partV_shift (ax ay bx b2 i s v : Int) : partV (ax + 64 * s) (ay + v) (bx + 64 * s) (b2 + v) (i + s) = partV ax ay bx b2 i := by
  rw [partV_eq, partV_eq]
  by_cases c : bx < ax
  · rw [if_pos c, if_pos (by omega), docG_shift]
  · rw [if_neg c, if_neg (by omega), docG_shift]
theorem downV_shift (ax ay bx b2 i j s t : Int) : downV (ax + 64 * s) (ay + 64 * t) (bx + 64 * s) (b2 + 64 * t) (i + s) (j + t) = downV ax ay bx b2 i j := by
  unfold downV
  rw [show 64 * (j + t) + 64 = 64 * j + 64 + 64 * t by omega, show 64 * (j + t) = 64 * j + 64 * t by omega, gr_shift, ls_shift]
  have h1 := ls_le b2 (64 * j + 64)
  have h2 := gr_ge ay (64 * j)
  by_cases c : lsV b2 (64 * j + 64) ≤ gr ay (64 * j)
  · rw [if_pos c, if_pos (by omega)]
  · rw [if_neg c, if_neg (by omega), atV_shift _ _ (by omega), atV_shift _ _ (by omega), partV_shift]
/-- Moved by whole pixels. -/
theorem chordV_shift (ax ay bx b2 i j s t : Int) : chordV (ax + 64 * s) (ay + 64 * t) (bx + 64 * s) (b2 + 64 * t) (i + s) (j + t) = chordV ax ay bx b2 i j := by
  unfold chordV
  by_cases c : b2 < ay
  · rw [if_pos c, if_pos (by omega), downV_shift]
  · rw [if_neg c, if_neg (by omega), downV_shift]

theorem clip_top {lo hi : Int} (v : Int) (h : lo ≤ hi) : clipV v lo hi ≤ hi := by
  unfold clipV gr lsV; repeat' split
  all_goals omega
theorem in_bd {a b n d B : Int} (hn : 0 ≤ n) (h : n = 0 ∨ (0 ≤ d ∧ d ≤ 128)) (ha : 0 ≤ a) (hb : a + n ≤ B) (e : b = 128 * a + n * d) : 0 ≤ b ∧ b ≤ 128 * B := by
  rcases h with h | ⟨h1, h2⟩
  · subst h; rw [Int.zero_mul] at e; omega
  · have m1 := Int.mul_nonneg hn h1
    have m2 := Int.mul_le_mul_of_nonneg_left h2 hn
    omega
theorem docG_bd {lo hi ylo yhi i B : Int} (h : lo ≤ hi) (hy : sz (yhi - ylo) ≤ B) : 0 ≤ docG lo ylo hi yhi i ∧ docG lo ylo hi yhi i ≤ 128 * B := by
  have hz : ∀ n : Int, 0 ≤ sz n := by intro n; unfold sz; split <;> omega
  by_cases e : lo = hi
  · subst e
    have hc : ∀ v, clipV v lo lo = lo := by
      intro v; unfold clipV gr lsV; repeat' split
      all_goals omega
    apply in_bd (a := sz (reachV lo ylo lo yhi (64 * i) - ylo)) (n := sz (reachV lo ylo lo yhi (64 * i + 64) - reachV lo ylo lo yhi (64 * i))) (d := 64 * i + 64 - clipV (64 * i) lo lo + (64 * i + 64) - clipV (64 * i + 64) lo lo) (hz _) _ (hz _) _ rfl
    · rw [hc, hc]
      unfold reachV sz; repeat' split
      all_goals omega
    · revert hy
      unfold reachV sz; repeat' split
      all_goals omega
  · have hlt : lo < hi := by omega
    apply in_bd (a := sz (reachV lo ylo hi yhi (64 * i) - ylo)) (n := sz (reachV lo ylo hi yhi (64 * i + 64) - reachV lo ylo hi yhi (64 * i))) (d := 64 * i + 64 - clipV (64 * i) lo hi + (64 * i + 64) - clipV (64 * i + 64) lo hi) (hz _) _ (hz _) _ rfl
    · rw [reach_eq hlt, reach_eq hlt]
      by_cases c1 : hi ≤ 64 * i
      · rw [clip_hi (v := 64 * i) c1 h, clip_hi (v := 64 * i + 64) (by omega) h, Int.sub_self]; exact .inl rfl
      · by_cases c2 : 64 * i + 64 ≤ lo
        · rw [clip_lo (v := 64 * i) (by omega), clip_lo (v := 64 * i + 64) c2, Int.sub_self]; exact .inl rfl
        · right
          unfold clipV gr lsV; repeat' split
          all_goals omega
    · rw [reach_eq hlt, reach_eq hlt]
      have b := clip_ge lo hi (64 * i)
      have t := clip_top (64 * i + 64) h
      have m := clip_le (lo := lo) (hi := hi) (show 64 * i ≤ 64 * i + 64 by omega)
      have e1 := atV_begin (a := ylo) (b := yhi) e
      have e2 := atV_end (a := ylo) (b := yhi) e
      rcases Int.le_total ylo yhi with c | c
      · have m1 := atV_mono hlt c b
        have m2 := atV_mono hlt c m
        have m3 := atV_mono hlt c t
        rw [sz_pos (by omega)] at hy
        rw [sz_pos (by omega), sz_pos (by omega)]
        omega
      · have m1 := atV_anti hlt c b
        have m2 := atV_anti hlt c m
        have m3 := atV_anti hlt c t
        rw [sz_neg (by omega)] at hy
        rw [sz_neg (by omega), sz_neg (by omega)]
        omega
theorem downV_bd (ax ay bx b2 i j : Int) : 0 ≤ downV ax ay bx b2 i j ∧ downV ax ay bx b2 i j ≤ 8192 := by
  unfold downV
  have h1 := ls_le b2 (64 * j + 64)
  have h2 := gr_ge ay (64 * j)
  by_cases c : lsV b2 (64 * j + 64) ≤ gr ay (64 * j)
  · rw [if_pos c]; omega
  · rw [if_neg c, partV_eq]
    split
    · exact docG_bd (B := 64) (by omega) (by rw [sz_neg (by omega)]; omega)
    · exact docG_bd (B := 64) (by omega) (by rw [sz_pos (by omega)]; omega)
/-- No chord counts more than a pixel's all. -/
theorem chordV_bd (ax ay bx b2 i j : Int) : -8192 ≤ chordV ax ay bx b2 i j ∧ chordV ax ay bx b2 i j ≤ 8192 := by
  unfold chordV
  have := downV_bd bx b2 ax ay i j
  have := downV_bd ax ay bx b2 i j
  split <;> omega

/-- Along: nothing. -/
theorem chordV_flat (ax bx y i j : Int) : chordV ax y bx y i j = 0 := by
  unfold chordV; rw [if_neg (Int.lt_irrefl _), downV_flat]
theorem atV_same {a p q n : Int} (h : p ≠ q) : atV a a p q n = a := by
  rw [atV_eq h, Int.sub_self, Int.zero_mul, Int.neg_zero]
  split
  · have h0 : hu 0 (-(q - p)) = 0 := hu_of 0 _ 0 (by omega) (by omega) (by omega)
    omega
  · have h0 : hu 0 (q - p) = 0 := hu_of 0 _ 0 (by omega) (by omega) (by omega)
    omega
theorem docG_vert {x a b : Int} (i : Int) (hab : a ≤ b) : docG x a x b i = 2 * cl (64 * i + 64 - x) * (b - a) := by
  have hc : ∀ v, clipV v x x = x := by
    intro v; unfold clipV gr lsV; repeat' split
    all_goals omega
  unfold docG
  rw [hc, hc]
  unfold reachV
  by_cases c1 : 64 * i ≤ x
  · rw [if_pos c1]
    by_cases c2 : 64 * i + 64 ≤ x
    · rw [if_pos c2, cl_none (by omega), Int.sub_self, sz_pos (Int.le_refl _), Int.zero_mul]; omega
    · rw [if_neg c2, if_pos (by omega), cl_in (by omega) (by omega), Int.sub_self, sz_pos (Int.le_refl _), sz_pos (by omega)]
      rw [show 64 * i + 64 - x + (64 * i + 64) - x = 2 * (64 * i + 64 - x) by omega, Int.mul_comm (b - a)]
      omega
  · rw [if_neg c1, if_pos (by omega), if_neg (by omega), if_pos (by omega), cl_far (by omega), sz_pos (by omega), Int.sub_self, sz_pos (Int.le_refl _), Int.zero_mul]; omega
theorem downV_vert {x a b : Int} (i j : Int) (hab : a ≤ b) : downV x a x b i j = 2 * cl (64 * i + 64 - x) * (clipV b (64 * j) (64 * j + 64) - clipV a (64 * j) (64 * j + 64)) := by
  unfold downV
  by_cases c : lsV b (64 * j + 64) ≤ gr a (64 * j)
  · rw [if_pos c]
    have : clipV b (64 * j) (64 * j + 64) - clipV a (64 * j) (64 * j + 64) = 0 := by
      revert c
      unfold clipV gr lsV; repeat' split
      all_goals omega
    rw [this, Int.mul_zero]
  · have hne : a ≠ b := by
      intro e; subst e
      have h1 := ls_le a (64 * j + 64)
      have h2 := gr_ge a (64 * j)
      omega
    rw [if_neg c, atV_same hne, atV_same hne, partV_eq, if_neg (Int.lt_irrefl _), docG_vert i (by omega)]
    have : lsV b (64 * j + 64) - gr a (64 * j) = clipV b (64 * j) (64 * j + 64) - clipV a (64 * j) (64 * j + 64) := by
      revert c
      unfold clipV gr lsV; repeat' split
      all_goals omega
    rw [this]
/-- Up and down. -/
theorem chordV_vert (x a b i j : Int) : chordV x a x b i j = 2 * cl (64 * i + 64 - x) * (clipV b (64 * j) (64 * j + 64) - clipV a (64 * j) (64 * j + 64)) := by
  unfold chordV
  by_cases c : b < a
  · rw [if_pos c, downV_vert i j (by omega), ← Int.mul_neg, Int.neg_sub]
  · rw [if_neg c, downV_vert i j (by omega)]
/-- A rectangle: twice its share, the other way round. -/
theorem box_sum (x0 y0 x1 y1 i j : Int) : chordV x0 y0 x1 y0 i j + chordV x1 y0 x1 y1 i j + chordV x1 y1 x0 y1 i j + chordV x0 y1 x0 y0 i j
    = -(2 * (clipV x1 (64 * i) (64 * i + 64) - clipV x0 (64 * i) (64 * i + 64)) * (clipV y1 (64 * j) (64 * j + 64) - clipV y0 (64 * j) (64 * j + 64))) := by
  rw [chordV_flat, chordV_flat, chordV_vert, chordV_vert]
  have k : ∀ x : Int, cl (64 * i + 64 - x) = 64 * i + 64 - clipV x (64 * i) (64 * i + 64) := by
    intro x
    unfold cl clipV gr lsV; repeat' split
    all_goals omega
  rw [k, k]
  generalize clipV x0 (64 * i) (64 * i + 64) = a
  generalize clipV x1 (64 * i) (64 * i + 64) = b
  generalize clipV y1 (64 * j) (64 * j + 64) = c
  generalize clipV y0 (64 * j) (64 * j + 64) = d
  have e1 : 2 * (64 * i + 64 - a) * (d - c) = -(2 * (64 * i + 64 - a) * (c - d)) := by rw [← Int.mul_neg, Int.neg_sub]
  have e2 : 2 * (64 * i + 64 - b) * (c - d) - 2 * (64 * i + 64 - a) * (c - d) = -(2 * (b - a) * (c - d)) := by
    rw [← Int.sub_mul, ← Int.neg_mul]
    have : 2 * (64 * i + 64 - b) - 2 * (64 * i + 64 - a) = -(2 * (b - a)) := by omega
    rw [this]
  omega
end Num
end Go.Proofs.Ytkhcjkmifddlbab

/- AreaF -/
namespace Go.Proofs.Ytkhcjkmifddlbab
namespace Num

def turnV (ax ay bx b2 x y : Int) : Int := (b2 - ay) * (x - ax) - (bx - ax) * (y - ay)
def crossV (ax ay bx b2 i j : Int) : Int :=
  if ay ≤ 64 * j + 32 ∧ 64 * j + 32 < b2 ∧ 0 < turnV ax ay bx b2 (64 * i + 32) (64 * j + 32) then 1
  else if b2 ≤ 64 * j + 32 ∧ 64 * j + 32 < ay ∧ turnV ax ay bx b2 (64 * i + 32) (64 * j + 32) < 0 then -1 else 0
/-- The chord meets the pixel. -/
def meetsV (ax ay bx b2 i j : Int) : Bool :=
  if gr ax bx < 64 * i ∨ 64 * i + 64 < lsV ax bx ∨ gr ay b2 < 64 * j ∨ 64 * j + 64 < lsV ay b2 then false
  else
    !(decide (0 < turnV ax ay bx b2 (64 * i) (64 * j)) && decide (0 < turnV ax ay bx b2 (64 * i + 64) (64 * j)) && decide (0 < turnV ax ay bx b2 (64 * i) (64 * j + 64)) && decide (0 < turnV ax ay bx b2 (64 * i + 64) (64 * j + 64))) &&
    !(decide (turnV ax ay bx b2 (64 * i) (64 * j) < 0) && decide (turnV ax ay bx b2 (64 * i + 64) (64 * j) < 0) && decide (turnV ax ay bx b2 (64 * i) (64 * j + 64) < 0) && decide (turnV ax ay bx b2 (64 * i + 64) (64 * j + 64) < 0))
/-- What a spot counts, to the left of the pixel. -/
def spotH (j y : Int) : Int := 128 * (clipV y (64 * j) (64 * j + 64) - 64 * j) - if 64 * j + 32 < y then 8192 else 0
def spotG (i j x y : Int) : Int := if x < 64 * i then spotH j y else 0

theorem spotH_out {j y : Int} (h : y ≤ 64 * j ∨ 64 * j + 64 ≤ y) : spotH j y = 0 := by
  unfold spotH
  rcases h with h | h
  · rw [clip_lo h, if_neg (by omega)]; omega
  · rw [clip_hi h (by omega), if_pos (by omega)]; omega
theorem turn_back (ax ay bx b2 x y : Int) : turnV bx b2 ax ay x y = -turnV ax ay bx b2 x y := by
  unfold turnV
  have e1 : (ay - b2) * (x - bx) = -((b2 - ay) * (x - ax)) + (b2 - ay) * (bx - ax) := by
    rw [← Int.neg_mul, show -(b2 - ay) = ay - b2 by omega, show x - bx = (x - ax) - (bx - ax) by omega, Int.mul_sub, show ay - b2 = -(b2 - ay) by omega, Int.neg_mul, Int.neg_mul]; omega
  have e2 : (ax - bx) * (y - b2) = -((bx - ax) * (y - ay)) + (b2 - ay) * (bx - ax) := by
    rw [show y - b2 = (y - ay) - (b2 - ay) by omega, Int.mul_sub, show ax - bx = -(bx - ax) by omega, Int.neg_mul, Int.neg_mul, Int.mul_comm (b2 - ay) (bx - ax)]; omega
  omega
theorem cross_back (ax ay bx b2 i j : Int) : crossV bx b2 ax ay i j = -crossV ax ay bx b2 i j := by
  unfold crossV
  rw [turn_back ax ay bx b2]
  repeat' split
  all_goals omega
theorem partV_left {ax ay bx b2 i : Int} (h1 : ax ≤ 64 * i) (h2 : bx ≤ 64 * i) (hy : ay ≤ b2) : partV ax ay bx b2 i = 128 * (b2 - ay) ∨ (ax = bx ∧ ax = 64 * i) := by
  by_cases e : ax = bx ∧ ax = 64 * i
  · exact .inr e
  · left
    rw [partV_eq]
    have key : ∀ {lo ylo hi yhi : Int}, lo ≤ hi → hi ≤ 64 * i → ¬ (lo = hi ∧ lo = 64 * i) → docG lo ylo hi yhi i = 128 * sz (yhi - ylo) := by
      intro lo ylo hi yhi h h2 h3
      have r : ∀ x, 64 * i ≤ x → reachV lo ylo hi yhi x = yhi := by
        intro x hx; unfold reachV; rw [if_neg (by omega), if_pos (by omega)]
      unfold docG
      rw [r _ (Int.le_refl _), r _ (by omega), Int.sub_self, sz_pos (Int.le_refl _), Int.zero_mul, Int.add_zero]
    split
    · rw [key (by omega) h1 (by omega), sz_neg (by omega)]; omega
    · rw [key (by omega) h2 (by omega), sz_pos (by omega)]
theorem partV_left2 {ax ay bx b2 i : Int} (h1 : ax ≤ 64 * i) (h2 : bx ≤ 64 * i) (hy : ay ≤ b2) : partV ax ay bx b2 i = 128 * (b2 - ay) := by
  rcases partV_left h1 h2 hy with h | ⟨e1, e2⟩
  · exact h
  · subst e1
    rw [partV_eq, if_neg (Int.lt_irrefl _), docG_vert i hy, cl_far (by omega)]; omega
theorem partV_right {ax ay bx b2 i : Int} (h1 : 64 * i + 64 ≤ ax) (h2 : 64 * i + 64 ≤ bx) : partV ax ay bx b2 i = 0 := by
  rw [partV_eq]
  have key : ∀ {lo ylo hi yhi : Int}, 64 * i + 64 ≤ lo → docG lo ylo hi yhi i = 0 := by
    intro lo ylo hi yhi h
    unfold docG reachV
    rw [if_pos (by omega), if_pos (by omega), Int.sub_self, sz_pos (Int.le_refl _), Int.zero_mul]; omega
  split <;> exact key (by omega)

/-- To the left of the pixel. -/
theorem flat_left {ax ay bx b2 i j : Int} (h : ay < b2)
    (hx : gr ay (64 * j) < lsV b2 (64 * j + 64) → atV ax bx ay b2 (gr ay (64 * j)) ≤ 64 * i ∧ atV ax bx ay b2 (lsV b2 (64 * j + 64)) ≤ 64 * i)
    (ea : 64 * j < ay → ay < 64 * j + 64 → ax < 64 * i) (eb : 64 * j < b2 → b2 < 64 * j + 64 → bx < 64 * i)
    (tc : ay ≤ 64 * j + 32 → 64 * j + 32 < b2 → 0 < turnV ax ay bx b2 (64 * i + 32) (64 * j + 32)) :
    downV ax ay bx b2 i j - 8192 * crossV ax ay bx b2 i j = spotG i j bx b2 - spotG i j ax ay := by
  have ga : spotG i j ax ay = spotH j ay := by
    unfold spotG
    split
    · rfl
    · rw [spotH_out (by omega)]
  have gb : spotG i j bx b2 = spotH j b2 := by
    unfold spotG
    split
    · rfl
    · rw [spotH_out (by omega)]
  have cr : crossV ax ay bx b2 i j = if ay ≤ 64 * j + 32 ∧ 64 * j + 32 < b2 then 1 else 0 := by
    unfold crossV
    by_cases c : ay ≤ 64 * j + 32 ∧ 64 * j + 32 < b2
    · rw [if_pos c, if_pos ⟨c.1, c.2, tc c.1 c.2⟩]
    · rw [if_neg c, if_neg (by omega), if_neg (by omega)]
  have dn : downV ax ay bx b2 i j = 128 * (clipV b2 (64 * j) (64 * j + 64) - clipV ay (64 * j) (64 * j + 64)) := by
    unfold downV
    by_cases c : lsV b2 (64 * j + 64) ≤ gr ay (64 * j)
    · rw [if_pos c]
      revert c
      unfold clipV gr lsV; repeat' split
      all_goals omega
    · rw [if_neg c]
      have hx := hx (by omega)
      rw [partV_left2 hx.1 hx.2 (by omega)]
      revert c
      clear hx ga gb cr
      unfold clipV gr lsV; repeat' split
      all_goals omega
  rw [ga, gb, cr, dn]
  unfold spotH
  repeat' split
  all_goals omega
/-- To the right. -/
theorem flat_right {ax ay bx b2 i j : Int} (h : ay < b2)
    (hx : gr ay (64 * j) < lsV b2 (64 * j + 64) → 64 * i + 64 ≤ atV ax bx ay b2 (gr ay (64 * j)) ∧ 64 * i + 64 ≤ atV ax bx ay b2 (lsV b2 (64 * j + 64)))
    (ea : 64 * j < ay → ay < 64 * j + 64 → 64 * i ≤ ax) (eb : 64 * j < b2 → b2 < 64 * j + 64 → 64 * i ≤ bx)
    (tc : ay ≤ 64 * j + 32 → 64 * j + 32 < b2 → turnV ax ay bx b2 (64 * i + 32) (64 * j + 32) ≤ 0) :
    downV ax ay bx b2 i j - 8192 * crossV ax ay bx b2 i j = spotG i j bx b2 - spotG i j ax ay := by
  have ga : spotG i j ax ay = 0 := by
    unfold spotG
    split
    · rw [spotH_out (by omega)]
    · rfl
  have gb : spotG i j bx b2 = 0 := by
    unfold spotG
    split
    · rw [spotH_out (by omega)]
    · rfl
  have cr : crossV ax ay bx b2 i j = 0 := by
    unfold crossV
    rw [if_neg (fun c => by have := tc c.1 c.2.1; omega), if_neg (by omega)]
  have dn : downV ax ay bx b2 i j = 0 := by
    unfold downV
    by_cases c : lsV b2 (64 * j + 64) ≤ gr ay (64 * j)
    · rw [if_pos c]
    · rw [if_neg c]
      have hx := hx (by omega)
      exact partV_right hx.1 hx.2
  rw [ga, gb, cr, dn]; omega

theorem turn_split (ax ay bx b2 x y : Int) : turnV ax ay bx b2 x y = (b2 - y) * (x - ax) + (y - ay) * (x - bx) := by
  unfold turnV
  have e1 : (b2 - ay) * (x - ax) = (b2 - y) * (x - ax) + (y - ay) * (x - ax) := by rw [← Int.add_mul]; congr 1; omega
  have e2 : (y - ay) * (x - bx) = (y - ay) * (x - ax) - (bx - ax) * (y - ay) := by rw [Int.mul_comm (bx - ax), ← Int.mul_sub]; congr 1; omega
  omega
theorem turn_y (ax ay bx b2 x y d : Int) : turnV ax ay bx b2 x (y + d) = turnV ax ay bx b2 x y - (bx - ax) * d := by
  unfold turnV
  have e : (bx - ax) * (y + d - ay) = (bx - ax) * (y - ay) + (bx - ax) * d := by rw [← Int.mul_add]; congr 1; omega
  omega
theorem turn_x (ax ay bx b2 x y d : Int) : turnV ax ay bx b2 (x + d) y = turnV ax ay bx b2 x y + (b2 - ay) * d := by
  unfold turnV
  have e : (b2 - ay) * (x + d - ax) = (b2 - ay) * (x - ax) + (b2 - ay) * d := by rw [← Int.mul_add]; congr 1; omega
  omega
theorem turn_mid {ax ay bx b2 x t y : Int} (h1 : t ≤ y) (h2 : y ≤ t + 64) :
    (0 < turnV ax ay bx b2 x t → 0 < turnV ax ay bx b2 x (t + 64) → 0 < turnV ax ay bx b2 x y) ∧ (turnV ax ay bx b2 x t < 0 → turnV ax ay bx b2 x (t + 64) < 0 → turnV ax ay bx b2 x y < 0) := by
  have e := turn_y ax ay bx b2 x t (y - t)
  rw [show t + (y - t) = y by omega] at e
  rw [turn_y ax ay bx b2 x t 64, e]
  rcases Int.le_total 0 (bx - ax) with c | c
  · have m1 := Int.mul_nonneg c (show 0 ≤ y - t by omega)
    have m2 := Int.mul_le_mul_of_nonneg_left (show y - t ≤ 64 by omega) c
    constructor <;> intros <;> omega
  · have m1 := Int.mul_nonneg (show 0 ≤ -(bx - ax) by omega) (show 0 ≤ y - t by omega)
    have m2 := Int.mul_le_mul_of_nonneg_left (show y - t ≤ 64 by omega) (show 0 ≤ -(bx - ax) by omega)
    rw [Int.neg_mul] at m1 m2
    rw [Int.neg_mul] at m2
    constructor <;> intros <;> omega
theorem at_left {ax ay bx b2 x y : Int} (h : ay < b2) (ht : 0 < turnV ax ay bx b2 x y) : atV ax bx ay b2 y ≤ x := by
  rw [atV_eq (by omega), if_neg (by omega)]
  unfold turnV at ht
  have := hu_le_of (n := (bx - ax) * (y - ay)) (d := b2 - ay) (B := x - ax) (by omega) (by rw [Int.mul_comm (x - ax)]; omega)
  omega
theorem at_right {ax ay bx b2 x y : Int} (h : ay < b2) (ht : turnV ax ay bx b2 x y < 0) : x ≤ atV ax bx ay b2 y := by
  rw [atV_eq (by omega), if_neg (by omega)]
  unfold turnV at ht
  have := hu_ge_of (n := (bx - ax) * (y - ay)) (d := b2 - ay) (B := x - ax) (by omega) (by rw [Int.mul_comm (x - ax)]; omega)
  omega
theorem pos_of {d x : Int} (h : 0 < d) (hp : 0 < d * x) : 0 < x := by
  rcases Int.lt_or_le 0 x with c | c
  · exact c
  · have := Int.mul_nonneg (show 0 ≤ d by omega) (show 0 ≤ -x by omega)
    rw [Int.mul_neg] at this
    omega
theorem neg_of {d x : Int} (h : 0 < d) (hp : d * x < 0) : x < 0 := by
  have := pos_of (x := -x) h (by rw [Int.mul_neg]; omega)
  omega
/-- The chord does not meet the pixel. -/
def UnV (ax ay bx b2 i j : Int) : Prop :=
  (ax < 64 * i ∧ bx < 64 * i) ∨ (64 * i + 64 < ax ∧ 64 * i + 64 < bx) ∨ (ay < 64 * j ∧ b2 < 64 * j) ∨ (64 * j + 64 < ay ∧ 64 * j + 64 < b2) ∨
  (0 < turnV ax ay bx b2 (64 * i) (64 * j) ∧ 0 < turnV ax ay bx b2 (64 * i + 64) (64 * j) ∧ 0 < turnV ax ay bx b2 (64 * i) (64 * j + 64) ∧ 0 < turnV ax ay bx b2 (64 * i + 64) (64 * j + 64)) ∨
  (turnV ax ay bx b2 (64 * i) (64 * j) < 0 ∧ turnV ax ay bx b2 (64 * i + 64) (64 * j) < 0 ∧ turnV ax ay bx b2 (64 * i) (64 * j + 64) < 0 ∧ turnV ax ay bx b2 (64 * i + 64) (64 * j + 64) < 0)
theorem un_back {ax ay bx b2 i j : Int} (h : UnV ax ay bx b2 i j) : UnV bx b2 ax ay i j := by
  unfold UnV at h ⊢
  rw [turn_back ax ay bx b2, turn_back ax ay bx b2, turn_back ax ay bx b2, turn_back ax ay bx b2]
  omega
theorem flat_down {ax ay bx b2 i j : Int} (h : ay < b2) (hu : UnV ax ay bx b2 i j) : downV ax ay bx b2 i j - 8192 * crossV ax ay bx b2 i j = spotG i j bx b2 - spotG i j ax ay := by
  have g := gr_ge ay (64 * j)
  have l := ls_le b2 (64 * j + 64)
  rcases hu with c | c | c | c | c | c
  · apply flat_left h
    · intro q
      have r1 := atV_rng (a := ax) (b := bx) (p := ay) (q := b2) (n := gr ay (64 * j)) (lo := lsV ax bx) (hi := 64 * i) (by omega) ⟨(ls_le ax bx).1, by omega⟩ ⟨(ls_le ax bx).2, by omega⟩
      have r2 := atV_rng (a := ax) (b := bx) (p := ay) (q := b2) (n := lsV b2 (64 * j + 64)) (lo := lsV ax bx) (hi := 64 * i) (by omega) ⟨(ls_le ax bx).1, by omega⟩ ⟨(ls_le ax bx).2, by omega⟩
      exact ⟨r1.2, r2.2⟩
    · intros; omega
    · intros; omega
    · intro h1 h2
      rw [turn_split]
      have m1 := Int.mul_pos (show 0 < b2 - (64 * j + 32) by omega) (show 0 < 64 * i + 32 - ax by omega)
      have m2 := Int.mul_nonneg (show 0 ≤ 64 * j + 32 - ay by omega) (show 0 ≤ 64 * i + 32 - bx by omega)
      omega
  · apply flat_right h
    · intro q
      have r1 := atV_rng (a := ax) (b := bx) (p := ay) (q := b2) (n := gr ay (64 * j)) (lo := 64 * i + 64) (hi := gr ax bx) (by omega) ⟨by omega, (gr_ge ax bx).1⟩ ⟨by omega, (gr_ge ax bx).2⟩
      have r2 := atV_rng (a := ax) (b := bx) (p := ay) (q := b2) (n := lsV b2 (64 * j + 64)) (lo := 64 * i + 64) (hi := gr ax bx) (by omega) ⟨by omega, (gr_ge ax bx).1⟩ ⟨by omega, (gr_ge ax bx).2⟩
      exact ⟨r1.1, r2.1⟩
    · intros; omega
    · intros; omega
    · intro h1 h2
      rw [turn_split]
      have m1 := Int.mul_nonneg (show 0 ≤ b2 - (64 * j + 32) by omega) (show 0 ≤ -(64 * i + 32 - ax) by omega)
      have m2 := Int.mul_nonneg (show 0 ≤ 64 * j + 32 - ay by omega) (show 0 ≤ -(64 * i + 32 - bx) by omega)
      rw [Int.mul_neg] at m1 m2
      omega
  · apply flat_right h <;> intros <;> omega
  · apply flat_right h <;> intros <;> omega
  · have k : ∀ y, 64 * j ≤ y → y ≤ 64 * j + 64 → 0 < turnV ax ay bx b2 (64 * i) y := fun y h1 h2 => (turn_mid h1 h2).1 c.1 c.2.2.1
    apply flat_left h
    · intro q
      exact ⟨at_left h (k _ (by omega) (by omega)), at_left h (k _ (by omega) (by omega))⟩
    · intro h1 h2
      have := k ay (by omega) (by omega)
      unfold turnV at this
      rw [Int.sub_self, Int.mul_zero, Int.sub_zero] at this
      have := pos_of (by omega) this
      omega
    · intro h1 h2
      have := k b2 (by omega) (by omega)
      rw [turn_split, Int.sub_self, Int.zero_mul, Int.zero_add] at this
      have := pos_of (by omega) this
      omega
    · intro h1 h2
      rw [turn_x]
      have := k (64 * j + 32) (by omega) (by omega)
      omega
  · have k : ∀ y, 64 * j ≤ y → y ≤ 64 * j + 64 → turnV ax ay bx b2 (64 * i + 64) y < 0 := fun y h1 h2 => (turn_mid h1 h2).2 c.2.1 c.2.2.2
    apply flat_right h
    · intro q
      exact ⟨at_right h (k _ (by omega) (by omega)), at_right h (k _ (by omega) (by omega))⟩
    · intro h1 h2
      have := k ay (by omega) (by omega)
      unfold turnV at this
      rw [Int.sub_self, Int.mul_zero, Int.sub_zero] at this
      have := neg_of (by omega) this
      omega
    · intro h1 h2
      have := k b2 (by omega) (by omega)
      rw [turn_split, Int.sub_self, Int.zero_mul, Int.zero_add] at this
      have := neg_of (by omega) this
      omega
    · intro h1 h2
      have := k (64 * j + 32) (by omega) (by omega)
      rw [show 64 * i + 64 = 64 * i + 32 + 32 by omega, turn_x] at this
      omega
end Num
end Go.Proofs.Ytkhcjkmifddlbab
