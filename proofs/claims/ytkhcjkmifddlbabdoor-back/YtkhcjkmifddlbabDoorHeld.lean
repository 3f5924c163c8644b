/- What the caller holds: lists full of marks. -/
import Derived.Test.YtkhcjkmifddlbabDoorLists
import Derived.Deep.AppendLies
namespace Go.Proofs.YtkhcjkmifddlbabDoor
open Go.RowKit Go.Deep

/-- The cells of a list of points, all marks. -/
def mkP (k : Int) (q : Nat) : Value := pc (fun _ => 2199023255552 + k) (fun _ => -7) (fun _ => 9) q
/-- The cells of a list of segments, all marks. -/
def mkS (k : Int) (q : Nat) : Value := .int .i64 (if q % 9 = 0 then 9 else if q % 9 % 2 = 1 then 2199023255552 + k else -7)

/-- The cells of a list of spots, all marks. -/
def mkT (k : Int) (q : Nat) : Value := .int .i64 (if q % 2 = 0 then 2199023255552 + k else -7)

/-- The number that stands at place q of bytes that are all marks. -/
def mkB (k : Int) (q : Nat) : Value := .int .u8 (IntKind.u8.wrap (k + (q : Int) * (1 + k / 256)))

/-- What is held. -/
structure HS where
  n : Int
  cs : Value
  rs : Value
  vP : Value
  vO : Value
  vS : Value
  vT : Value
  vR : Value
  vB : Value
  P : List (Nat × Nat × Int)
  O : List (Nat × Nat × (Nat → Nat) × Int)
  S : List (Option Nat × Nat × Int)
  T : List (Option Nat × Nat × Int)
  R : List (Option Nat × Nat × (Nat → Nat) × Int)
  B : List (Option Nat × Nat × Int)

/-- The cells of the caller's world. -/
def wc (s : HS) (q : Nat) : Value :=
  if q = 0 then s.cs else if q = 1 then s.rs else if q = 2 then .int .i64 s.n else if q = 3 then s.vP else if q = 4 then s.vO else if q = 5 then s.vS else if q = 6 then s.vT else if q = 7 then s.vR else s.vB

def peC (e : Nat × Nat × Int) : List Value := [.slice (some ⟨e.1, 0, none⟩) e.2.1 e.2.1, .int .i64 e.2.2]
def oeC (e : Nat × Nat × (Nat → Nat) × Int) : List Value := [.slice (some ⟨e.1, 0, none⟩) e.2.1 e.2.1, .int .i64 e.2.2.2]
def seC (e : Option Nat × Nat × Int) : List Value := [.slice (e.1.map fun b => ⟨b, 0, none⟩) e.2.1 e.2.1, .int .i64 e.2.2]

def reC (e : Option Nat × Nat × (Nat → Nat) × Int) : List Value := [.slice (e.1.map fun b => ⟨b, 0, none⟩) e.2.1 e.2.1, .int .i64 e.2.2.2]

/-- A row of n cells none of which is frozen, whatever mark stands behind its last one. -/
def rowIz (w : World) (b : Nat) (t : TypeId) (n : Nat) (f : Nat → Value) : Prop :=
  ∃ (c : Array Value) (q : Nat × Nat), w.heap[b]? = some (.cells c t q) ∧ c.size = n ∧ (q = (0, 0) ∨ n ≤ q.1) ∧ ∀ i, i < n → c[i]? = some (f i)
section
variable {w w' : World} {b : Nat} {t : TypeId} {n : Nat} {f g : Nat → Value}
theorem rowIz.of_row (h : w.rowIs b t n f) : rowIz w b t n f := by
  obtain ⟨c, hb, hn, hc⟩ := h
  exact ⟨c, (0, 0), hb, hn, .inl rfl, hc⟩
theorem rowIz.cell (h : rowIz w b t n f) {i : Nat} (hi : i < n) : w.cell? ⟨b, i, none⟩ = some (f i) := by
  obtain ⟨c, q, hb, _, _, hc⟩ := h
  simp [World.cell?, hb, hc i hi]
theorem rowIz.frozen (h : rowIz w b t n f) {i : Nat} (hi : i < n) : w.frozen? ⟨b, i, none⟩ = false := by
  obtain ⟨c, ⟨lo, up⟩, hb, _, hq, _⟩ := h
  rcases hq with hq | hq
  · simp only [Prod.mk.injEq] at hq
    obtain ⟨rfl, rfl⟩ := hq
    simp [World.frozen?, hb]
  · simp only at hq
    simp [World.frozen?, hb]
    omega
theorem rowIz.lt (h : rowIz w b t n f) : b < w.heap.size := by
  obtain ⟨c, q, hb, _⟩ := h
  obtain ⟨hlt, _⟩ := Array.getElem?_eq_some_iff.1 hb
  exact hlt
theorem rowIz.congr (h : rowIz w b t n f) (e : ∀ i, i < n → f i = g i) : rowIz w b t n g := by
  obtain ⟨c, q, hb, hn, hq, hc⟩ := h
  exact ⟨c, q, hb, hn, hq, fun i hi => by rw [hc i hi, e i hi]⟩
theorem rowIz.of_block (h : rowIz w b t n f) (e : w'.heap[b]? = w.heap[b]?) : rowIz w' b t n f := by
  obtain ⟨c, q, hb, hn, hq, hc⟩ := h
  exact ⟨c, q, e.trans hb, hn, hq, hc⟩
theorem rowIz.set (h : rowIz w b t n f) (i : Nat) (v : Value) : rowIz (w.setCell ⟨b, i, none⟩ v) b t n (fun j => if j = i then v else f j) := by
  obtain ⟨c, q, hb, hn, hq, hc⟩ := h
  refine ⟨c.setIfInBounds i v, q, ?_, by simpa using hn, hq, fun j hj => ?_⟩
  · simp [World.setCell, Array.getElem?_modify, hb]
  · rw [Array.getElem?_setIfInBounds]
    by_cases e : j = i
    · subst e
      simp [hn, hj]
    · rw [if_neg (fun h => e h.symm)]
      show c[j]? = some (if j = i then v else f j)
      rw [if_neg e]
      exact hc j hj
theorem rowz_below {B : Nat} (h : rowIz w b t n f) (hb : Below B w w') (hlt : b < B) : rowIz w' b t n f := h.of_block (hb.block b hlt)
end

/-- All that is held reads as its mark. -/
structure HeldInv (w : World) (h : Nat) (s : HS) : Prop where
  wd : w.rowIs h 37 9 (wc s)
  oP : w.ownsRow h 81 2 s.vP s.P.length (s.P.flatMap peC)
  oO : w.ownsRow h 87 2 s.vO s.O.length (s.O.flatMap oeC)
  oS : w.ownsRow h 63 2 s.vS s.S.length (s.S.flatMap seC)
  eP : ∀ e ∈ s.P, w.rowIs e.1 83 (e.2.1 * 3) (mkP e.2.2)
  eO : ∀ e ∈ s.O, w.rowIs e.1 79 e.2.1 (fun i => .slice (some ⟨e.2.2.1 i, 0, none⟩) 1 1)
  eI : ∀ e ∈ s.O, ∀ i, i < e.2.1 → w.rowIs (e.2.2.1 i) 83 3 (mkP e.2.2.2)
  eS : ∀ e ∈ s.S, ∀ b, e.1 = some b → w.rowIs b 67 (e.2.1 * 9) (mkS e.2.2)
  eN : ∀ e ∈ s.S, e.1 = none → e.2.1 = 0
  lo : (s.P.length : Int) + (s.O.length : Int) + (s.S.length : Int) + (s.T.length : Int) + (s.R.length : Int) + (s.B.length : Int) ≤ s.n
  hi : s.n ≤ 1099511627776
  mP : ∀ e ∈ s.P, 0 ≤ e.2.2 ∧ e.2.2 ≤ 1099511627776 ∧ e.2.1 ≤ 1099511627776
  mO : ∀ e ∈ s.O, 0 ≤ e.2.2.2 ∧ e.2.2.2 ≤ 1099511627776 ∧ e.2.1 ≤ 1099511627776
  mS : ∀ e ∈ s.S, 0 ≤ e.2.2 ∧ e.2.2 ≤ 1099511627776 ∧ (e.2.1 : Int) ≤ 9223372036854775807
  oT : w.ownsRow h 90 2 s.vT s.T.length (s.T.flatMap seC)
  oR : w.ownsRow h 93 2 s.vR s.R.length (s.R.flatMap reC)
  eT : ∀ e ∈ s.T, ∀ b, e.1 = some b → w.rowIs b 65 (e.2.1 * 2) (mkT e.2.2)
  eU : ∀ e ∈ s.T, e.1 = none → e.2.1 = 0
  eR : ∀ e ∈ s.R, ∀ b, e.1 = some b → w.rowIs b 88 e.2.1 (fun i => .slice (some ⟨e.2.2.1 i, 0, none⟩) 1 1)
  eJ : ∀ e ∈ s.R, ∀ i, i < e.2.1 → w.rowIs (e.2.2.1 i) 65 2 (mkT e.2.2.2)
  eM : ∀ e ∈ s.R, e.1 = none → e.2.1 = 0
  mT : ∀ e ∈ s.T, 0 ≤ e.2.2 ∧ e.2.2 ≤ 1099511627776 ∧ (e.2.1 : Int) ≤ 9223372036854775807
  mR : ∀ e ∈ s.R, 0 ≤ e.2.2.2 ∧ e.2.2.2 ≤ 1099511627776 ∧ (e.2.1 : Int) ≤ 9223372036854775807
  oB : w.ownsRow h 70 2 s.vB s.B.length (s.B.flatMap seC)
  eB : ∀ e ∈ s.B, ∀ b, e.1 = some b → rowIz w b 5 e.2.1 (mkB e.2.2)
  eV : ∀ e ∈ s.B, e.1 = none → e.2.1 = 0
  mB : ∀ e ∈ s.B, 0 ≤ e.2.2 ∧ e.2.2 ≤ 1099511627776 ∧ (e.2.1 : Int) ≤ 9223372036854775807

/-- The blocks in which it lies. -/
def Used (h : Nat) (s : HS) (b : Nat) : Prop :=
  b = h ∨ s.vP.ownBlock = some b ∨ s.vO.ownBlock = some b ∨ s.vS.ownBlock = some b ∨ (∃ e ∈ s.P, e.1 = b) ∨ (∃ e ∈ s.O, e.1 = b) ∨ (∃ e ∈ s.O, ∃ i, i < e.2.1 ∧ e.2.2.1 i = b) ∨ (∃ e ∈ s.S, e.1 = some b) ∨
  s.vT.ownBlock = some b ∨ s.vR.ownBlock = some b ∨ (∃ e ∈ s.T, e.1 = some b) ∨ (∃ e ∈ s.R, e.1 = some b) ∨ (∃ e ∈ s.R, ∃ i, i < e.2.1 ∧ e.2.2.1 i = b) ∨ s.vB.ownBlock = some b ∨ (∃ e ∈ s.B, e.1 = some b)

theorem owns_of_block {w w' : World} {base : Nat} {t : TypeId} {sz : Nat} {v : Value} {n : Nat} {xs : List Value} (h : w.ownsRow base t sz v n xs) (e : ∀ b, v.ownBlock = some b → w'.heap[b]? = w.heap[b]?) : w'.ownsRow base t sz v n xs := by
  refine ⟨h.1, ?_⟩
  rcases h.2 with hn | ⟨g, cap, cur, rfl, hb, hg, rest⟩
  · exact .inl hn
  · exact .inr ⟨g, cap, cur, rfl, hb, (e g rfl).trans hg, rest⟩

theorem HeldInv.of_blocks {w w' : World} {h : Nat} {s : HS} (H : HeldInv w h s) (e : ∀ b, Used h s b → w'.heap[b]? = w.heap[b]?) : HeldInv w' h s where
  wd := H.wd.of_block (e h (.inl rfl))
  oP := owns_of_block H.oP fun b hb => e b (by unfold Used; simp [hb])
  oO := owns_of_block H.oO fun b hb => e b (by unfold Used; simp [hb])
  oS := owns_of_block H.oS fun b hb => e b (by unfold Used; simp [hb])
  eP x hx := (H.eP x hx).of_block (e _ (.inr (.inr (.inr (.inr (.inl ⟨x, hx, rfl⟩))))))
  eO x hx := (H.eO x hx).of_block (e _ (.inr (.inr (.inr (.inr (.inr (.inl ⟨x, hx, rfl⟩)))))))
  eI x hx i hi := (H.eI x hx i hi).of_block (e _ (.inr (.inr (.inr (.inr (.inr (.inr (.inl ⟨x, hx, i, hi, rfl⟩))))))))
  eS x hx b hb := (H.eS x hx b hb).of_block (e _ (.inr (.inr (.inr (.inr (.inr (.inr (.inr (.inl ⟨x, hx, hb⟩)))))))))
  eN := H.eN
  lo := H.lo
  hi := H.hi
  mP := H.mP
  mO := H.mO
  mS := H.mS
  oT := owns_of_block H.oT fun b hb => e b (by unfold Used; simp [hb])
  oR := owns_of_block H.oR fun b hb => e b (by unfold Used; simp [hb])
  eT x hx b hb := (H.eT x hx b hb).of_block (e _ (.inr (.inr (.inr (.inr (.inr (.inr (.inr (.inr (.inr (.inr (.inl ⟨x, hx, hb⟩))))))))))))
  eU := H.eU
  eR x hx b hb := (H.eR x hx b hb).of_block (e _ (.inr (.inr (.inr (.inr (.inr (.inr (.inr (.inr (.inr (.inr (.inr (.inl ⟨x, hx, hb⟩)))))))))))))
  eJ x hx i hi := (H.eJ x hx i hi).of_block (e _ (.inr (.inr (.inr (.inr (.inr (.inr (.inr (.inr (.inr (.inr (.inr (.inr (.inl ⟨x, hx, i, hi, rfl⟩))))))))))))))
  eM := H.eM
  mT := H.mT
  mR := H.mR
  oB := owns_of_block H.oB fun b hb => e b (by unfold Used; simp [hb])
  eB x hx b hb := (H.eB x hx b hb).of_block (e _ (.inr (.inr (.inr (.inr (.inr (.inr (.inr (.inr (.inr (.inr (.inr (.inr (.inr (.inr ⟨x, hx, hb⟩)))))))))))))))
  eV := H.eV
  mB := H.mB

theorem HeldInv.used_lt {w : World} {h : Nat} {s : HS} (H : HeldInv w h s) {b : Nat} (u : Used h s b) : b < w.heap.size := by
  rcases u with rfl | u | u | u | ⟨x, hx, rfl⟩ | ⟨x, hx, rfl⟩ | ⟨x, hx, i, hi, rfl⟩ | ⟨x, hx, hb⟩ | u | u | ⟨x, hx, hb⟩ | ⟨x, hx, hb⟩ | ⟨x, hx, i, hi, rfl⟩ | u | ⟨x, hx, hb⟩
  · exact H.wd.lt
  · exact (H.oP.lt b u).2
  · exact (H.oO.lt b u).2
  · exact (H.oS.lt b u).2
  · exact (H.eP x hx).lt
  · exact (H.eO x hx).lt
  · exact (H.eI x hx i hi).lt
  · exact (H.eS x hx b hb).lt
  · exact (H.oT.lt b u).2
  · exact (H.oR.lt b u).2
  · exact (H.eT x hx b hb).lt
  · exact (H.eR x hx b hb).lt
  · exact (H.eJ x hx i hi).lt
  · exact (H.oB.lt b u).2
  · exact (H.eB x hx b hb).lt

theorem HeldInv.below {w w' : World} {h : Nat} {s : HS} (H : HeldInv w h s) (hb : Below w.heap.size w w') : HeldInv w' h s :=
  H.of_blocks fun b u => hb.block b (H.used_lt u)

/-- The element type of a block. -/
def tyOf (w : World) (b : Nat) : Option TypeId := match w.heap[b]? with
  | some (.cells _ t _) => some t
  | _ => none
theorem row_ty {w : World} {b : Nat} {t : TypeId} {n : Nat} {f : Nat → Value} (h : w.rowIs b t n f) : tyOf w b = some t := by
  obtain ⟨c, hb, _⟩ := h
  simp [tyOf, hb]
theorem rowIz_ty {w : World} {b : Nat} {t : TypeId} {n : Nat} {f : Nat → Value} (h : rowIz w b t n f) : tyOf w b = some t := by
  obtain ⟨c, q, hb, _⟩ := h
  simp [tyOf, hb]
theorem owns_ty {w : World} {base : Nat} {t : TypeId} {sz : Nat} {v : Value} {n : Nat} {xs : List Value} (h : w.ownsRow base t sz v n xs) {b : Nat} (hb : v.ownBlock = some b) : tyOf w b = some t := by
  rcases h.2 with ⟨rfl, _⟩ | ⟨g, cap, cur, rfl, _, hg, _⟩
  · simp [Value.ownBlock] at hb
  · simp [Value.ownBlock] at hb
    subst hb
    simp [tyOf, hg]

/-- What is used is of these types, and where it is of a list's type it is one of the lists. -/
theorem HeldInv.used_pt {w : World} {h : Nat} {s : HS} (H : HeldInv w h s) {b : Nat} (u : Used h s b) (ht : tyOf w b = some 83) : (∃ e ∈ s.P, e.1 = b) ∨ ∃ e ∈ s.O, ∃ i, i < e.2.1 ∧ e.2.2.1 i = b := by
  rcases u with rfl | u | u | u | u | ⟨x, hx, rfl⟩ | u | ⟨x, hx, hb⟩ | u | u | ⟨x, hx, hb⟩ | ⟨x, hx, hb⟩ | ⟨x, hx, i, hi, rfl⟩ | u | ⟨x, hx, hb⟩
  · rw [row_ty H.wd] at ht; simp at ht
  · rw [owns_ty H.oP u] at ht; simp at ht
  · rw [owns_ty H.oO u] at ht; simp at ht
  · rw [owns_ty H.oS u] at ht; simp at ht
  · exact .inl u
  · rw [row_ty (H.eO x hx)] at ht; simp at ht
  · exact .inr u
  · rw [row_ty (H.eS x hx b hb)] at ht; simp at ht
  · rw [owns_ty H.oT u] at ht; simp at ht
  · rw [owns_ty H.oR u] at ht; simp at ht
  · rw [row_ty (H.eT x hx b hb)] at ht; simp at ht
  · rw [row_ty (H.eR x hx b hb)] at ht; simp at ht
  · rw [row_ty (H.eJ x hx i hi)] at ht; simp at ht
  · rw [owns_ty H.oB u] at ht; simp at ht
  · rw [rowIz_ty (H.eB x hx b hb)] at ht; simp at ht
theorem HeldInv.used_pts {w : World} {h : Nat} {s : HS} (H : HeldInv w h s) {b : Nat} (u : Used h s b) (ht : tyOf w b = some 79) : ∃ e ∈ s.O, e.1 = b := by
  rcases u with rfl | u | u | u | ⟨x, hx, rfl⟩ | u | ⟨x, hx, i, hi, rfl⟩ | ⟨x, hx, hb⟩ | u | u | ⟨x, hx, hb⟩ | ⟨x, hx, hb⟩ | ⟨x, hx, i, hi, rfl⟩ | u | ⟨x, hx, hb⟩
  · rw [row_ty H.wd] at ht; simp at ht
  · rw [owns_ty H.oP u] at ht; simp at ht
  · rw [owns_ty H.oO u] at ht; simp at ht
  · rw [owns_ty H.oS u] at ht; simp at ht
  · rw [row_ty (H.eP x hx)] at ht; simp at ht
  · exact u
  · rw [row_ty (H.eI x hx i hi)] at ht; simp at ht
  · rw [row_ty (H.eS x hx b hb)] at ht; simp at ht
  · rw [owns_ty H.oT u] at ht; simp at ht
  · rw [owns_ty H.oR u] at ht; simp at ht
  · rw [row_ty (H.eT x hx b hb)] at ht; simp at ht
  · rw [row_ty (H.eR x hx b hb)] at ht; simp at ht
  · rw [row_ty (H.eJ x hx i hi)] at ht; simp at ht
  · rw [owns_ty H.oB u] at ht; simp at ht
  · rw [rowIz_ty (H.eB x hx b hb)] at ht; simp at ht
theorem HeldInv.used_seg {w : World} {h : Nat} {s : HS} (H : HeldInv w h s) {b : Nat} (u : Used h s b) (ht : tyOf w b = some 67) : ∃ e ∈ s.S, e.1 = some b := by
  rcases u with rfl | u | u | u | ⟨x, hx, rfl⟩ | ⟨x, hx, rfl⟩ | ⟨x, hx, i, hi, rfl⟩ | u | u | u | ⟨x, hx, hb⟩ | ⟨x, hx, hb⟩ | ⟨x, hx, i, hi, rfl⟩ | u | ⟨x, hx, hb⟩
  · rw [row_ty H.wd] at ht; simp at ht
  · rw [owns_ty H.oP u] at ht; simp at ht
  · rw [owns_ty H.oO u] at ht; simp at ht
  · rw [owns_ty H.oS u] at ht; simp at ht
  · rw [row_ty (H.eP x hx)] at ht; simp at ht
  · rw [row_ty (H.eO x hx)] at ht; simp at ht
  · rw [row_ty (H.eI x hx i hi)] at ht; simp at ht
  · exact u
  · rw [owns_ty H.oT u] at ht; simp at ht
  · rw [owns_ty H.oR u] at ht; simp at ht
  · rw [row_ty (H.eT x hx b hb)] at ht; simp at ht
  · rw [row_ty (H.eR x hx b hb)] at ht; simp at ht
  · rw [row_ty (H.eJ x hx i hi)] at ht; simp at ht
  · rw [owns_ty H.oB u] at ht; simp at ht
  · rw [rowIz_ty (H.eB x hx b hb)] at ht; simp at ht
theorem HeldInv.used_spot {w : World} {h : Nat} {s : HS} (H : HeldInv w h s) {b : Nat} (u : Used h s b) (ht : tyOf w b = some 65) : (∃ e ∈ s.T, e.1 = some b) ∨ ∃ e ∈ s.R, ∃ i, i < e.2.1 ∧ e.2.2.1 i = b := by
  rcases u with rfl | u | u | u | ⟨x, hx, rfl⟩ | ⟨x, hx, rfl⟩ | ⟨x, hx, i, hi, rfl⟩ | ⟨x, hx, hb⟩ | u | u | u | ⟨x, hx, hb⟩ | u | u | ⟨x, hx, hb⟩
  · rw [row_ty H.wd] at ht; simp at ht
  · rw [owns_ty H.oP u] at ht; simp at ht
  · rw [owns_ty H.oO u] at ht; simp at ht
  · rw [owns_ty H.oS u] at ht; simp at ht
  · rw [row_ty (H.eP x hx)] at ht; simp at ht
  · rw [row_ty (H.eO x hx)] at ht; simp at ht
  · rw [row_ty (H.eI x hx i hi)] at ht; simp at ht
  · rw [row_ty (H.eS x hx b hb)] at ht; simp at ht
  · rw [owns_ty H.oT u] at ht; simp at ht
  · rw [owns_ty H.oR u] at ht; simp at ht
  · exact .inl u
  · rw [row_ty (H.eR x hx b hb)] at ht; simp at ht
  · exact .inr u
  · rw [owns_ty H.oB u] at ht; simp at ht
  · rw [rowIz_ty (H.eB x hx b hb)] at ht; simp at ht
theorem HeldInv.used_ring {w : World} {h : Nat} {s : HS} (H : HeldInv w h s) {b : Nat} (u : Used h s b) (ht : tyOf w b = some 88) : ∃ e ∈ s.R, e.1 = some b := by
  rcases u with rfl | u | u | u | ⟨x, hx, rfl⟩ | ⟨x, hx, rfl⟩ | ⟨x, hx, i, hi, rfl⟩ | ⟨x, hx, hb⟩ | u | u | ⟨x, hx, hb⟩ | u | ⟨x, hx, i, hi, rfl⟩ | u | ⟨x, hx, hb⟩
  · rw [row_ty H.wd] at ht; simp at ht
  · rw [owns_ty H.oP u] at ht; simp at ht
  · rw [owns_ty H.oO u] at ht; simp at ht
  · rw [owns_ty H.oS u] at ht; simp at ht
  · rw [row_ty (H.eP x hx)] at ht; simp at ht
  · rw [row_ty (H.eO x hx)] at ht; simp at ht
  · rw [row_ty (H.eI x hx i hi)] at ht; simp at ht
  · rw [row_ty (H.eS x hx b hb)] at ht; simp at ht
  · rw [owns_ty H.oT u] at ht; simp at ht
  · rw [owns_ty H.oR u] at ht; simp at ht
  · rw [row_ty (H.eT x hx b hb)] at ht; simp at ht
  · exact u
  · rw [row_ty (H.eJ x hx i hi)] at ht; simp at ht
  · rw [owns_ty H.oB u] at ht; simp at ht
  · rw [rowIz_ty (H.eB x hx b hb)] at ht; simp at ht

theorem HeldInv.used_byte {w : World} {h : Nat} {s : HS} (H : HeldInv w h s) {b : Nat} (u : Used h s b) (ht : tyOf w b = some 5) : ∃ e ∈ s.B, e.1 = some b := by
  rcases u with rfl | u | u | u | ⟨x, hx, rfl⟩ | ⟨x, hx, rfl⟩ | ⟨x, hx, i, hi, rfl⟩ | ⟨x, hx, hb⟩ | u | u | ⟨x, hx, hb⟩ | ⟨x, hx, hb⟩ | ⟨x, hx, i, hi, rfl⟩ | u | u
  · rw [row_ty H.wd] at ht; simp at ht
  · rw [owns_ty H.oP u] at ht; simp at ht
  · rw [owns_ty H.oO u] at ht; simp at ht
  · rw [owns_ty H.oS u] at ht; simp at ht
  · rw [row_ty (H.eP x hx)] at ht; simp at ht
  · rw [row_ty (H.eO x hx)] at ht; simp at ht
  · rw [row_ty (H.eI x hx i hi)] at ht; simp at ht
  · rw [row_ty (H.eS x hx b hb)] at ht; simp at ht
  · rw [owns_ty H.oT u] at ht; simp at ht
  · rw [owns_ty H.oR u] at ht; simp at ht
  · rw [row_ty (H.eT x hx b hb)] at ht; simp at ht
  · rw [row_ty (H.eR x hx b hb)] at ht; simp at ht
  · rw [row_ty (H.eJ x hx i hi)] at ht; simp at ht
  · rw [owns_ty H.oB u] at ht; simp at ht
  · exact u

/-- All lists that are held lie below block T. -/
def HS.Under (s : HS) (T : Nat) : Prop := (∀ e ∈ s.P, e.1 < T) ∧ (∀ e ∈ s.O, e.1 < T ∧ ∀ i, i < e.2.1 → e.2.2.1 i < T) ∧ ∀ e ∈ s.S, ∀ b, e.1 = some b → b < T

theorem HeldInv.under {w : World} {h : Nat} {s : HS} (H : HeldInv w h s) : s.Under w.heap.size :=
  ⟨fun e he => (H.eP e he).lt, fun e he => ⟨(H.eO e he).lt, fun i hi => (H.eI e he i hi).lt⟩, fun e he b hb => (H.eS e he b hb).lt⟩

/-- A new mark's number. -/
theorem HeldInv.marked {w : World} {h : Nat} {s : HS} (H : HeldInv w h s) (hn : s.n + 1 ≤ 1099511627776) : HeldInv (w.setCell ⟨h, 2, none⟩ (.int .i64 (s.n + 1))) h { s with n := s.n + 1 } := by
  have hne : ∀ b, b ≠ h → (w.setCell ⟨h, 2, none⟩ (.int .i64 (s.n + 1))).heap[b]? = w.heap[b]? := fun b hb => blk_setCell_other _ _ _ _ (by simpa using hb)
  have ty := row_ty H.wd
  have P1 : ∀ b, tyOf w b ≠ some 37 → (w.setCell ⟨h, 2, none⟩ (.int .i64 (s.n + 1))).heap[b]? = w.heap[b]? := fun b hb => hne b (fun e => by rw [e] at hb; exact hb ty)
  refine { wd := ?_, oP := (owns_of_block H.oP fun b hb => P1 b (by rw [owns_ty H.oP hb]; decide)), oO := (owns_of_block H.oO fun b hb => P1 b (by rw [owns_ty H.oO hb]; decide)), oS := (owns_of_block H.oS fun b hb => P1 b (by rw [owns_ty H.oS hb]; decide)), oT := (owns_of_block H.oT fun b hb => P1 b (by rw [owns_ty H.oT hb]; decide)), oR := (owns_of_block H.oR fun b hb => P1 b (by rw [owns_ty H.oR hb]; decide)), eP := (fun x hx => (H.eP x hx).of_block (P1 _ (by rw [row_ty (H.eP x hx)]; decide))), eO := (fun x hx => (H.eO x hx).of_block (P1 _ (by rw [row_ty (H.eO x hx)]; decide))), eI := (fun x hx i hi => (H.eI x hx i hi).of_block (P1 _ (by rw [row_ty (H.eI x hx i hi)]; decide))), eS := (fun x hx b hb => (H.eS x hx b hb).of_block (P1 _ (by rw [row_ty (H.eS x hx b hb)]; decide))), eN := H.eN, lo := ?_, hi := hn, mP := H.mP, mO := H.mO, mS := H.mS, eT := (fun x hx b hb => (H.eT x hx b hb).of_block (P1 _ (by rw [row_ty (H.eT x hx b hb)]; decide))), eU := H.eU, eR := (fun x hx b hb => (H.eR x hx b hb).of_block (P1 _ (by rw [row_ty (H.eR x hx b hb)]; decide))), eJ := (fun x hx i hi => (H.eJ x hx i hi).of_block (P1 _ (by rw [row_ty (H.eJ x hx i hi)]; decide))), eM := H.eM, mT := H.mT, mR := H.mR, oB := (owns_of_block H.oB fun b hb => P1 b (by rw [owns_ty H.oB hb]; decide)), eB := (fun x hx b hb => (H.eB x hx b hb).of_block (P1 _ (by rw [rowIz_ty (H.eB x hx b hb)]; decide))), eV := H.eV, mB := H.mB }
  · refine (H.wd.set 2 _).congr fun q hq => ?_
    by_cases e : q = 2
    · subst e; simp [wc]
    · simp only [if_neg e, wc]
  · have := H.lo; show (s.P.length : Int) + s.O.length + s.S.length + s.T.length + s.R.length + s.B.length ≤ s.n + 1; omega

/-- Nothing but blocks of S has been written. -/
structure Touch (S : Nat → Prop) (w w' : World) : Prop where
  os : w'.os = w.os
  tape : w'.tape = w.tape
  output : w'.output = w.output
  size : w.heap.size ≤ w'.heap.size
  block : ∀ b, b < w.heap.size → ¬ S b → w'.heap[b]? = w.heap[b]?
theorem Touch.refl (S : Nat → Prop) (w : World) : Touch S w w := ⟨rfl, rfl, rfl, Nat.le_refl _, fun _ _ _ => rfl⟩
theorem Touch.trans {S : Nat → Prop} {a b c : World} (h : Touch S a b) (k : Touch S b c) : Touch S a c :=
  ⟨k.os.trans h.os, k.tape.trans h.tape, k.output.trans h.output, Nat.le_trans h.size k.size, fun x hx hS => (k.block x (Nat.lt_of_lt_of_le hx h.size) hS).trans (h.block x hx hS)⟩
/-- New blocks may be written freely. -/
theorem Touch.trans' {S S' : Nat → Prop} {a b c : World} (h : Touch S a b) (k : Touch S' b c) (hS : ∀ x, S' x → S x ∨ a.heap.size ≤ x) : Touch S a c :=
  ⟨k.os.trans h.os, k.tape.trans h.tape, k.output.trans h.output, Nat.le_trans h.size k.size, fun x hx hn => (k.block x (Nat.lt_of_lt_of_le hx h.size) (fun e => by rcases hS x e with e | e; exact hn e; omega)).trans (h.block x hx hn)⟩
theorem Touch.setCell {S : Nat → Prop} {w w' : World} (h : Touch S w w') {p : Addr} (hp : S p.block ∨ w.heap.size ≤ p.block) (u : Value) : Touch S w (w'.setCell p u) :=
  ⟨h.os, h.tape, h.output, by rw [nblk_setCell]; exact h.size, fun x hx hS => by
    rw [blk_setCell_other _ _ _ _ (fun e => by rcases hp with hp | hp; exact hS (by rw [e]; exact hp); omega)]; exact h.block x hx hS⟩
theorem Touch.alloc {S : Nat → Prop} {w w' : World} (h : Touch S w w') (o : Obj) : Touch S w (w'.alloc o) :=
  ⟨h.os, h.tape, h.output, by rw [nblk_alloc]; have := h.size; omega, fun x hx hS => by rw [blk_alloc_lt _ _ _ (by have := h.size; omega)]; exact h.block x hx hS⟩
theorem Touch.drew {S : Nat → Prop} {w w' : World} (h : Touch S w w') : Touch S w w'.drew := ⟨h.os, h.tape, h.output, h.size, h.block⟩
theorem Touch.drewN {S : Nat → Prop} {w w' : World} (h : Touch S w w') (n : Nat) : Touch S w (w'.drewN n) := ⟨h.os, h.tape, h.output, h.size, h.block⟩
theorem Touch.grown {S : Nat → Prop} {w w' w'' : World} {row : Option Nat} (h : Touch S w w') (hg : w'.grownBy w'' row) (hr : ∀ b, row = some b → S b ∨ w.heap.size ≤ b) : Touch S w w'' :=
  ⟨hg.os.trans h.os, hg.tape.trans h.tape, hg.output.trans h.output, Nat.le_trans h.size hg.size, fun x hx hS => by
    rw [hg.block x (Nat.lt_of_lt_of_le hx h.size) (fun e => by rcases hr x e.symm with e | e; exact hS e; omega)]; exact h.block x hx hS⟩
theorem Touch.below {S : Nat → Prop} {w w' : World} (h : Touch S w w') {B : Nat} (hB : B ≤ w.heap.size) (hS : ∀ b, S b → B ≤ b) : Below B w w' :=
  ⟨h.os, h.tape, h.output, h.size, fun x hx => h.block x (by omega) (fun e => by have := hS x e; omega)⟩
theorem Touch.of_below {S : Nat → Prop} {w w' w'' : World} (h : Touch S w w') (hb : Below w'.heap.size w' w'') : Touch S w w'' :=
  h.trans' (S' := fun _ => False) ⟨hb.os, hb.tape, hb.output, hb.size, fun x hx _ => hb.block x hx⟩ (fun _ e => e.elim)
theorem Touch.row {S : Nat → Prop} {w w' : World} (h : Touch S w w') {b : Nat} {t : TypeId} {n : Nat} {f : Nat → Value} (hr : w.rowIs b t n f) (hS : ¬ S b) : w'.rowIs b t n f :=
  hr.of_block (h.block b hr.lt hS)
theorem Touch.rowz {S : Nat → Prop} {w w' : World} (h : Touch S w w') {b : Nat} {t : TypeId} {n : Nat} {f : Nat → Value} (hr : rowIz w b t n f) (hS : ¬ S b) : rowIz w' b t n f :=
  hr.of_block (h.block b hr.lt hS)
end Go.Proofs.YtkhcjkmifddlbabDoor
