/- Joined: Held, Spots, CrvP, PlaceB, SegsB, TraceV. -/
import Derived.Test.YtkhcjkmifddlbaaPart1
import Derived.Deep.AppendLies
/- Held -/
namespace Go.Proofs.Ytkhcjkmifddlbaa
open Go.RowKit Go.Deep

/-- The cells of a list of points, all marks. -/
def mkP (k : Int) (q : Nat) : Value := pc (fun _ => 2199023255552 + k) (fun _ => -7) (fun _ => 9) q
/-- The cells of a list of segments, all marks. -/
def mkS (k : Int) (q : Nat) : Value := .int .i64 (if q % 9 = 0 then 9 else if q % 9 % 2 = 1 then 2199023255552 + k else -7)

/-- The cells of a list of spots, all marks. -/
def mkT (k : Int) (q : Nat) : Value := .int .i64 (if q % 2 = 0 then 2199023255552 + k else -7)

/-- The number that stands at place q of bytes that are all marks. -/
def mkB (k : Int) (q : Nat) : Value := .int .u8 (IntKind.u8.wrap (k + (q : Int) * (1 + k / 256)))

/-- What is held. -/
structure HS where
  n : Int
  cs : Value
  rs : Value
  vP : Value
  vO : Value
  vS : Value
  vT : Value
  vR : Value
  vB : Value
  P : List (Nat × Nat × Int)
  O : List (Nat × Nat × (Nat → Nat) × Int)
  S : List (Option Nat × Nat × Int)
  T : List (Option Nat × Nat × Int)
  R : List (Option Nat × Nat × (Nat → Nat) × Int)
  B : List (Option Nat × Nat × Int)

/-- The cells of the caller's world. -/
def wc (s : HS) (q : Nat) : Value :=
  if q = 0 then s.cs else if q = 1 then s.rs else if q = 2 then .int .i64 s.n else if q = 3 then s.vP else if q = 4 then s.vO else if q = 5 then s.vS else if q = 6 then s.vT else if q = 7 then s.vR else s.vB

def peC (e : Nat × Nat × Int) : List Value := [.slice (some ⟨e.1, 0, none⟩) e.2.1 e.2.1, .int .i64 e.2.2]
def oeC (e : Nat × Nat × (Nat → Nat) × Int) : List Value := [.slice (some ⟨e.1, 0, none⟩) e.2.1 e.2.1, .int .i64 e.2.2.2]
def seC (e : Option Nat × Nat × Int) : List Value := [.slice (e.1.map fun b => ⟨b, 0, none⟩) e.2.1 e.2.1, .int .i64 e.2.2]

def reC (e : Option Nat × Nat × (Nat → Nat) × Int) : List Value := [.slice (e.1.map fun b => ⟨b, 0, none⟩) e.2.1 e.2.1, .int .i64 e.2.2.2]

/-- All that is held reads as its mark. -/
structure HeldInv (w : World) (h : Nat) (s : HS) : Prop where
  wd : w.rowIs h 35 9 (wc s)
  oP : w.ownsRow h 158 2 s.vP s.P.length (s.P.flatMap peC)
  oO : w.ownsRow h 160 2 s.vO s.O.length (s.O.flatMap oeC)
  oS : w.ownsRow h 111 2 s.vS s.S.length (s.S.flatMap seC)
  eP : ∀ e ∈ s.P, w.rowIs e.1 133 (e.2.1 * 3) (mkP e.2.2)
  eO : ∀ e ∈ s.O, w.rowIs e.1 62 e.2.1 (fun i => .slice (some ⟨e.2.2.1 i, 0, none⟩) 1 1)
  eI : ∀ e ∈ s.O, ∀ i, i < e.2.1 → w.rowIs (e.2.2.1 i) 133 3 (mkP e.2.2.2)
  eS : ∀ e ∈ s.S, ∀ b, e.1 = some b → w.rowIs b 44 (e.2.1 * 9) (mkS e.2.2)
  eN : ∀ e ∈ s.S, e.1 = none → e.2.1 = 0
  lo : (s.P.length : Int) + (s.O.length : Int) + (s.S.length : Int) + (s.T.length : Int) + (s.R.length : Int) + (s.B.length : Int) ≤ s.n
  hi : s.n ≤ 1099511627776
  mP : ∀ e ∈ s.P, 0 ≤ e.2.2 ∧ e.2.2 ≤ 1099511627776 ∧ e.2.1 ≤ 1099511627776
  mO : ∀ e ∈ s.O, 0 ≤ e.2.2.2 ∧ e.2.2.2 ≤ 1099511627776 ∧ e.2.1 ≤ 1099511627776
  mS : ∀ e ∈ s.S, 0 ≤ e.2.2 ∧ e.2.2 ≤ 1099511627776 ∧ (e.2.1 : Int) ≤ 9223372036854775807
  oT : w.ownsRow h 164 2 s.vT s.T.length (s.T.flatMap seC)
  oR : w.ownsRow h 166 2 s.vR s.R.length (s.R.flatMap reC)
  eT : ∀ e ∈ s.T, ∀ b, e.1 = some b → w.rowIs b 41 (e.2.1 * 2) (mkT e.2.2)
  eU : ∀ e ∈ s.T, e.1 = none → e.2.1 = 0
  eR : ∀ e ∈ s.R, ∀ b, e.1 = some b → w.rowIs b 48 e.2.1 (fun i => .slice (some ⟨e.2.2.1 i, 0, none⟩) 1 1)
  eJ : ∀ e ∈ s.R, ∀ i, i < e.2.1 → w.rowIs (e.2.2.1 i) 41 2 (mkT e.2.2.2)
  eM : ∀ e ∈ s.R, e.1 = none → e.2.1 = 0
  mT : ∀ e ∈ s.T, 0 ≤ e.2.2 ∧ e.2.2 ≤ 1099511627776 ∧ (e.2.1 : Int) ≤ 9223372036854775807
  mR : ∀ e ∈ s.R, 0 ≤ e.2.2.2 ∧ e.2.2.2 ≤ 1099511627776 ∧ (e.2.1 : Int) ≤ 9223372036854775807
  oB : w.ownsRow h 114 2 s.vB s.B.length (s.B.flatMap seC)
  eB : ∀ e ∈ s.B, ∀ b, e.1 = some b → w.rowIs b 5 e.2.1 (mkB e.2.2)
  eV : ∀ e ∈ s.B, e.1 = none → e.2.1 = 0
  mB : ∀ e ∈ s.B, 0 ≤ e.2.2 ∧ e.2.2 ≤ 1099511627776 ∧ (e.2.1 : Int) ≤ 9223372036854775807

/-- The blocks in which it lies. -/
def Used (h : Nat) (s : HS) (b : Nat) : Prop :=
  b = h ∨ s.vP.ownBlock = some b ∨ s.vO.ownBlock = some b ∨ s.vS.ownBlock = some b ∨ (∃ e ∈ s.P, e.1 = b) ∨ (∃ e ∈ s.O, e.1 = b) ∨ (∃ e ∈ s.O, ∃ i, i < e.2.1 ∧ e.2.2.1 i = b) ∨ (∃ e ∈ s.S, e.1 = some b) ∨
  s.vT.ownBlock = some b ∨ s.vR.ownBlock = some b ∨ (∃ e ∈ s.T, e.1 = some b) ∨ (∃ e ∈ s.R, e.1 = some b) ∨ (∃ e ∈ s.R, ∃ i, i < e.2.1 ∧ e.2.2.1 i = b) ∨ s.vB.ownBlock = some b ∨ (∃ e ∈ s.B, e.1 = some b)

theorem owns_of_block {w w' : World} {base : Nat} {t : TypeId} {sz : Nat} {v : Value} {n : Nat} {xs : List Value} (h : w.ownsRow base t sz v n xs) (e : ∀ b, v.ownBlock = some b → w'.heap[b]? = w.heap[b]?) : w'.ownsRow base t sz v n xs := by
  refine ⟨h.1, ?_⟩
  rcases h.2 with hn | ⟨g, cap, cur, rfl, hb, hg, rest⟩
  · exact .inl hn
  · exact .inr ⟨g, cap, cur, rfl, hb, (e g rfl).trans hg, rest⟩

theorem HeldInv.of_blocks {w w' : World} {h : Nat} {s : HS} (H : HeldInv w h s) (e : ∀ b, Used h s b → w'.heap[b]? = w.heap[b]?) : HeldInv w' h s where
  wd := H.wd.of_block (e h (.inl rfl))
  oP := owns_of_block H.oP fun b hb => e b (by unfold Used; simp [hb])
  oO := owns_of_block H.oO fun b hb => e b (by unfold Used; simp [hb])
  oS := owns_of_block H.oS fun b hb => e b (by unfold Used; simp [hb])
  eP x hx := (H.eP x hx).of_block (e _ (.inr (.inr (.inr (.inr (.inl ⟨x, hx, rfl⟩))))))
  eO x hx := (H.eO x hx).of_block (e _ (.inr (.inr (.inr (.inr (.inr (.inl ⟨x, hx, rfl⟩)))))))
  eI x hx i hi := (H.eI x hx i hi).of_block (e _ (.inr (.inr (.inr (.inr (.inr (.inr (.inl ⟨x, hx, i, hi, rfl⟩))))))))
  eS x hx b hb := (H.eS x hx b hb).of_block (e _ (.inr (.inr (.inr (.inr (.inr (.inr (.inr (.inl ⟨x, hx, hb⟩)))))))))
  eN := H.eN
  lo := H.lo
  hi := H.hi
  mP := H.mP
  mO := H.mO
  mS := H.mS
  oT := owns_of_block H.oT fun b hb => e b (by unfold Used; simp [hb])
  oR := owns_of_block H.oR fun b hb => e b (by unfold Used; simp [hb])
  eT x hx b hb := (H.eT x hx b hb).of_block (e _ (.inr (.inr (.inr (.inr (.inr (.inr (.inr (.inr (.inr (.inr (.inl ⟨x, hx, hb⟩))))))))))))
  eU := H.eU
  eR x hx b hb := (H.eR x hx b hb).of_block (e _ (.inr (.inr (.inr (.inr (.inr (.inr (.inr (.inr (.inr (.inr (.inr (.inl ⟨x, hx, hb⟩)))))))))))))
  eJ x hx i hi := (H.eJ x hx i hi).of_block (e _ (.inr (.inr (.inr (.inr (.inr (.inr (.inr (.inr (.inr (.inr (.inr (.inr (.inl ⟨x, hx, i, hi, rfl⟩))))))))))))))
  eM := H.eM
  mT := H.mT
  mR := H.mR
  oB := owns_of_block H.oB fun b hb => e b (by unfold Used; simp [hb])
  eB x hx b hb := (H.eB x hx b hb).of_block (e _ (.inr (.inr (.inr (.inr (.inr (.inr (.inr (.inr (.inr (.inr (.inr (.inr (.inr (.inr ⟨x, hx, hb⟩)))))))))))))))
  eV := H.eV
  mB := H.mB

theorem HeldInv.used_lt {w : World} {h : Nat} {s : HS} (H : HeldInv w h s) {b : Nat} (u : Used h s b) : b < w.heap.size := by
  rcases u with rfl | u | u | u | ⟨x, hx, rfl⟩ | ⟨x, hx, rfl⟩ | ⟨x, hx, i, hi, rfl⟩ | ⟨x, hx, hb⟩ | u | u | ⟨x, hx, hb⟩ | ⟨x, hx, hb⟩ | ⟨x, hx, i, hi, rfl⟩ | u | ⟨x, hx, hb⟩
  · exact H.wd.lt
  · exact (H.oP.lt b u).2
  · exact (H.oO.lt b u).2
  · exact (H.oS.lt b u).2
  · exact (H.eP x hx).lt
  · exact (H.eO x hx).lt
  · exact (H.eI x hx i hi).lt
  · exact (H.eS x hx b hb).lt
  · exact (H.oT.lt b u).2
  · exact (H.oR.lt b u).2
  · exact (H.eT x hx b hb).lt
  · exact (H.eR x hx b hb).lt
  · exact (H.eJ x hx i hi).lt
  · exact (H.oB.lt b u).2
  · exact (H.eB x hx b hb).lt

theorem HeldInv.below {w w' : World} {h : Nat} {s : HS} (H : HeldInv w h s) (hb : Below w.heap.size w w') : HeldInv w' h s :=
  H.of_blocks fun b u => hb.block b (H.used_lt u)

/-- The element type of a block. -/
def tyOf (w : World) (b : Nat) : Option TypeId := match w.heap[b]? with
  | some (.cells _ t _) => some t
  | _ => none
theorem row_ty {w : World} {b : Nat} {t : TypeId} {n : Nat} {f : Nat → Value} (h : w.rowIs b t n f) : tyOf w b = some t := by
  obtain ⟨c, hb, _⟩ := h
  simp [tyOf, hb]
theorem owns_ty {w : World} {base : Nat} {t : TypeId} {sz : Nat} {v : Value} {n : Nat} {xs : List Value} (h : w.ownsRow base t sz v n xs) {b : Nat} (hb : v.ownBlock = some b) : tyOf w b = some t := by
  rcases h.2 with ⟨rfl, _⟩ | ⟨g, cap, cur, rfl, _, hg, _⟩
  · simp [Value.ownBlock] at hb
  · simp [Value.ownBlock] at hb
    subst hb
    simp [tyOf, hg]

/-- What is used is of these types, and where it is of a list's type it is one of the lists. -/
theorem HeldInv.used_pt {w : World} {h : Nat} {s : HS} (H : HeldInv w h s) {b : Nat} (u : Used h s b) (ht : tyOf w b = some 133) : (∃ e ∈ s.P, e.1 = b) ∨ ∃ e ∈ s.O, ∃ i, i < e.2.1 ∧ e.2.2.1 i = b := by
  rcases u with rfl | u | u | u | u | ⟨x, hx, rfl⟩ | u | ⟨x, hx, hb⟩ | u | u | ⟨x, hx, hb⟩ | ⟨x, hx, hb⟩ | ⟨x, hx, i, hi, rfl⟩ | u | ⟨x, hx, hb⟩
  · rw [row_ty H.wd] at ht; simp at ht
  · rw [owns_ty H.oP u] at ht; simp at ht
  · rw [owns_ty H.oO u] at ht; simp at ht
  · rw [owns_ty H.oS u] at ht; simp at ht
  · exact .inl u
  · rw [row_ty (H.eO x hx)] at ht; simp at ht
  · exact .inr u
  · rw [row_ty (H.eS x hx b hb)] at ht; simp at ht
  · rw [owns_ty H.oT u] at ht; simp at ht
  · rw [owns_ty H.oR u] at ht; simp at ht
  · rw [row_ty (H.eT x hx b hb)] at ht; simp at ht
  · rw [row_ty (H.eR x hx b hb)] at ht; simp at ht
  · rw [row_ty (H.eJ x hx i hi)] at ht; simp at ht
  · rw [owns_ty H.oB u] at ht; simp at ht
  · rw [row_ty (H.eB x hx b hb)] at ht; simp at ht
theorem HeldInv.used_pts {w : World} {h : Nat} {s : HS} (H : HeldInv w h s) {b : Nat} (u : Used h s b) (ht : tyOf w b = some 62) : ∃ e ∈ s.O, e.1 = b := by
  rcases u with rfl | u | u | u | ⟨x, hx, rfl⟩ | u | ⟨x, hx, i, hi, rfl⟩ | ⟨x, hx, hb⟩ | u | u | ⟨x, hx, hb⟩ | ⟨x, hx, hb⟩ | ⟨x, hx, i, hi, rfl⟩ | u | ⟨x, hx, hb⟩
  · rw [row_ty H.wd] at ht; simp at ht
  · rw [owns_ty H.oP u] at ht; simp at ht
  · rw [owns_ty H.oO u] at ht; simp at ht
  · rw [owns_ty H.oS u] at ht; simp at ht
  · rw [row_ty (H.eP x hx)] at ht; simp at ht
  · exact u
  · rw [row_ty (H.eI x hx i hi)] at ht; simp at ht
  · rw [row_ty (H.eS x hx b hb)] at ht; simp at ht
  · rw [owns_ty H.oT u] at ht; simp at ht
  · rw [owns_ty H.oR u] at ht; simp at ht
  · rw [row_ty (H.eT x hx b hb)] at ht; simp at ht
  · rw [row_ty (H.eR x hx b hb)] at ht; simp at ht
  · rw [row_ty (H.eJ x hx i hi)] at ht; simp at ht
  · rw [owns_ty H.oB u] at ht; simp at ht
  · rw [row_ty (H.eB x hx b hb)] at ht; simp at ht
theorem HeldInv.used_seg {w : World} {h : Nat} {s : HS} (H : HeldInv w h s) {b : Nat} (u : Used h s b) (ht : tyOf w b = some 44) : ∃ e ∈ s.S, e.1 = some b := by
  rcases u with rfl | u | u | u | ⟨x, hx, rfl⟩ | ⟨x, hx, rfl⟩ | ⟨x, hx, i, hi, rfl⟩ | u | u | u | ⟨x, hx, hb⟩ | ⟨x, hx, hb⟩ | ⟨x, hx, i, hi, rfl⟩ | u | ⟨x, hx, hb⟩
  · rw [row_ty H.wd] at ht; simp at ht
  · rw [owns_ty H.oP u] at ht; simp at ht
  · rw [owns_ty H.oO u] at ht; simp at ht
  · rw [owns_ty H.oS u] at ht; simp at ht
  · rw [row_ty (H.eP x hx)] at ht; simp at ht
  · rw [row_ty (H.eO x hx)] at ht; simp at ht
  · rw [row_ty (H.eI x hx i hi)] at ht; simp at ht
  · exact u
  · rw [owns_ty H.oT u] at ht; simp at ht
  · rw [owns_ty H.oR u] at ht; simp at ht
  · rw [row_ty (H.eT x hx b hb)] at ht; simp at ht
  · rw [row_ty (H.eR x hx b hb)] at ht; simp at ht
  · rw [row_ty (H.eJ x hx i hi)] at ht; simp at ht
  · rw [owns_ty H.oB u] at ht; simp at ht
  · rw [row_ty (H.eB x hx b hb)] at ht; simp at ht
theorem HeldInv.used_spot {w : World} {h : Nat} {s : HS} (H : HeldInv w h s) {b : Nat} (u : Used h s b) (ht : tyOf w b = some 41) : (∃ e ∈ s.T, e.1 = some b) ∨ ∃ e ∈ s.R, ∃ i, i < e.2.1 ∧ e.2.2.1 i = b := by
  rcases u with rfl | u | u | u | ⟨x, hx, rfl⟩ | ⟨x, hx, rfl⟩ | ⟨x, hx, i, hi, rfl⟩ | ⟨x, hx, hb⟩ | u | u | u | ⟨x, hx, hb⟩ | u | u | ⟨x, hx, hb⟩
  · rw [row_ty H.wd] at ht; simp at ht
  · rw [owns_ty H.oP u] at ht; simp at ht
  · rw [owns_ty H.oO u] at ht; simp at ht
  · rw [owns_ty H.oS u] at ht; simp at ht
  · rw [row_ty (H.eP x hx)] at ht; simp at ht
  · rw [row_ty (H.eO x hx)] at ht; simp at ht
  · rw [row_ty (H.eI x hx i hi)] at ht; simp at ht
  · rw [row_ty (H.eS x hx b hb)] at ht; simp at ht
  · rw [owns_ty H.oT u] at ht; simp at ht
  · rw [owns_ty H.oR u] at ht; simp at ht
  · exact .inl u
  · rw [row_ty (H.eR x hx b hb)] at ht; simp at ht
  · exact .inr u
  · rw [owns_ty H.oB u] at ht; simp at ht
  · rw [row_ty (H.eB x hx b hb)] at ht; simp at ht
theorem HeldInv.used_ring {w : World} {h : Nat} {s : HS} (H : HeldInv w h s) {b : Nat} (u : Used h s b) (ht : tyOf w b = some 48) : ∃ e ∈ s.R, e.1 = some b := by
  rcases u with rfl | u | u | u | ⟨x, hx, rfl⟩ | ⟨x, hx, rfl⟩ | ⟨x, hx, i, hi, rfl⟩ | ⟨x, hx, hb⟩ | u | u | ⟨x, hx, hb⟩ | u | ⟨x, hx, i, hi, rfl⟩ | u | ⟨x, hx, hb⟩
  · rw [row_ty H.wd] at ht; simp at ht
  · rw [owns_ty H.oP u] at ht; simp at ht
  · rw [owns_ty H.oO u] at ht; simp at ht
  · rw [owns_ty H.oS u] at ht; simp at ht
  · rw [row_ty (H.eP x hx)] at ht; simp at ht
  · rw [row_ty (H.eO x hx)] at ht; simp at ht
  · rw [row_ty (H.eI x hx i hi)] at ht; simp at ht
  · rw [row_ty (H.eS x hx b hb)] at ht; simp at ht
  · rw [owns_ty H.oT u] at ht; simp at ht
  · rw [owns_ty H.oR u] at ht; simp at ht
  · rw [row_ty (H.eT x hx b hb)] at ht; simp at ht
  · exact u
  · rw [row_ty (H.eJ x hx i hi)] at ht; simp at ht
  · rw [owns_ty H.oB u] at ht; simp at ht
  · rw [row_ty (H.eB x hx b hb)] at ht; simp at ht

theorem HeldInv.used_byte {w : World} {h : Nat} {s : HS} (H : HeldInv w h s) {b : Nat} (u : Used h s b) (ht : tyOf w b = some 5) : ∃ e ∈ s.B, e.1 = some b := by
  rcases u with rfl | u | u | u | ⟨x, hx, rfl⟩ | ⟨x, hx, rfl⟩ | ⟨x, hx, i, hi, rfl⟩ | ⟨x, hx, hb⟩ | u | u | ⟨x, hx, hb⟩ | ⟨x, hx, hb⟩ | ⟨x, hx, i, hi, rfl⟩ | u | u
  · rw [row_ty H.wd] at ht; simp at ht
  · rw [owns_ty H.oP u] at ht; simp at ht
  · rw [owns_ty H.oO u] at ht; simp at ht
  · rw [owns_ty H.oS u] at ht; simp at ht
  · rw [row_ty (H.eP x hx)] at ht; simp at ht
  · rw [row_ty (H.eO x hx)] at ht; simp at ht
  · rw [row_ty (H.eI x hx i hi)] at ht; simp at ht
  · rw [row_ty (H.eS x hx b hb)] at ht; simp at ht
  · rw [owns_ty H.oT u] at ht; simp at ht
  · rw [owns_ty H.oR u] at ht; simp at ht
  · rw [row_ty (H.eT x hx b hb)] at ht; simp at ht
  · rw [row_ty (H.eR x hx b hb)] at ht; simp at ht
  · rw [row_ty (H.eJ x hx i hi)] at ht; simp at ht
  · rw [owns_ty H.oB u] at ht; simp at ht
  · exact u

/-- All lists that are held lie below block T. -/
def HS.Under (s : HS) (T : Nat) : Prop := (∀ e ∈ s.P, e.1 < T) ∧ (∀ e ∈ s.O, e.1 < T ∧ ∀ i, i < e.2.1 → e.2.2.1 i < T) ∧ ∀ e ∈ s.S, ∀ b, e.1 = some b → b < T

theorem HeldInv.under {w : World} {h : Nat} {s : HS} (H : HeldInv w h s) : s.Under w.heap.size :=
  ⟨fun e he => (H.eP e he).lt, fun e he => ⟨(H.eO e he).lt, fun i hi => (H.eI e he i hi).lt⟩, fun e he b hb => (H.eS e he b hb).lt⟩

/-- A new mark's number. -/
theorem HeldInv.marked {w : World} {h : Nat} {s : HS} (H : HeldInv w h s) (hn : s.n + 1 ≤ 1099511627776) : HeldInv (w.setCell ⟨h, 2, none⟩ (.int .i64 (s.n + 1))) h { s with n := s.n + 1 } := by
  have hne : ∀ b, b ≠ h → (w.setCell ⟨h, 2, none⟩ (.int .i64 (s.n + 1))).heap[b]? = w.heap[b]? := fun b hb => blk_setCell_other _ _ _ _ (by simpa using hb)
  have ty := row_ty H.wd
  have P1 : ∀ b, tyOf w b ≠ some 35 → (w.setCell ⟨h, 2, none⟩ (.int .i64 (s.n + 1))).heap[b]? = w.heap[b]? := fun b hb => hne b (fun e => by rw [e] at hb; exact hb ty)
  refine { wd := ?_, oP := (owns_of_block H.oP fun b hb => P1 b (by rw [owns_ty H.oP hb]; decide)), oO := (owns_of_block H.oO fun b hb => P1 b (by rw [owns_ty H.oO hb]; decide)), oS := (owns_of_block H.oS fun b hb => P1 b (by rw [owns_ty H.oS hb]; decide)), oT := (owns_of_block H.oT fun b hb => P1 b (by rw [owns_ty H.oT hb]; decide)), oR := (owns_of_block H.oR fun b hb => P1 b (by rw [owns_ty H.oR hb]; decide)), eP := (fun x hx => (H.eP x hx).of_block (P1 _ (by rw [row_ty (H.eP x hx)]; decide))), eO := (fun x hx => (H.eO x hx).of_block (P1 _ (by rw [row_ty (H.eO x hx)]; decide))), eI := (fun x hx i hi => (H.eI x hx i hi).of_block (P1 _ (by rw [row_ty (H.eI x hx i hi)]; decide))), eS := (fun x hx b hb => (H.eS x hx b hb).of_block (P1 _ (by rw [row_ty (H.eS x hx b hb)]; decide))), eN := H.eN, lo := ?_, hi := hn, mP := H.mP, mO := H.mO, mS := H.mS, eT := (fun x hx b hb => (H.eT x hx b hb).of_block (P1 _ (by rw [row_ty (H.eT x hx b hb)]; decide))), eU := H.eU, eR := (fun x hx b hb => (H.eR x hx b hb).of_block (P1 _ (by rw [row_ty (H.eR x hx b hb)]; decide))), eJ := (fun x hx i hi => (H.eJ x hx i hi).of_block (P1 _ (by rw [row_ty (H.eJ x hx i hi)]; decide))), eM := H.eM, mT := H.mT, mR := H.mR, oB := (owns_of_block H.oB fun b hb => P1 b (by rw [owns_ty H.oB hb]; decide)), eB := (fun x hx b hb => (H.eB x hx b hb).of_block (P1 _ (by rw [row_ty (H.eB x hx b hb)]; decide))), eV := H.eV, mB := H.mB }
  · refine (H.wd.set 2 _).congr fun q hq => ?_
    by_cases e : q = 2
    · subst e; simp [wc]
    · simp only [if_neg e, wc]
  · have := H.lo; show (s.P.length : Int) + s.O.length + s.S.length + s.T.length + s.R.length + s.B.length ≤ s.n + 1; omega

/-- Nothing but blocks of S has been written. -/
structure Touch (S : Nat → Prop) (w w' : World) : Prop where
  os : w'.os = w.os
  tape : w'.tape = w.tape
  output : w'.output = w.output
  size : w.heap.size ≤ w'.heap.size
  block : ∀ b, b < w.heap.size → ¬ S b → w'.heap[b]? = w.heap[b]?
theorem Touch.refl (S : Nat → Prop) (w : World) : Touch S w w := ⟨rfl, rfl, rfl, Nat.le_refl _, fun _ _ _ => rfl⟩
theorem Touch.trans {S : Nat → Prop} {a b c : World} (h : Touch S a b) (k : Touch S b c) : Touch S a c :=
  ⟨k.os.trans h.os, k.tape.trans h.tape, k.output.trans h.output, Nat.le_trans h.size k.size, fun x hx hS => (k.block x (Nat.lt_of_lt_of_le hx h.size) hS).trans (h.block x hx hS)⟩
/-- New blocks may be written freely. -/
theorem Touch.trans' {S S' : Nat → Prop} {a b c : World} (h : Touch S a b) (k : Touch S' b c) (hS : ∀ x, S' x → S x ∨ a.heap.size ≤ x) : Touch S a c :=
  ⟨k.os.trans h.os, k.tape.trans h.tape, k.output.trans h.output, Nat.le_trans h.size k.size, fun x hx hn => (k.block x (Nat.lt_of_lt_of_le hx h.size) (fun e => by rcases hS x e with e | e; exact hn e; omega)).trans (h.block x hx hn)⟩
theorem Touch.setCell {S : Nat → Prop} {w w' : World} (h : Touch S w w') {p : Addr} (hp : S p.block ∨ w.heap.size ≤ p.block) (u : Value) : Touch S w (w'.setCell p u) :=
  ⟨h.os, h.tape, h.output, by rw [nblk_setCell]; exact h.size, fun x hx hS => by
    rw [blk_setCell_other _ _ _ _ (fun e => by rcases hp with hp | hp; exact hS (by rw [e]; exact hp); omega)]; exact h.block x hx hS⟩
theorem Touch.alloc {S : Nat → Prop} {w w' : World} (h : Touch S w w') (o : Obj) : Touch S w (w'.alloc o) :=
  ⟨h.os, h.tape, h.output, by rw [nblk_alloc]; have := h.size; omega, fun x hx hS => by rw [blk_alloc_lt _ _ _ (by have := h.size; omega)]; exact h.block x hx hS⟩
theorem Touch.drew {S : Nat → Prop} {w w' : World} (h : Touch S w w') : Touch S w w'.drew := ⟨h.os, h.tape, h.output, h.size, h.block⟩
theorem Touch.drewN {S : Nat → Prop} {w w' : World} (h : Touch S w w') (n : Nat) : Touch S w (w'.drewN n) := ⟨h.os, h.tape, h.output, h.size, h.block⟩
theorem Touch.grown {S : Nat → Prop} {w w' w'' : World} {row : Option Nat} (h : Touch S w w') (hg : w'.grownBy w'' row) (hr : ∀ b, row = some b → S b ∨ w.heap.size ≤ b) : Touch S w w'' :=
  ⟨hg.os.trans h.os, hg.tape.trans h.tape, hg.output.trans h.output, Nat.le_trans h.size hg.size, fun x hx hS => by
    rw [hg.block x (Nat.lt_of_lt_of_le hx h.size) (fun e => by rcases hr x e.symm with e | e; exact hS e; omega)]; exact h.block x hx hS⟩
theorem Touch.below {S : Nat → Prop} {w w' : World} (h : Touch S w w') {B : Nat} (hB : B ≤ w.heap.size) (hS : ∀ b, S b → B ≤ b) : Below B w w' :=
  ⟨h.os, h.tape, h.output, h.size, fun x hx => h.block x (by omega) (fun e => by have := hS x e; omega)⟩
theorem Touch.of_below {S : Nat → Prop} {w w' w'' : World} (h : Touch S w w') (hb : Below w'.heap.size w' w'') : Touch S w w'' :=
  h.trans' (S' := fun _ => False) ⟨hb.os, hb.tape, hb.output, hb.size, fun x hx _ => hb.block x hx⟩ (fun _ e => e.elim)
theorem Touch.row {S : Nat → Prop} {w w' : World} (h : Touch S w w') {b : Nat} {t : TypeId} {n : Nat} {f : Nat → Value} (hr : w.rowIs b t n f) (hS : ¬ S b) : w'.rowIs b t n f :=
  hr.of_block (h.block b hr.lt hS)
end Go.Proofs.Ytkhcjkmifddlbaa

/- Spots -/
namespace Go.Proofs.Ytkhcjkmifddlbaa
open Go.RowKit Go.Deep

/-- The cells of a spot. -/
def spC (p : Int × Int) : List Value := [.int .i64 p.1, .int .i64 p.2]
theorem info_spot : (Try.prog.info? 41).map (fun i => (i.zero, i.size, i.bytes)) = some (some (.agg #[.int .i64 0, .int .i64 0]), 2, 16) := by kernel_rfl
theorem push_sp {w : World} {base : Nat} {v : Value} {l l' : List (Int × Int)} {p : Int × Int} {m : Nat} (h : w.ownsRow base 41 2 v m (l.flatMap spC ++ [.int .i64 p.1, .int .i64 p.2])) (hl : l' = l ++ [p]) (hm : m = l.length + 1) : w.ownsRow base 41 2 v l'.length (l'.flatMap spC) := by
  have e1 : l'.length = m := by rw [hl, hm]; simp
  have e2 : l'.flatMap spC = l.flatMap spC ++ [.int .i64 p.1, .int .i64 p.2] := by rw [hl]; simp [spC]
  rw [e1, e2]; exact h
theorem owns_mono {w : World} {base base' : Nat} {t : TypeId} {sz : Nat} {v : Value} {n : Nat} {xs : List Value} (h : w.ownsRow base t sz v n xs) (hb : base' ≤ base) : w.ownsRow base' t sz v n xs := by
  refine ⟨h.1, ?_⟩
  rcases h.2 with hn | ⟨g, cap, cur, rfl, hb', rest⟩
  · exact .inl hn
  · exact .inr ⟨g, cap, cur, rfl, Nat.le_trans hb hb', rest⟩
theorem news_sp (W : World) (cs : List Value) (t : TypeId) (H : Nat) (hH : W.heap.size = H) : ∀ (j : Nat) (u : Value), cs[j]? = some u → (W.alloc (.cells cs.toArray t)).cell? ((⟨H, 0, none⟩ : Addr).add j) = some u := by
  intro j u hj
  subst hH
  have e2 : ((⟨W.heap.size, 0, none⟩ : Addr).add j) = ⟨W.heap.size, j, none⟩ := by
    unfold Addr.add
    split
    · rename_i h; simp_all
    · simp
  have hlt : j < cs.length := by
    rcases Nat.lt_or_ge j cs.length with h | h
    · exact h
    · rw [List.getElem?_eq_none h] at hj; cases hj
  have hr := (World.rowIs_alloc W cs.toArray t (fun i => cs[i]?.getD u) (fun i hi => by simp at hi; simp [hi])).cell (i := j) (by simpa using hlt)
  rw [e2, hr]
  simp [hj]
theorem one_two (a b : Int) : ∀ u ∈ [Value.int .i64 a, .int .i64 b], u.oneCell' = true := by
  intro u hu
  simp at hu
  rcases hu with rfl | rfl <;> rfl
theorem flat2_len (l : List (Int × Int)) : (l.flatMap spC).length = l.length * 2 := by
  induction l with
  | nil => simp
  | cons x r ih => rw [List.flatMap_cons, List.length_append, ih]; simp [spC]; omega
theorem flat2_one (l : List (Int × Int)) : ∀ u ∈ l.flatMap spC, u.oneCell' = true := by
  intro u hu
  rw [List.mem_flatMap] at hu
  obtain ⟨g, _, hg⟩ := hu
  exact one_two g.1 g.2 u hg
theorem flat2_at : ∀ (l : List (Int × Int)) (i : Nat) (hi : i < l.length), (l.flatMap spC)[i * 2]? = some (.int .i64 l[i].1) ∧ (l.flatMap spC)[i * 2 + 1]? = some (.int .i64 l[i].2) := by
  intro l
  induction l with
  | nil => intro i hi; simp at hi
  | cons x r ih =>
    intro i hi
    rw [List.flatMap_cons]
    have h2 : (spC x).length = 2 := rfl
    cases i with
    | zero => simp [spC]
    | succ j =>
      have := ih j (by simpa using hi)
      simp only [List.getElem_cons_succ]
      rw [List.getElem?_append_right (by omega), List.getElem?_append_right (by omega), h2, show (j + 1) * 2 - 2 = j * 2 by omega, show (j + 1) * 2 + 1 - 2 = j * 2 + 1 by omega]
      exact this
theorem owns_sp {w : World} {base b cap : Nat} {t : TypeId} {l : List (Int × Int)} (h : w.ownsRow base t 2 (.slice (some ⟨b, 0, none⟩) l.length cap) l.length (l.flatMap spC)) (i : Nat) (hi : i < l.length) :
    w.cell? ⟨b, i * 2, none⟩ = some (.int .i64 l[i].1) ∧ w.cell? ⟨b, i * 2 + 1, none⟩ = some (.int .i64 l[i].2) := by
  have e := flat2_at l i hi
  have e0 := h.cellAt (i * 2) (by omega)
  have e1 := h.cellAt (i * 2 + 1) (by omega)
  rw [e.1] at e0
  rw [e.2] at e1
  exact ⟨e0, e1⟩
theorem owns_formN {w : World} {base : Nat} {t : TypeId} {z : Nat} {v : Value} {n : Nat} {xs : List Value} (h : w.ownsRow base t z v n xs) : ∃ ao cap, v = .slice ao n cap ∧ (0 < n → ∃ b, ao = some ⟨b, 0, none⟩) := by
  rcases h.2 with ⟨rfl, h0⟩ | ⟨g, cap, cur, rfl, _⟩
  · exact ⟨none, 0, by rw [h0], by omega⟩
  · exact ⟨some ⟨g, 0, none⟩, cap, rfl, fun _ => ⟨g, rfl⟩⟩
/-- The cells of a row of spots, as the new ones of an append. -/
theorem news_row {w : World} {base g cap : Nat} {t : TypeId} {l : List (Int × Int)} (h : w.ownsRow base t 2 (.slice (some ⟨g, 0, none⟩) l.length cap) l.length (l.flatMap spC)) : ∀ (j : Nat) (u : Value), (l.flatMap spC)[j]? = some u → w.cell? ((⟨g, 0, none⟩ : Addr).add j) = some u := by
  intro j u hj
  have e2 : ((⟨g, 0, none⟩ : Addr).add j) = ⟨g, j, none⟩ := by
    unfold Addr.add
    split
    · rename_i h; simp_all
    · simp
  have hlt : j < l.length * 2 := by
    rcases Nat.lt_or_ge j (l.length * 2) with h | h
    · exact h
    · rw [List.getElem?_eq_none (by rw [flat2_len]; exact h)] at hj; cases hj
  rw [e2, h.cellAt j hlt, hj]
end Go.Proofs.Ytkhcjkmifddlbaa

/- CrvP -/
namespace Go.Proofs.Ytkhcjkmifddlbaa
open Go.RowKit Go.Deep

/-- The cells of a segment. -/
def sg9 (k x0 y0 x1 y1 x2 y2 x3 y3 : Int) (q : Nat) : Value := [Value.int .i64 k, .int .i64 x0, .int .i64 y0, .int .i64 x1, .int .i64 y1, .int .i64 x2, .int .i64 y2, .int .i64 x3, .int .i64 y3][q]?.getD undef
theorem sg9_row (k x0 y0 x1 y1 x2 y2 x3 y3 : Int) (w : World) (t : TypeId) : (w.alloc (.cells #[.int .i64 k, .int .i64 x0, .int .i64 y0, .int .i64 x1, .int .i64 y1, .int .i64 x2, .int .i64 y2, .int .i64 x3, .int .i64 y3] t)).rowIs w.heap.size t 9 (sg9 k x0 y0 x1 y1 x2 y2 x3 y3) := by
  refine World.rowIs_alloc w #[.int .i64 k, .int .i64 x0, .int .i64 y0, .int .i64 x1, .int .i64 y1, .int .i64 x2, .int .i64 y2, .int .i64 x3, .int .i64 y3] t (sg9 k x0 y0 x1 y1 x2 y2 x3 y3) (fun i hi => ?_)
  have hi : i < 9 := hi
  rcases (show i = 0 ∨ i = 1 ∨ i = 2 ∨ i = 3 ∨ i = 4 ∨ i = 5 ∨ i = 6 ∨ i = 7 ∨ i = 8 by omega) with rfl | rfl | rfl | rfl | rfl | rfl | rfl | rfl | rfl <;> rfl
theorem sg9_cells {k x0 y0 x1 y1 x2 y2 x3 y3 : Int} {w : World} {b : Nat} {t : TypeId} (h : w.rowIs b t 9 (sg9 k x0 y0 x1 y1 x2 y2 x3 y3)) :
    w.cell? ⟨b, 0, none⟩ = some (.int .i64 k) ∧ w.cell? ⟨b, 1, none⟩ = some (.int .i64 x0) ∧ w.cell? ⟨b, 2, none⟩ = some (.int .i64 y0) ∧ w.cell? ⟨b, 3, none⟩ = some (.int .i64 x1) ∧ w.cell? ⟨b, 4, none⟩ = some (.int .i64 y1) ∧ w.cell? ⟨b, 5, none⟩ = some (.int .i64 x2) ∧ w.cell? ⟨b, 6, none⟩ = some (.int .i64 y2) ∧ w.cell? ⟨b, 7, none⟩ = some (.int .i64 x3) ∧ w.cell? ⟨b, 8, none⟩ = some (.int .i64 y3) :=
  ⟨h.cell (i := 0) (by omega), h.cell (i := 1) (by omega), h.cell (i := 2) (by omega), h.cell (i := 3) (by omega), h.cell (i := 4) (by omega), h.cell (i := 5) (by omega), h.cell (i := 6) (by omega), h.cell (i := 7) (by omega), h.cell (i := 8) (by omega)⟩

/-- The first j spots of a segment. -/
def spotsU (g : Num.Sg) (N j : Nat) : List (Int × Int) := (List.range j).map fun (i : Nat) => (Num.spotX g N i, Num.spotY g N i)
theorem spotsU_succ (g : Num.Sg) (N j : Nat) : spotsU g N (j + 1) = spotsU g N j ++ [(Num.spotX g N j, Num.spotY g N j)] := by
  unfold spotsU; rw [List.range_succ, List.map_append]; rfl
theorem spotsU_len (g : Num.Sg) (N j : Nat) : (spotsU g N j).length = j := by simp [spotsU]
theorem curveN_eq {g : Num.Sg} (hr : Num.rangeB g = true) : (Num.curveN g : Int) = Num.stepsV (Num.needV g) ∧ 1 ≤ Num.curveN g ∧ Num.curveN g ≤ 111 := by
  have h := Num.needV_bd hr
  have h1 := Num.stepsV_pos h.2
  have h2 := Num.stepsV_le h.2
  unfold Num.curveN
  omega
theorem curve_yes {g : Num.Sg} (hk : Num.kindB g = true) (hr : Num.rangeB g = true) : Num.curveE g = 0 ∧ Num.curveL g = spotsU g (Num.curveN g) (Num.curveN g + 1) := by
  have e : Num.curveE g = 0 := by unfold Num.curveE; rw [hk, hr]; rfl
  refine ⟨e, ?_⟩
  unfold Num.curveL
  rw [if_pos e]
  rfl
theorem curve_no {g : Num.Sg} {E : Int} (h : Num.curveE g = E) (hE : E ≠ 0) : Num.curveL g = [] := by
  unfold Num.curveL
  rw [if_neg (by omega)]

set_option maxRecDepth 100000 in
set_option maxHeartbeats 4000000 in
theorem chordCurve_any (k x0 y0 x1 y1 x2 y2 x3 y3 : Int) (w : World) :
    Calls Try.prog 69 #[.agg #[.int .i64 k, .int .i64 x0, .int .i64 y0, .int .i64 x1, .int .i64 y1, .int .i64 x2, .int .i64 y2, .int .i64 x3, .int .i64 y3]] w fun e w' => ∃ v, e = .returned (.tuple #[v, .int .i64 (Num.curveE (⟨k, x0, y0, x1, y1, x2, y2, x3, y3⟩ : Num.Sg))]) ∧ Below w.heap.size w w' ∧ w'.ownsRow w.heap.size 41 2 v (Num.curveL (⟨k, x0, y0, x1, y1, x2, y2, x3, y3⟩ : Num.Sg)).length ((Num.curveL (⟨k, x0, y0, x1, y1, x2, y2, x3, y3⟩ : Num.Sg)).flatMap spC) := by
  cases hk : Num.kindB (⟨k, x0, y0, x1, y1, x2, y2, x3, y3⟩ : Num.Sg)
  · have hE : Num.curveE (⟨k, x0, y0, x1, y1, x2, y2, x3, y3⟩ : Num.Sg) = 3 := by unfold Num.curveE; rw [hk]; rfl
    rw [hE, curve_no hE (by decide)]
    obtain ⟨k0, k1, k2⟩ := Num.kind_no hk
    simp only at k0 k1 k2
    have t0 : (k != 0) = true := by simpa using k0
    have t1 : (k != 1) = true := by simpa using k1
    have t2 : (k != 2) = true := by simpa using k2
    clear hk hE k0 k1 k2
    go_enter Try.func69, Try.ntmps69
    go_wp2
    go_ret2
    exact ⟨_, rfl, by (repeat (any_goals (first | exact Below.refl _ _ | assumption | refine Below.drew ?_ | refine below_drewN ?_ _ | refine Below.setCell ?_ ?_ _ | refine Below.alloc ?_ ?_ _ | omega | (simp; done) | (simp; omega)))), World.ownsRow_nil _ _ _ _⟩
  cases hr : Num.rangeB (⟨k, x0, y0, x1, y1, x2, y2, x3, y3⟩ : Num.Sg)
  · have hE : Num.curveE (⟨k, x0, y0, x1, y1, x2, y2, x3, y3⟩ : Num.Sg) = 6 := by unfold Num.curveE; rw [hk, hr]; rfl
    rw [hE, curve_no hE (by decide)]
    have HC := hide (segRange_any k x0 y0 x1 y1 x2 y2 x3 y3 (w.alloc (.cells #[.int .i64 k, .int .i64 x0, .int .i64 y0, .int .i64 x1, .int .i64 y1, .int .i64 x2, .int .i64 y2, .int .i64 x3, .int .i64 y3] 44)))
    rw [hr] at HC
    have hkk : k = 0 ∨ k = 1 ∨ k = 2 := Num.kind_yes hk
    clear hk hr hE
    rcases hkk with rfl | rfl | rfl
    all_goals
      go_enter Try.func69, Try.ntmps69
      go_wp2_with fail
      refine HC.out.mono ?_
      rintro e w1 ⟨rfl, hb⟩
      have hb0 : Below w.heap.size w w1 := Below.trans (by (repeat (any_goals (first | exact Below.refl _ _ | assumption | refine Below.drew ?_ | refine below_drewN ?_ _ | refine Below.setCell ?_ ?_ _ | refine Below.alloc ?_ ?_ _ | omega | (simp; done) | (simp; omega))))) (hb.mono (by simp))
      clear hb
      go_wp2
      go_ret2
      exact ⟨_, rfl, hb0, World.ownsRow_nil _ _ _ _⟩
  · obtain ⟨eE, eL⟩ := curve_yes hk hr
    obtain ⟨eN, n1, n2⟩ := curveN_eq hr
    rw [eE, eL]
    have hkk : k = 0 ∨ k = 1 ∨ k = 2 := Num.kind_yes hk
    have HC := hide (fun w => segRange_any k x0 y0 x1 y1 x2 y2 x3 y3 w)
    rw [hr] at HC
    have HD := hide (fun w => chords_any k x0 y0 x1 y1 x2 y2 x3 y3 w hr)
    obtain ⟨N, hN⟩ : ∃ N, N = Num.curveN (⟨k, x0, y0, x1, y1, x2, y2, x3, y3⟩ : Num.Sg) := ⟨_, rfl⟩
    rw [← hN] at eN n1 n2 ⊢
    rw [← eN] at HD
    have HF := hide (fun (i : Int) w (h1 : 0 ≤ i) (h2 : i ≤ (N : Int)) => spotOf_any k x0 y0 x1 y1 x2 y2 x3 y3 i N w hr h1 h2 (by omega) (by omega))
    have HRow := hide (sg9_row k x0 y0 x1 y1 x2 y2 x3 y3 w 44)
    have HCe := hide (fun (w : World) (b : Nat) (h : w.rowIs b 44 9 (sg9 k x0 y0 x1 y1 x2 y2 x3 y3)) => sg9_cells h)
    obtain ⟨F9, hF9⟩ : ∃ F9, F9 = sg9 k x0 y0 x1 y1 x2 y2 x3 y3 := ⟨_, rfl⟩
    rw [← hF9] at HRow HCe
    obtain ⟨GG, hGG⟩ : ∃ GG : Num.Sg, GG = (⟨k, x0, y0, x1, y1, x2, y2, x3, y3⟩ : Num.Sg) := ⟨_, rfl⟩
    rw [← hGG] at HF ⊢
    clear hk hr hN eN eE eL hF9 hGG
    obtain ⟨i0, hi0, hz0, hz1, hz2⟩ := info_parts info_spot
    rcases hkk with rfl | rfl | rfl
    all_goals
      go_enter Try.func69, Try.ntmps69
      go_wp2_with fail
      refine (HC.out _).mono ?_
      rintro e w1 ⟨rfl, hb⟩
      have hs1 : w.heap.size < w1.heap.size := by have := hb.size; simp at this; omega
      have HR1 := hide (row_below HRow.out hb HRow.out.lt)
      have hb0 : Below w.heap.size w w1 := Below.trans (by (repeat (any_goals (first | exact Below.refl _ _ | assumption | refine Below.drew ?_ | refine below_drewN ?_ _ | refine Below.setCell ?_ ?_ _ | refine Below.alloc ?_ ?_ _ | omega | (simp; done) | (simp; omega))))) (hb.mono (by simp))
      obtain ⟨c0, c1, c2, c3, c4, c5, c6, c7, c8⟩ := HCe.out _ _ HR1.out
      clear hb
      go_wp2_with fail
      refine (HD.out _).mono ?_
      rintro e w2 ⟨rfl, hb⟩
      have hs2 : w.heap.size < w2.heap.size := by have := hb.size; omega
      have HR2 := hide (row_below HR1.out hb HR1.out.lt)
      have hb2 : Below w.heap.size w w2 := hb0.trans (hb.mono (by omega))
      clear hb hb0 c0 c1 c2 c3 c4 c5 c6 c7 c8
      go_wp2_with fail
      go_loopw [4, 6] (fun v t wr => ∃ j : Nat, j ≤ N + 1 ∧ t = .int .i64 j ∧ Below w.heap.size w wr ∧ wr.rowIs w.heap.size 44 9 F9 ∧ wr.ownsRow (w.heap.size + 1) 41 2 v j ((spotsU GG N j).flatMap spC)) (fun _ t _ => N + 1 - (intOf t).toNat)
      case atStart => exact ⟨0, by omega, rfl, hb2, HR2.out, World.ownsRow_nil _ _ _ _⟩
      case round =>
        obtain ⟨v, rfl⟩ : ∃ v, v = u4 := ⟨_, rfl⟩
        obtain ⟨j, hj, rfl, hb, hrow, hown⟩ := hrel
        have hsz := hrow.lt
        by_cases hlt : j < N + 1
        · have hd1 : decide ((j : Int) ≤ (N : Int)) = true := by simp; omega
          obtain ⟨c0, c1, c2, c3, c4, c5, c6, c7, c8⟩ := HCe.out _ _ hrow
          have HW := hide hrow
          clear hrow
          go_wp2_with fail
          refine (HF.out j _ (by omega) (by omega)).mono ?_
          rintro e w3 ⟨rfl, hb3⟩
          have hs3 := hb3.size
          have hown3 := owns_of_block hown (fun b hbb => hb3.block b (hown.lt b hbb).2)
          have hB3 : Below w.heap.size w w3 := hb.trans (hb3.mono (by omega))
          have HW3 := hide (row_below HW.out hb3 HW.out.lt)
          have HSu := hide (spotsU_succ GG N j)
          have HLe := hide (spotsU_len GG N j)
          clear hb hb3 hown c0 c1 c2 c3 c4 c5 c6 c7 c8
          obtain ⟨sx, hsx⟩ : ∃ sx, sx = Num.spotX GG N j := ⟨_, rfl⟩
          obtain ⟨sy, hsy⟩ : ∃ sy, sy = Num.spotY GG N j := ⟨_, rfl⟩
          rw [← hsx, ← hsy] at HSu ⊢
          obtain ⟨xs, hxs⟩ : ∃ xs, xs = (spotsU GG N j).flatMap spC := ⟨_, rfl⟩
          rw [← hxs] at hown3
          have HX := hide hxs
          clear hsx hsy hxs
          go_wp2_with (at_builtin; refine wpList_append_lies _ rfl _ _ 48 rfl (w.heap.size + 1) 41 i0 (.agg #[.int .i64 0, .int .i64 0]) 2 16 Try.underlying48 hi0 hz0 hz1 hz2 rfl (by omega) v j xs rfl ((hown3.alloc _).alloc _) ⟨w3.heap.size + 1, 0, none⟩ 1 1 [.int .i64 sx, .int .i64 sy] rfl rfl ?e1 ?e2 (by omega) ?e3 ?e4 ?e5 (w3.heap.size + 1 + 1) (by simp) ?_)
          try (case e1 => exact news_sp (w3.alloc _) [.int .i64 sx, .int .i64 sy] _ _ (by simp))
          case e2 => first | exact one_two _ _ | exact ⟨rfl, rfl⟩
          case e3 => unfold maxLen; omega
          case e4 => omega
          case e5 => first | omega | (simp; omega)
          intro g cap w4 hown4 hgrow hat hlt4
          have hb4 : Below w.heap.size w w4 := ((hB3.alloc (by omega) _).alloc (by simp; omega) _).grown hgrow (by simp; omega) (fun q hq => by have := (hown3.lt q hq).1; omega)
          have hR4 : w4.rowIs w.heap.size 44 9 F9 := ((HW3.out.alloc _).alloc _).of_block (hgrow.block _ (by simp; omega) (fun e => by have := (hown3.lt _ e.symm).1; omega))
          have HO4 : Hid (w4.ownsRow (w.heap.size + 1) 41 2 (.slice (some ⟨g, 0, none⟩) (j + 1) cap) (j + 1) ((spotsU GG N (j + 1)).flatMap spC)) := by
            unfold Hid
            have := push_sp (l := spotsU GG N j) (l' := spotsU GG N (j + 1)) (p := (sx, sy)) (m := j + 1) (by rw [← HX.out]; exact hown4) HSu.out (by rw [HLe.out])
            rw [spotsU_len] at this
            exact this
          have HR4 := hide hR4
          clear hown4 hgrow hat hown3 hR4 HW3 HW
          go_wp2
          go_roundw
          case rel => exact ⟨j + 1, by omega, by go_num, hb4, HR4.out, HO4.out⟩
          case measure => simp [intOf]; omega
        · have e : j = N + 1 := by omega
          have hd0 : decide ((j : Int) ≤ (N : Int)) = false := by simp; omega
          have HO := hide hown
          have HB := hide hb
          clear hown hrow hb
          go_wp2
          go_ret2
          refine ⟨v, rfl, HB.out, ?_⟩
          have h := owns_mono HO.out (Nat.le_succ w.heap.size)
          rw [e] at h
          rw [spotsU_len]
          exact h

set_option maxHeartbeats 400000 in
theorem glyphCurve_any (k x0 y0 x1 y1 x2 y2 x3 y3 : Int) (w : World) :
    Calls Try.prog 22 #[.agg #[.int .i64 k, .int .i64 x0, .int .i64 y0, .int .i64 x1, .int .i64 y1, .int .i64 x2, .int .i64 y2, .int .i64 x3, .int .i64 y3]] w fun e w' => ∃ v, e = .returned (.tuple #[v, .int .i64 (Num.curveE (⟨k, x0, y0, x1, y1, x2, y2, x3, y3⟩ : Num.Sg))]) ∧ Below w.heap.size w w' ∧ w'.ownsRow w.heap.size 41 2 v (Num.curveL (⟨k, x0, y0, x1, y1, x2, y2, x3, y3⟩ : Num.Sg)).length ((Num.curveL (⟨k, x0, y0, x1, y1, x2, y2, x3, y3⟩ : Num.Sg)).flatMap spC) := by
  go_enter Try.func22, Try.ntmps22
  go_wp2_with fail
  refine (chordCurve_any _ _ _ _ _ _ _ _ _ _).mono ?_
  rintro e w1 ⟨v, rfl, hb, hown⟩
  have hb0 : Below w.heap.size w w1 := Below.trans (by (repeat (any_goals (first | exact Below.refl _ _ | assumption | refine Below.drew ?_ | refine below_drewN ?_ _ | refine Below.setCell ?_ ?_ _ | refine Below.alloc ?_ ?_ _ | omega | (simp; done) | (simp; omega))))) (hb.mono (by simp))
  have HW := hide (owns_mono (base' := w.heap.size) hown (by simp))
  clear hown hb
  go_wp2
  go_ret2
  exact ⟨v, rfl, hb0, HW.out⟩
end Go.Proofs.Ytkhcjkmifddlbaa

/- PlaceB -/
namespace Go.Proofs.Ytkhcjkmifddlbaa
open Go.RowKit

theorem fair_false {a b c d x y : Int} (h : Num.wi a 65536 = false ∨ Num.wi b 65536 = false ∨ Num.wi c 65536 = false ∨ Num.wi d 65536 = false ∨ Num.wi x 16384 = false ∨ Num.wi y 16384 = false) : false = Num.fairB a b c d x y := by
  unfold Num.fairB
  rcases h with h | h | h | h | h | h <;> simp [h]

set_option maxHeartbeats 1000000 in
theorem refFair_any (a b c d x y : Int) (w : World) :
    Calls Try.prog 93 #[.agg #[.int .i64 a, .int .i64 b, .int .i64 c, .int .i64 d, .int .i64 x, .int .i64 y]] w fun e w' => e = .returned (.bool (Num.fairB a b c d x y)) ∧ Below w.heap.size w w' := by
  go_enter Try.func93, Try.ntmps93
  go_wp2
  go_loop [4] (fun i => ∃ k : Nat, k ≤ 4 ∧ i = .int .i64 k ∧ (1 ≤ k → Num.wi a 65536 = true) ∧ (2 ≤ k → Num.wi b 65536 = true) ∧ (3 ≤ k → Num.wi c 65536 = true) ∧ (4 ≤ k → Num.wi d 65536 = true)) (fun i => 4 - (intOf i).toNat)
  case atStart => exact ⟨0, by omega, rfl, by omega, by omega, by omega, by omega⟩
  case round =>
    obtain ⟨k, hk, rfl, r1, r2, r3, r4⟩ := hrel
    have R := hide (And.intro r1 (And.intro r2 (And.intro r3 r4)))
    clear r1 r2 r3 r4
    rcases (show k = 0 ∨ k = 1 ∨ k = 2 ∨ k = 3 ∨ k = 4 by omega) with rfl | rfl | rfl | rfl | rfl
    · cases hw : Num.wi a 65536
      · rcases Num.wi_no hw with h | h
        · go_wp2
          go_ret
          exact ⟨ret_bool (fair_false (by simp [hw])), by (repeat (any_goals (first | exact Below.refl _ _ | assumption | refine Below.drew ?_ | refine below_drewN ?_ _ | refine Below.setCell ?_ ?_ _ | refine Below.alloc ?_ ?_ _ | omega | (simp; done) | (simp; omega))))⟩
        · go_wp2
          go_ret
          exact ⟨ret_bool (fair_false (by simp [hw])), by (repeat (any_goals (first | exact Below.refl _ _ | assumption | refine Below.drew ?_ | refine below_drewN ?_ _ | refine Below.setCell ?_ ?_ _ | refine Below.alloc ?_ ?_ _ | omega | (simp; done) | (simp; omega))))⟩
      · have h := Num.wi_yes hw
        go_wp2
        go_round
        case rel => exact ⟨1, by omega, rfl, fun _ => by first | exact hw | trivial, by omega, by omega, by omega⟩
        case measure => simp [intOf]
    · cases hw : Num.wi b 65536
      · rcases Num.wi_no hw with h | h
        · go_wp2
          go_ret
          exact ⟨ret_bool (fair_false (by simp [hw])), by (repeat (any_goals (first | exact Below.refl _ _ | assumption | refine Below.drew ?_ | refine below_drewN ?_ _ | refine Below.setCell ?_ ?_ _ | refine Below.alloc ?_ ?_ _ | omega | (simp; done) | (simp; omega))))⟩
        · go_wp2
          go_ret
          exact ⟨ret_bool (fair_false (by simp [hw])), by (repeat (any_goals (first | exact Below.refl _ _ | assumption | refine Below.drew ?_ | refine below_drewN ?_ _ | refine Below.setCell ?_ ?_ _ | refine Below.alloc ?_ ?_ _ | omega | (simp; done) | (simp; omega))))⟩
      · have h := Num.wi_yes hw
        go_wp2
        go_round
        case rel => exact ⟨2, by omega, rfl, fun _ => R.out.1 (by omega), fun _ => by first | exact hw | trivial, by omega, by omega⟩
        case measure => simp [intOf]
    · cases hw : Num.wi c 65536
      · rcases Num.wi_no hw with h | h
        · go_wp2
          go_ret
          exact ⟨ret_bool (fair_false (by simp [hw])), by (repeat (any_goals (first | exact Below.refl _ _ | assumption | refine Below.drew ?_ | refine below_drewN ?_ _ | refine Below.setCell ?_ ?_ _ | refine Below.alloc ?_ ?_ _ | omega | (simp; done) | (simp; omega))))⟩
        · go_wp2
          go_ret
          exact ⟨ret_bool (fair_false (by simp [hw])), by (repeat (any_goals (first | exact Below.refl _ _ | assumption | refine Below.drew ?_ | refine below_drewN ?_ _ | refine Below.setCell ?_ ?_ _ | refine Below.alloc ?_ ?_ _ | omega | (simp; done) | (simp; omega))))⟩
      · have h := Num.wi_yes hw
        go_wp2
        go_round
        case rel => exact ⟨3, by omega, rfl, fun _ => R.out.1 (by omega), fun _ => R.out.2.1 (by omega), fun _ => by first | exact hw | trivial, by omega⟩
        case measure => simp [intOf]
    · cases hw : Num.wi d 65536
      · rcases Num.wi_no hw with h | h
        · go_wp2
          go_ret
          exact ⟨ret_bool (fair_false (by simp [hw])), by (repeat (any_goals (first | exact Below.refl _ _ | assumption | refine Below.drew ?_ | refine below_drewN ?_ _ | refine Below.setCell ?_ ?_ _ | refine Below.alloc ?_ ?_ _ | omega | (simp; done) | (simp; omega))))⟩
        · go_wp2
          go_ret
          exact ⟨ret_bool (fair_false (by simp [hw])), by (repeat (any_goals (first | exact Below.refl _ _ | assumption | refine Below.drew ?_ | refine below_drewN ?_ _ | refine Below.setCell ?_ ?_ _ | refine Below.alloc ?_ ?_ _ | omega | (simp; done) | (simp; omega))))⟩
      · have h := Num.wi_yes hw
        go_wp2
        go_round
        case rel => exact ⟨4, by omega, rfl, fun _ => R.out.1 (by omega), fun _ => R.out.2.1 (by omega), fun _ => R.out.2.2.1 (by omega), fun _ => by first | exact hw | trivial⟩
        case measure => simp [intOf]
    · have e1 := R.out.1 (by omega)
      have e2 := R.out.2.1 (by omega)
      have e3 := R.out.2.2.1 (by omega)
      have e4 := R.out.2.2.2 (by omega)
      have E : Num.fairB a b c d x y = Num.inB x y := by simp [Num.fairB, Num.inB, e1, e2, e3, e4]
      have HE := hide E
      clear E e1 e2 e3 e4
      go_wp2
      all_goals
        go_ret
        refine ⟨ret_bool ?_, by (repeat (any_goals (first | exact Below.refl _ _ | assumption | refine Below.drew ?_ | refine below_drewN ?_ _ | refine Below.setCell ?_ ?_ _ | refine Below.alloc ?_ ?_ _ | omega | (simp; done) | (simp; omega))))⟩
        rw [HE.out]
        simp only [Num.inB, Num.wi]
        simp [*]
        try omega

set_option maxHeartbeats 1000000 in
theorem refPlace_any (a b c d x y s t : Int) (w : World) :
    Calls Try.prog 59 #[.agg #[.int .i64 a, .int .i64 b, .int .i64 c, .int .i64 d, .int .i64 x, .int .i64 y], .agg #[.int .i64 s, .int .i64 t]] w fun e w' =>
      e = .returned (.tuple #[.agg #[.int .i64 (Num.placeV a b c d x y s t).1, .int .i64 (Num.placeV a b c d x y s t).2.1], .int .i64 (Num.placeV a b c d x y s t).2.2]) ∧ Below w.heap.size w w' := by
  by_cases hs : (Num.wi s 8192 && Num.wi t 8192) = false
  · have hV : Num.placeV a b c d x y s t = (0, 0, 4) := by unfold Num.placeV; rw [if_pos hs]
    rw [hV]
    clear hV
    have hs' : (s < -8192 ∨ 8192 < s) ∨ ((-8192 ≤ s ∧ s ≤ 8192) ∧ (t < -8192 ∨ 8192 < t)) := by
      simp [Num.wi] at hs; omega
    clear hs
    rcases hs' with (h | h) | ⟨h0, (h | h)⟩
    all_goals
      go_enter Try.func59, Try.ntmps59
      go_wp2_with fail
      refine bodyPost_ret (v := .tuple #[.agg #[.int .i64 0, .int .i64 0], .int .i64 4]) (by simp [results, Try.results59, go_sem]) rfl ⟨rfl, ?_⟩
      (repeat (any_goals (first | exact Below.refl _ _ | assumption | refine Below.drew ?_ | refine below_drewN ?_ _ | refine Below.setCell ?_ ?_ _ | refine Below.alloc ?_ ?_ _ | omega | (simp; done) | (simp; omega))))
  simp at hs
  obtain ⟨hs, ht⟩ := hs
  have k := Num.wi_yes hs
  have k2 := Num.wi_yes ht
  cases hf : Num.fairB a b c d x y
  · have hV : Num.placeV a b c d x y s t = (0, 0, 5) := by unfold Num.placeV; rw [hs, ht, hf]; rfl
    rw [hV]
    clear hV
    go_enter Try.func59, Try.ntmps59
    go_wp2_with fail
    refine (refFair_any _ _ _ _ _ _ _).mono ?_
    rintro e w1 ⟨rfl, hb⟩
    obtain ⟨hc, hfz⟩ := bcell hb
    have hz : w.heap.size + 1 + 1 < w1.heap.size := by have := hb.size; simp at this; omega
    have hb0 : Below w.heap.size w w1 := Below.trans (by (repeat (any_goals (first | exact Below.refl _ _ | assumption | refine Below.drew ?_ | refine below_drewN ?_ _ | refine Below.setCell ?_ ?_ _ | refine Below.alloc ?_ ?_ _ | omega | (simp; done) | (simp; omega))))) (hb.mono (by simp; omega))
    clear hb
    go_wp2
    refine bodyPost_ret (v := .tuple #[.agg #[.int .i64 0, .int .i64 0], .int .i64 5]) (by simp [results, Try.results59, go_sem, hc]) rfl ⟨rfl, ?_⟩
    (repeat (any_goals (first | exact Below.refl _ _ | assumption | refine Below.drew ?_ | refine below_drewN ?_ _ | refine Below.setCell ?_ ?_ _ | refine Below.alloc ?_ ?_ _ | omega | (simp; done) | (simp; omega))))
  have kf : Num.wi a 65536 = true ∧ Num.wi b 65536 = true ∧ Num.wi c 65536 = true ∧ Num.wi d 65536 = true ∧ Num.wi x 16384 = true ∧ Num.wi y 16384 = true := by
    simp [Num.fairB] at hf; simp [hf]
  obtain ⟨f1, f2, f3, f4, f5, f6⟩ := kf
  have f1 := Num.wi_yes f1; have f2 := Num.wi_yes f2; have f3 := Num.wi_yes f3; have f4 := Num.wi_yes f4; have f5 := Num.wi_yes f5; have f6 := Num.wi_yes f6
  have m1 := Num.mul_bd a s _ _ f1 k
  have m2 := Num.mul_bd b t _ _ f2 k2
  have m3 := Num.mul_bd c s _ _ f3 k
  have m4 := Num.mul_bd d t _ _ f4 k2
  have n1 := Num.hu_le (a * s + b * t) 2048 10000000000 (by omega) (by omega) (by omega) (by omega)
  have n2 := Num.hu_le (c * s + d * t) 2048 10000000000 (by omega) (by omega) (by omega) (by omega)
  go_enter Try.func59, Try.ntmps59
  go_wp2_with fail
  refine (refFair_any _ _ _ _ _ _ _).mono ?_
  rintro e w1 ⟨rfl, hb⟩
  obtain ⟨hc, hfz⟩ := bcell hb
  have hz : w.heap.size + 1 + 1 < w1.heap.size := by have := hb.size; simp at this; omega
  have hb0 : Below w.heap.size w w1 := Below.trans (by (repeat (any_goals (first | exact Below.refl _ _ | assumption | refine Below.drew ?_ | refine below_drewN ?_ _ | refine Below.setCell ?_ ?_ _ | refine Below.alloc ?_ ?_ _ | omega | (simp; done) | (simp; omega))))) (hb.mono (by simp; omega))
  clear hb
  go_wp2_with fail
  refine (half_any _ _ _ (by omega) (by omega) (by omega) (by omega)).mono ?_
  rintro e w1 ⟨rfl, rfl⟩
  go_wp2_with fail
  refine (half_any _ _ _ (by omega) (by omega) (by omega) (by omega)).mono ?_
  rintro e w1 ⟨rfl, rfl⟩
  go_wp2_with fail
  refine (refInRange_any _ _ _).mono ?_
  rintro e w2 ⟨rfl, hb2⟩
  obtain ⟨hc2, hfz2⟩ := bcell hb2
  have hz2' : w1.heap.size < w2.heap.size := by have := hb2.size; simp at this; omega
  have hb3 : Below w.heap.size w w2 := Below.trans (by (repeat (any_goals (first | exact Below.refl _ _ | assumption | refine Below.drew ?_ | refine below_drewN ?_ _ | refine Below.setCell ?_ ?_ _ | refine Below.alloc ?_ ?_ _ | omega | (simp; done) | (simp; omega))))) (hb2.mono (by simp; omega))
  clear hb2 hb0
  have HB3 := hide hb3
  clear hb3
  have q20 : w2.cell? ⟨w.heap.size + 1 + 1, 0, none⟩ = some (.int .i64 0) := by rw [hc2 _ _ (by simp; omega)]; go_simp
  have q21 : w2.cell? ⟨w.heap.size + 1 + 1, 1, none⟩ = some (.int .i64 0) := by rw [hc2 _ _ (by simp; omega)]; go_simp
  have z20 : w2.frozen? ⟨w.heap.size + 1 + 1, 0, none⟩ = false := by rw [hfz2 _ _ (by simp; omega)]; go_simp
  have z21 : w2.frozen? ⟨w.heap.size + 1 + 1, 1, none⟩ = false := by rw [hfz2 _ _ (by simp; omega)]; go_simp
  have u20 : w2.cell? ⟨w1.heap.size, 0, none⟩ = some (.int .i64 (x + Num.hu (a * s + b * t) 2048)) := by rw [hc2 _ _ (by simp)]; go_simp
  have u21 : w2.cell? ⟨w1.heap.size, 1, none⟩ = some (.int .i64 (y + Num.hu (c * s + d * t) 2048)) := by rw [hc2 _ _ (by simp)]; go_simp
  have hz3 : w.heap.size + 1 + 1 < w2.heap.size := by omega
  clear hc2 hfz2 hc hfz
  cases hi : Num.inB (x + Num.hu (a * s + b * t) 2048) (y + Num.hu (c * s + d * t) 2048)
  · have hV : Num.placeV a b c d x y s t = (0, 0, 6) := by unfold Num.placeV; rw [hs, ht, hf, hi]; rfl
    have HV := hide hV
    clear hV
    go_wp2
    refine bodyPost_ret (v := .tuple #[.agg #[.int .i64 0, .int .i64 0], .int .i64 6]) (by simp [results, Try.results59, go_sem, q20, q21]) rfl ⟨by rw [HV.out], ?_⟩
    have := HB3.out
    (repeat (any_goals (first | exact Below.refl _ _ | assumption | refine Below.drew ?_ | refine below_drewN ?_ _ | refine Below.setCell ?_ ?_ _ | refine Below.alloc ?_ ?_ _ | omega | (simp; done) | (simp; omega))))
  · have hV : Num.placeV a b c d x y s t = (x + Num.hu (a * s + b * t) 2048, y + Num.hu (c * s + d * t) 2048, 0) := by unfold Num.placeV; rw [hs, ht, hf, hi]; rfl
    have HV := hide hV
    clear hV
    go_wp2
    refine bodyPost_ret (v := .tuple #[.agg #[.int .i64 (x + Num.hu (a * s + b * t) 2048), .int .i64 (y + Num.hu (c * s + d * t) 2048)], .int .i64 0]) (by simp [results, Try.results59, go_sem, q20, q21]) rfl ⟨by rw [HV.out], ?_⟩
    have := HB3.out
    (repeat (any_goals (first | exact Below.refl _ _ | assumption | refine Below.drew ?_ | refine below_drewN ?_ _ | refine Below.setCell ?_ ?_ _ | refine Below.alloc ?_ ?_ _ | omega | (simp; done) | (simp; omega))))
end Go.Proofs.Ytkhcjkmifddlbaa

/- SegsB -/
namespace Go.Proofs.Ytkhcjkmifddlbaa
namespace Num
section
variable {X Y K : Nat → Int} {n : Nat}

theorem exists_on (hn : 2 ≤ n) (hs : ∀ i, i < n → badB K n i = false) : ∃ t, t < 2 * n ∧ onB X Y K n t = true := by
  by_cases hall : ∃ t, t < 2 * n ∧ onB X Y K n t = true
  · exact hall
  exfalso
  have hno : ∀ t, t < 2 * n → onB X Y K n t = false := fun t ht => by
    cases h : onB X Y K n t with
    | false => rfl
    | true => exact absurd ⟨t, ht, h⟩ hall
  have k0 : ∀ i, i < n → K i ≠ 0 := fun i hi h => by
    have := hno (2 * i) (by omega)
    simp only [onB, stp, show 2 * i % 2 = 0 by omega, if_pos, show 2 * i / 2 = i by omega, Nat.mod_eq_of_lt hi, h] at this
    simp at this
  have q0 : ¬ (K 0 = 1 ∧ K 1 = 1) := fun h => by
    have := hno 1 (by omega)
    simp only [onB, stp, show ¬ 1 % 2 = 0 by omega, show 1 / 2 = 0 by omega, Nat.zero_mod, Nat.zero_add, Nat.mod_eq_of_lt (show 1 < n by omega), h] at this
    simp at this
  have m0 := may_all (by omega) hs 0
  have m1 := may_all (by omega) hs 1
  have z0 := k0 0 (by omega)
  have z1 := k0 1 (by omega)
  have za := k0 ((0 + n - 1) % n) (Nat.mod_lt _ (by omega))
  have zb := k0 ((1 + n - 1) % n) (Nat.mod_lt _ (by omega))
  have zc := k0 ((0 + 1) % n) (Nat.mod_lt _ (by omega))
  have zd := k0 ((1 + 1) % n) (Nat.mod_lt _ (by omega))
  rw [Nat.zero_mod] at m0
  rw [Nat.mod_eq_of_lt (show 1 < n by omega)] at m1
  simp only [mayB, Bool.or_eq_true, Bool.and_eq_true, beq_iff_eq] at m0 m1
  omega

theorem segs_eq (hn : 2 ≤ n) (hs : ∀ i, i < n → badB K n i = false) :
    ∃ (f : Nat) (p : Int × Int × Int), (imp X Y K n)[f]? = some p ∧ p.2.2 = 0 ∧ (∀ (j : Nat) (q : Int × Int × Int), j < f → (imp X Y K n)[j]? = some q → q.2.2 ≠ 0) ∧
      walkL ((imp X Y K n).drop (f + 1) ++ (imp X Y K n).take (f + 1)) (initS p) = refRing X Y K n := by
  obtain ⟨t, ht, hon⟩ := exists_on (X := X) (Y := Y) hn hs
  rcases firstI_cases (onB X Y K n) (2 * n) with ⟨_, hno⟩ | ⟨t0, ht0, hon0, hno, _⟩
  · rw [hno t ht] at hon; cases hon
  have hp : ∃ p, stp X Y K n t0 = some p ∧ p.2.2 = 0 := by
    unfold onB at hon0
    cases h : stp X Y K n t0 with
    | none => simp [h] at hon0
    | some p => exact ⟨p, rfl, by simpa [h] using hon0⟩
  obtain ⟨p, hp, hp0⟩ := hp
  have hR : imp X Y K n = stops X Y K n 0 t0 ++ (p :: stops X Y K n (t0 + 1) (2 * n - t0 - 1)) := by
    rw [imp_eq, List.range_eq_range']
    show stops X Y K n 0 (2 * n) = _
    rw [show 2 * n = t0 + (1 + (2 * n - t0 - 1)) by omega, stops_add, stops_add, stops_one, Nat.zero_add, hp]
    rw [show t0 + (1 + (2 * n - t0 - 1)) - t0 - 1 = 2 * n - t0 - 1 by omega]
    rfl
  have hlen : (imp X Y K n).drop ((stops X Y K n 0 t0).length + 1) = stops X Y K n (t0 + 1) (2 * n - t0 - 1) := by
    rw [hR, List.drop_append, List.drop_of_length_le (by omega), List.nil_append, show (stops X Y K n 0 t0).length + 1 - (stops X Y K n 0 t0).length = 1 by omega]
    rfl
  have htk : (imp X Y K n).take ((stops X Y K n 0 t0).length + 1) = stops X Y K n 0 t0 ++ [p] := by
    rw [hR, List.take_append, List.take_of_length_le (by omega), show (stops X Y K n 0 t0).length + 1 - (stops X Y K n 0 t0).length = 1 by omega]
    rfl
  refine ⟨(stops X Y K n 0 t0).length, p, ?_, hp0, ?_, ?_⟩
  · rw [hR, List.getElem?_append_right (Nat.le_refl _), Nat.sub_self]; rfl
  · intro j q hj hq
    rw [hR, List.getElem?_append_left hj] at hq
    have hmem := List.mem_of_getElem? hq
    unfold stops at hmem
    rw [List.mem_filterMap] at hmem
    obtain ⟨u, hu, hst⟩ := hmem
    rw [List.mem_range'_1] at hu
    have := hno u (by omega)
    intro h0
    simp [onB, hst, h0] at this
  · rw [hlen, htk]
    have e1 : stops X Y K n 0 t0 ++ [p] = stops X Y K n (2 * n) (t0 + 1) := by
      have h1 := stops_period (X := X) (Y := Y) (K := K) (n := n) 0 (t0 + 1)
      rw [Nat.zero_add] at h1
      rw [h1, stops_add, stops_one, Nat.zero_add, hp]
      rfl
    have e2 : stops X Y K n (t0 + 1) (2 * n - t0 - 1) ++ stops X Y K n (2 * n) (t0 + 1) = stops X Y K n (t0 + 1) (2 * n) := by
      have h1 := stops_add (X := X) (Y := Y) (K := K) (n := n) (t0 + 1) (2 * n - t0 - 1) (t0 + 1)
      rw [show 2 * n - t0 - 1 + (t0 + 1) = 2 * n by omega, show t0 + 1 + (2 * n - t0 - 1) = 2 * n by omega] at h1
      exact h1.symm
    rw [e1, e2]
    have hE : onB X Y K n (t0 + 2 * n) = true := by rw [onB_period]; exact hon0
    have hfrom : fromV X Y K n t0 = scanR X Y K n (t0 + 2 * n + 1 - (t0 + 1)) (t0 + 1) (initS p) 0 := by
      unfold fromV
      rw [stp_stv hp, show t0 + 2 * n + 1 - (t0 + 1) = 2 * n by omega]
    have h := walk_ref (X := X) (Y := Y) (show 0 < n by omega) hs (t0 + 2 * n) hE (2 * n) (t0 + 1) t0 0 (initS p) (by omega) (by omega) (by omega) (by omega) hfrom (.inl ⟨rfl, rfl⟩) (by omega)
    rw [h]
    unfold refRing
    have hz : ∀ a d, (∀ u, a ≤ u → u < a + d → onB X Y K n u = false) → (List.range' a d).filterMap (refF X Y K n) = [] := by
      intro a d hu
      rw [List.filterMap_eq_nil_iff]
      intro u hm
      rw [List.mem_range'_1] at hm
      simp [refF, hu u hm.1 hm.2]
    have r1 : List.range (2 * n) = List.range' 0 t0 ++ (t0 :: List.range' (t0 + 1) (2 * n - t0 - 1)) := by
      rw [List.range_eq_range', show 2 * n = t0 + (2 * n - t0 - 1 + 1) by omega, ← List.range'_append_1, List.range'_succ, Nat.zero_add]
      rw [show t0 + (2 * n - t0 - 1 + 1) - t0 - 1 = 2 * n - t0 - 1 by omega]
    have r2 : List.range' (t0 + 1) (2 * n - 1) = List.range' (t0 + 1) (2 * n - t0 - 1) ++ List.range' (2 * n) t0 := by
      have := List.range'_append_1 (s := t0 + 1) (m := 2 * n - t0 - 1) (n := t0)
      rw [show t0 + 1 + (2 * n - t0 - 1) = 2 * n by omega, show 2 * n - t0 - 1 + t0 = 2 * n - 1 by omega] at this
      exact this.symm
    rw [r1, r2, List.filterMap_append, List.filterMap_append, List.filterMap_cons]
    rw [hz 0 t0 (fun u _ hu => hno u (by omega)), hz (2 * n) t0 (fun u h1 h2 => by
      have := onB_period (X := X) (Y := Y) (K := K) (n := n) (u - 2 * n)
      rw [show u - 2 * n + 2 * n = u by omega] at this
      rw [this]; exact hno _ (by omega))]
    simp [refF, hon0]

theorem walkL_length : ∀ (l : List (Int × Int × Int)) (g : Sg), (walkL l g).length ≤ l.length := by
  intro l
  induction l with
  | nil => intro g; simp [walkL]
  | cons p r ih =>
    intro g
    simp only [walkL]
    split
    · have := ih (initS p); simp; omega
    · have := ih (addP g p); simp; omega

theorem imp_length (m : Nat) : ((List.range m).flatMap (impF X Y K n)).length ≤ 2 * m := by
  induction m with
  | zero => simp
  | succ m ih =>
    rw [List.range_succ, List.flatMap_append, List.length_append]
    have : ((List.flatMap (impF X Y K n) [m])).length ≤ 2 := by
      simp [impF]; split <;> simp
    omega
end
end Num
end Go.Proofs.Ytkhcjkmifddlbaa

/- TraceV -/
namespace Go.Proofs.Ytkhcjkmifddlbaa
namespace Num

/-- A map. -/
structure Mp where
  a : Int
  b : Int
  c : Int
  d : Int
  x : Int
  y : Int
def pl (m : Mp) (s t : Int) : Int × Int × Int := placeV m.a m.b m.c m.d m.x m.y s t
/-- May a segment be placed? -/
def putOk (m : Mp) (g : Sg) : Bool := (pl m g.x0 g.y0).2.2 == 0 && (pl m g.x1 g.y1).2.2 == 0 && (pl m g.x2 g.y2).2.2 == 0 && (pl m g.x3 g.y3).2.2 == 0
/-- The segment, placed. -/
def putV (m : Mp) (g : Sg) : Sg := ⟨g.k, (pl m g.x0 g.y0).1, (pl m g.x0 g.y0).2.1, (pl m g.x1 g.y1).1, (pl m g.x1 g.y1).2.1, (pl m g.x2 g.y2).1, (pl m g.x2 g.y2).2.1, (pl m g.x3 g.y3).1, (pl m g.x3 g.y3).2.1⟩
def putG (m : Mp) (g : Sg) : Sg := if putOk m g = true then putV m g else ⟨0, 0, 0, 0, 0, 0, 0, 0, 0⟩
def putE (m : Mp) (g : Sg) : Int := if putOk m g = true then 0 else 6

theorem place_in {a b c d x y s t : Int} (h : (placeV a b c d x y s t).2.2 = 0) : inB (placeV a b c d x y s t).1 (placeV a b c d x y s t).2.1 = true := by
  unfold placeV at h ⊢
  by_cases h1 : (wi s 8192 && wi t 8192) = false
  · rw [if_pos h1] at h; simp at h
  · rw [if_neg h1] at h ⊢
    by_cases h2 : fairB a b c d x y = false
    · rw [if_pos h2] at h; simp at h
    · rw [if_neg h2] at h ⊢
      by_cases h3 : inB (x + hu (a * s + b * t) 2048) (y + hu (c * s + d * t) 2048) = false
      · rw [if_pos h3] at h; simp at h
      · rw [if_neg h3]
        simpa using h3
/-- A placed segment is one that Curve takes. -/
theorem put_curve {m : Mp} {g : Sg} (h : putOk m g = true) (hk : g.k = 0 ∨ g.k = 1 ∨ g.k = 2) : curveE (putV m g) = 0 := by
  simp only [putOk, Bool.and_eq_true, beq_iff_eq] at h
  obtain ⟨⟨⟨h0, h1⟩, h2⟩, h3⟩ := h
  have i0 := place_in h0
  have i1 := place_in h1
  have i2 := place_in h2
  have i3 := place_in h3
  have e1 : kindB (putV m g) = true := by
    simp only [kindB, putV]; rcases hk with h | h | h <;> simp [h]
  have e2 : rangeB (putV m g) = true := by
    simp only [rangeB, putV, pl]
    rw [i0, i1, i2, i3]; simp
  unfold curveE
  rw [e1, e2]; rfl

/-- One of the three kinds. -/
def Kd (z : Int) : Prop := z = 0 ∨ z = 1 ∨ z = 2
theorem may_kd {K : Nat → Int} {n i : Nat} (h : badB K n i = false) : Kd (K i) := by
  simp [badB, mayB] at h
  unfold Kd
  omega
theorem stp_kd {X Y K : Nat → Int} {n t : Nat} {p : Int × Int × Int} (hn : 0 < n) (hK : ∀ i, i < n → Kd (K i)) (h : stp X Y K n t = some p) : Kd p.2.2 := by
  unfold stp at h
  split at h
  · simp at h; subst h; exact hK _ (Nat.mod_lt _ hn)
  · split at h
    · simp at h; subst h; exact .inl rfl
    · cases h
theorem scan_kd {X Y K : Nat → Int} {n : Nat} (hn : 0 < n) (hK : ∀ i, i < n → Kd (K i)) : ∀ (d k : Nat) (g : Sg) (m : Nat), Kd g.k → Kd (scanR X Y K n d k g m).k := by
  intro d
  induction d with
  | zero => intro k g m hg; exact hg
  | succ d ih =>
    intro k g m hg
    unfold scanR
    split
    · exact ih _ _ _ hg
    · rename_i p hp
      split
      · exact hg
      · refine ih _ _ _ ?_
        have := stp_kd hn hK hp
        unfold addR
        split <;> exact this
theorem ring_kd {X Y K : Nat → Int} {n : Nat} (hn : 0 < n) (hK : ∀ i, i < n → Kd (K i)) : ∀ g ∈ refRing X Y K n, Kd g.k := by
  intro g hg
  unfold refRing at hg
  rw [List.mem_filterMap] at hg
  obtain ⟨t, _, ht⟩ := hg
  unfold refF at ht
  split at ht
  · simp at ht; subst ht; exact scan_kd hn hK _ _ _ _ (.inl rfl)
  · cases ht

/-- The spots of the first j segments, placed. -/
def segSp (m : Mp) (g : Sg) : List (Int × Int) := (curveL (putV m g)).dropLast
def ringSp (m : Mp) (L : List Sg) : List (Int × Int) := L.flatMap (segSp m)
def ringOk (m : Mp) (L : List Sg) : Bool := L.all (putOk m)
theorem curveL_pos {g : Sg} (h : curveE g = 0) : 0 < (curveL g).length := by
  unfold curveL; rw [if_pos h]; simp
theorem curveL_le (g : Sg) : (curveL g).length ≤ 112 := by
  unfold curveL
  split
  · rename_i h
    have hb := needV_bd (curve_ok h).2
    have h2 := stepsV_le hb.2
    simp [curveN]; omega
  · simp
theorem segSp_le (m : Mp) (g : Sg) : (segSp m g).length ≤ 111 := by
  unfold segSp; have := curveL_le (putV m g); simp; omega
theorem ringSp_snoc (m : Mp) (L : List Sg) (g : Sg) : ringSp m (L ++ [g]) = ringSp m L ++ segSp m g := by simp [ringSp]
theorem ringSp_le (m : Mp) (L : List Sg) : (ringSp m L).length ≤ 111 * L.length := by
  induction L with
  | nil => simp [ringSp]
  | cons g r ih =>
    have := segSp_le m g
    simp only [ringSp, List.flatMap_cons, List.length_append, List.length_cons] at ih ⊢
    omega
theorem ringOk_at {m : Mp} {L : List Sg} (h : ringOk m L = true) {i : Nat} (hi : i < L.length) : putOk m L[i] = true := by
  unfold ringOk at h
  rw [List.all_eq_true] at h
  exact h _ (List.getElem_mem hi)
theorem ringOk_no {m : Mp} {L : List Sg} {i : Nat} (hi : i < L.length) (h : putOk m L[i] = false) : ringOk m L = false := by
  cases e : ringOk m L
  · rfl
  · rw [ringOk_at e hi] at h; cases h
theorem dropLast_take_succ {α : Type} (l : List α) (i : Nat) : (i + 1 < l.length → ∀ h : i < l.length, l.dropLast.take (i + 1) = l.dropLast.take i ++ [l[i]]) ∧ (¬ i + 1 < l.length → l.dropLast.take (i + 1) = l.dropLast.take i) := by
  constructor
  · intro h1 h
    have hl : i < l.dropLast.length := by simp; omega
    rw [List.take_succ_eq_append_getElem hl, List.getElem_dropLast]
  · intro h1
    have hl : l.dropLast.length ≤ i := by simp; omega
    rw [List.take_of_length_le hl, List.take_of_length_le (by omega)]
end Num
end Go.Proofs.Ytkhcjkmifddlbaa
