/- What is held grows. -/
import Derived.Test.YtkhcjkmifddlbabDoorHeld
namespace Go.Proofs.YtkhcjkmifddlbabDoor
open Go.RowKit Go.Deep

/-- Behind an append to one of the caller's rows: every block of another type is as it was. -/
theorem grown_other {w w2 : World} {o : Obj} {row : Option Nat} {t : TypeId} (hg : (w.alloc o).grownBy w2 row) (hr : ∀ b, row = some b → tyOf w b = some t) {b : Nat} (hlt : b < w.heap.size) (ht : tyOf w b ≠ some t) : w2.heap[b]? = w.heap[b]? := by
  rw [hg.block b (by rw [nblk_alloc]; omega) (fun e => ht (hr b e.symm)), blk_alloc_lt _ _ _ hlt]

theorem ty_lt {w : World} {b : Nat} {t : TypeId} (h : tyOf w b = some t) : b < w.heap.size := by
  rcases Nat.lt_or_ge b w.heap.size with hlt | hge
  · exact hlt
  · simp [tyOf, Array.getElem?_eq_none hge] at h

theorem set_other {w2 : World} {h q : Nat} {v : Value} {b : Nat} (hb : b ≠ h) : (w2.setCell ⟨h, q, none⟩ v).heap[b]? = w2.heap[b]? := blk_setCell_other _ _ _ _ (by simpa using hb)

theorem row_of_step {w w2 : World} {o : Obj} {row : Option Nat} {t : TypeId} {h q : Nat} {v : Value} (hg : (w.alloc o).grownBy w2 row) (hr : ∀ b, row = some b → tyOf w b = some t) (hh : tyOf w h = some 37)
    {b : Nat} {t' : TypeId} {n : Nat} {f : Nat → Value} (hrow : w.rowIs b t' n f) (ht : t' ≠ t) (ht' : t' ≠ 37) : (w2.setCell ⟨h, q, none⟩ v).rowIs b t' n f := by
  refine hrow.of_block ?_
  rw [set_other (fun e => by rw [e] at hrow; rw [row_ty hrow] at hh; simp at hh; exact ht' hh)]
  exact grown_other hg hr hrow.lt (by rw [row_ty hrow]; simpa using ht)

theorem rowz_of_step {w w2 : World} {o : Obj} {row : Option Nat} {t : TypeId} {h q : Nat} {v : Value} (hg : (w.alloc o).grownBy w2 row) (hr : ∀ b, row = some b → tyOf w b = some t) (hh : tyOf w h = some 37)
    {b : Nat} {t' : TypeId} {n : Nat} {f : Nat → Value} (hrow : rowIz w b t' n f) (ht : t' ≠ t) (ht' : t' ≠ 37) : rowIz (w2.setCell ⟨h, q, none⟩ v) b t' n f := by
  refine hrow.of_block ?_
  rw [set_other (fun e => by rw [e] at hrow; rw [rowIz_ty hrow] at hh; simp at hh; exact ht' hh)]
  exact grown_other hg hr hrow.lt (by rw [rowIz_ty hrow]; simpa using ht)

theorem owns_of_step {w w2 : World} {o : Obj} {row : Option Nat} {t : TypeId} {h q : Nat} {v : Value} (hg : (w.alloc o).grownBy w2 row) (hr : ∀ b, row = some b → tyOf w b = some t) (hh : tyOf w h = some 37)
    {base : Nat} {t' : TypeId} {sz : Nat} {u : Value} {n : Nat} {xs : List Value} (hown : w.ownsRow base t' sz u n xs) (ht : t' ≠ t) (ht' : t' ≠ 37) : (w2.setCell ⟨h, q, none⟩ v).ownsRow base t' sz u n xs := by
  refine owns_of_block hown fun b hb => ?_
  have hty := owns_ty hown hb
  rw [set_other (fun e => by rw [e] at hty; rw [hty] at hh; simp at hh; exact ht' hh)]
  exact grown_other hg hr (ty_lt hty) (by rw [hty]; simpa using ht)

theorem owns_set_world {w2 : World} {h q : Nat} {v : Value} {base : Nat} {t : TypeId} {sz : Nat} {u : Value} {n : Nat} {xs : List Value} (hown : w2.ownsRow base t sz u n xs) (hne : u.ownBlock ≠ some h) : (w2.setCell ⟨h, q, none⟩ v).ownsRow base t sz u n xs :=
  owns_of_block hown fun b hb => set_other (fun e => hne (by rw [hb, e]))

theorem HeldInv.pushP {w w2 : World} {h : Nat} {s : HS} (H : HeldInv w h s) {b m g cap : Nat} {o : Obj} (hrow : w.rowIs b 83 (m * 3) (mkP s.n)) (hm : m ≤ 1099511627776)
    (hc : (s.P.length : Int) + s.O.length + s.S.length + s.T.length + s.R.length + s.B.length + 1 ≤ s.n)
    (hown : w2.ownsRow h 81 2 (.slice (some ⟨g, 0, none⟩) (s.P.length + 1) cap) (s.P.length + 1) (s.P.flatMap peC ++ [.slice (some ⟨b, 0, none⟩) m m, .int .i64 s.n]))
    (hg : (w.alloc o).grownBy w2 s.vP.ownBlock) (hat : s.vP.ownBlock = some g ∨ g = w.heap.size + 1) :
    HeldInv (w2.setCell ⟨h, 3, none⟩ (.slice (some ⟨g, 0, none⟩) (s.P.length + 1) cap)) h { s with vP := .slice (some ⟨g, 0, none⟩) (s.P.length + 1) cap, P := s.P ++ [(b, m, s.n)] } := by
  have hh := row_ty H.wd
  have hr : ∀ b, s.vP.ownBlock = some b → tyOf w b = some 81 := fun b hb => owns_ty H.oP hb
  have hgh : g ≠ h := by
    rcases hat with hat | hat
    · intro e; have := hr g hat; rw [e, hh] at this; simp at this
    · have := H.wd.lt; omega
  refine { wd := ?wd, oP := ?oP, oO := (owns_of_step hg hr hh H.oO (by decide) (by decide)), oS := (owns_of_step hg hr hh H.oS (by decide) (by decide)), oT := (owns_of_step hg hr hh H.oT (by decide) (by decide)), oR := (owns_of_step hg hr hh H.oR (by decide) (by decide)), eP := ?eP, eO := (fun x hx => row_of_step hg hr hh (H.eO x hx) (by decide) (by decide)), eI := (fun x hx i hi => row_of_step hg hr hh (H.eI x hx i hi) (by decide) (by decide)), eS := (fun x hx y hy => row_of_step hg hr hh (H.eS x hx y hy) (by decide) (by decide)), eN := H.eN, eT := (fun x hx y hy => row_of_step hg hr hh (H.eT x hx y hy) (by decide) (by decide)), eU := H.eU, eR := (fun x hx y hy => row_of_step hg hr hh (H.eR x hx y hy) (by decide) (by decide)), eJ := (fun x hx i hi => row_of_step hg hr hh (H.eJ x hx i hi) (by decide) (by decide)), eM := H.eM, lo := ?lo, hi := H.hi, mP := ?mP, mO := H.mO, mS := H.mS, mT := H.mT, mR := H.mR, oB := (owns_of_step hg hr hh H.oB (by decide) (by decide)), eB := (fun x hx y hy => rowz_of_step hg hr hh (H.eB x hx y hy) (by decide) (by decide)), eV := H.eV, mB := H.mB }
  case wd =>
    refine ((H.wd.of_block (grown_other hg hr H.wd.lt (by rw [hh]; decide))).set 3 _).congr fun q hq => ?_
    by_cases e : q = 3
    · subst e; simp [wc]
    · simp only [if_neg e, wc]
  case oP =>
    have e1 : (s.P ++ [(b, m, s.n)]).length = s.P.length + 1 := by simp
    have e2 : (s.P ++ [(b, m, s.n)]).flatMap peC = s.P.flatMap peC ++ [.slice (some ⟨b, 0, none⟩) m m, .int .i64 s.n] := by simp [peC]
    show World.ownsRow _ h _ 2 _ (s.P ++ [(b, m, s.n)]).length ((s.P ++ [(b, m, s.n)]).flatMap peC)
    rw [e1, e2]
    exact owns_set_world hown (by simpa [Value.ownBlock] using hgh)
  case eP =>
    intro x hx
    rcases List.mem_append.1 hx with hx | hx
    · exact row_of_step hg hr hh (H.eP x hx) (by decide) (by decide)
    · simp at hx; subst hx; exact row_of_step hg hr hh hrow (by decide) (by decide)
  case lo =>
    show ((s.P ++ [(b, m, s.n)]).length : Int) + (s.O.length : Int) + (s.S.length : Int) + (s.T.length : Int) + (s.R.length : Int) + (s.B.length : Int) ≤ s.n
    simp; omega
  case mP =>
    intro x hx
    rcases List.mem_append.1 hx with hx | hx
    · exact H.mP x hx
    · simp at hx; subst hx; exact ⟨by show (0 : Int) ≤ s.n; omega, H.hi, hm⟩

theorem HeldInv.pushO {w w2 : World} {h : Nat} {s : HS} (H : HeldInv w h s) {b m g cap : Nat} {F : Nat → Nat} {o : Obj} (hrow : w.rowIs b 79 m (fun i => .slice (some ⟨F i, 0, none⟩) 1 1)) (hin : ∀ i, i < m → w.rowIs (F i) 83 3 (mkP s.n)) (hm : m ≤ 1099511627776)
    (hc : (s.P.length : Int) + s.O.length + s.S.length + s.T.length + s.R.length + s.B.length + 1 ≤ s.n)
    (hown : w2.ownsRow h 87 2 (.slice (some ⟨g, 0, none⟩) (s.O.length + 1) cap) (s.O.length + 1) (s.O.flatMap oeC ++ [.slice (some ⟨b, 0, none⟩) m m, .int .i64 s.n]))
    (hg : (w.alloc o).grownBy w2 s.vO.ownBlock) (hat : s.vO.ownBlock = some g ∨ g = w.heap.size + 1) :
    HeldInv (w2.setCell ⟨h, 4, none⟩ (.slice (some ⟨g, 0, none⟩) (s.O.length + 1) cap)) h { s with vO := .slice (some ⟨g, 0, none⟩) (s.O.length + 1) cap, O := s.O ++ [(b, m, F, s.n)] } := by
  have hh := row_ty H.wd
  have hr : ∀ b, s.vO.ownBlock = some b → tyOf w b = some 87 := fun b hb => owns_ty H.oO hb
  have hgh : g ≠ h := by
    rcases hat with hat | hat
    · intro e; have := hr g hat; rw [e, hh] at this; simp at this
    · have := H.wd.lt; omega
  refine { wd := ?wd, oP := (owns_of_step hg hr hh H.oP (by decide) (by decide)), oO := ?oO, oS := (owns_of_step hg hr hh H.oS (by decide) (by decide)), oT := (owns_of_step hg hr hh H.oT (by decide) (by decide)), oR := (owns_of_step hg hr hh H.oR (by decide) (by decide)), eP := (fun x hx => row_of_step hg hr hh (H.eP x hx) (by decide) (by decide)), eO := ?eO, eI := ?eI, eS := (fun x hx y hy => row_of_step hg hr hh (H.eS x hx y hy) (by decide) (by decide)), eN := H.eN, eT := (fun x hx y hy => row_of_step hg hr hh (H.eT x hx y hy) (by decide) (by decide)), eU := H.eU, eR := (fun x hx y hy => row_of_step hg hr hh (H.eR x hx y hy) (by decide) (by decide)), eJ := (fun x hx i hi => row_of_step hg hr hh (H.eJ x hx i hi) (by decide) (by decide)), eM := H.eM, lo := ?lo, hi := H.hi, mP := H.mP, mO := ?mO, mS := H.mS, mT := H.mT, mR := H.mR, oB := (owns_of_step hg hr hh H.oB (by decide) (by decide)), eB := (fun x hx y hy => rowz_of_step hg hr hh (H.eB x hx y hy) (by decide) (by decide)), eV := H.eV, mB := H.mB }
  case wd =>
    refine ((H.wd.of_block (grown_other hg hr H.wd.lt (by rw [hh]; decide))).set 4 _).congr fun q hq => ?_
    by_cases e : q = 4
    · subst e; simp [wc]
    · simp only [if_neg e, wc]
  case oO =>
    have e1 : (s.O ++ [(b, m, F, s.n)]).length = s.O.length + 1 := by simp
    have e2 : (s.O ++ [(b, m, F, s.n)]).flatMap oeC = s.O.flatMap oeC ++ [.slice (some ⟨b, 0, none⟩) m m, .int .i64 s.n] := by simp [oeC]
    show World.ownsRow _ h _ 2 _ (s.O ++ [(b, m, F, s.n)]).length ((s.O ++ [(b, m, F, s.n)]).flatMap oeC)
    rw [e1, e2]
    exact owns_set_world hown (by simpa [Value.ownBlock] using hgh)
  case eO =>
    intro x hx
    rcases List.mem_append.1 hx with hx | hx
    · exact row_of_step hg hr hh (H.eO x hx) (by decide) (by decide)
    · simp at hx; subst hx; exact row_of_step hg hr hh hrow (by decide) (by decide)
  case eI =>
    intro x hx i hi
    rcases List.mem_append.1 hx with hx | hx
    · exact row_of_step hg hr hh (H.eI x hx i hi) (by decide) (by decide)
    · simp at hx; subst hx; exact row_of_step hg hr hh (hin i hi) (by decide) (by decide)
  case lo =>
    show (s.P.length : Int) + ((s.O ++ [(b, m, F, s.n)]).length : Int) + (s.S.length : Int) + (s.T.length : Int) + (s.R.length : Int) + (s.B.length : Int) ≤ s.n
    simp; omega
  case mO =>
    intro x hx
    rcases List.mem_append.1 hx with hx | hx
    · exact H.mO x hx
    · simp at hx; subst hx; exact ⟨by show (0 : Int) ≤ s.n; omega, H.hi, hm⟩

theorem HeldInv.pushS {w w2 : World} {h : Nat} {s : HS} (H : HeldInv w h s) {b : Option Nat} {m g cap : Nat} {o : Obj} (hrow : ∀ x, b = some x → w.rowIs x 67 (m * 9) (mkS s.n)) (hnil : b = none → m = 0) (hm : (m : Int) ≤ 9223372036854775807)
    (hc : (s.P.length : Int) + s.O.length + s.S.length + s.T.length + s.R.length + s.B.length + 1 ≤ s.n)
    (hown : w2.ownsRow h 63 2 (.slice (some ⟨g, 0, none⟩) (s.S.length + 1) cap) (s.S.length + 1) (s.S.flatMap seC ++ [.slice (b.map fun b => ⟨b, 0, none⟩) m m, .int .i64 s.n]))
    (hg : (w.alloc o).grownBy w2 s.vS.ownBlock) (hat : s.vS.ownBlock = some g ∨ g = w.heap.size + 1) :
    HeldInv (w2.setCell ⟨h, 5, none⟩ (.slice (some ⟨g, 0, none⟩) (s.S.length + 1) cap)) h { s with vS := .slice (some ⟨g, 0, none⟩) (s.S.length + 1) cap, S := s.S ++ [(b, m, s.n)] } := by
  have hh := row_ty H.wd
  have hr : ∀ b, s.vS.ownBlock = some b → tyOf w b = some 63 := fun b hb => owns_ty H.oS hb
  have hgh : g ≠ h := by
    rcases hat with hat | hat
    · intro e; have := hr g hat; rw [e, hh] at this; simp at this
    · have := H.wd.lt; omega
  refine { wd := ?wd, oP := (owns_of_step hg hr hh H.oP (by decide) (by decide)), oO := (owns_of_step hg hr hh H.oO (by decide) (by decide)), oS := ?oS, oT := (owns_of_step hg hr hh H.oT (by decide) (by decide)), oR := (owns_of_step hg hr hh H.oR (by decide) (by decide)), eP := (fun x hx => row_of_step hg hr hh (H.eP x hx) (by decide) (by decide)), eO := (fun x hx => row_of_step hg hr hh (H.eO x hx) (by decide) (by decide)), eI := (fun x hx i hi => row_of_step hg hr hh (H.eI x hx i hi) (by decide) (by decide)), eS := ?eS, eN := ?eN, eT := (fun x hx y hy => row_of_step hg hr hh (H.eT x hx y hy) (by decide) (by decide)), eU := H.eU, eR := (fun x hx y hy => row_of_step hg hr hh (H.eR x hx y hy) (by decide) (by decide)), eJ := (fun x hx i hi => row_of_step hg hr hh (H.eJ x hx i hi) (by decide) (by decide)), eM := H.eM, lo := ?lo, hi := H.hi, mP := H.mP, mO := H.mO, mS := ?mS, mT := H.mT, mR := H.mR, oB := (owns_of_step hg hr hh H.oB (by decide) (by decide)), eB := (fun x hx y hy => rowz_of_step hg hr hh (H.eB x hx y hy) (by decide) (by decide)), eV := H.eV, mB := H.mB }
  case wd =>
    refine ((H.wd.of_block (grown_other hg hr H.wd.lt (by rw [hh]; decide))).set 5 _).congr fun q hq => ?_
    by_cases e : q = 5
    · subst e; simp [wc]
    · simp only [if_neg e, wc]
  case oS =>
    have e1 : (s.S ++ [(b, m, s.n)]).length = s.S.length + 1 := by simp
    have e2 : (s.S ++ [(b, m, s.n)]).flatMap seC = s.S.flatMap seC ++ [.slice (b.map fun b => ⟨b, 0, none⟩) m m, .int .i64 s.n] := by simp [seC]
    show World.ownsRow _ h _ 2 _ (s.S ++ [(b, m, s.n)]).length ((s.S ++ [(b, m, s.n)]).flatMap seC)
    rw [e1, e2]
    exact owns_set_world hown (by simpa [Value.ownBlock] using hgh)
  case eS =>
    intro x hx y hy
    rcases List.mem_append.1 hx with hx | hx
    · exact row_of_step hg hr hh (H.eS x hx y hy) (by decide) (by decide)
    · simp at hx; subst hx; exact row_of_step hg hr hh (hrow y hy) (by decide) (by decide)
  case eN =>
    intro x hx hy
    rcases List.mem_append.1 hx with hx | hx
    · exact H.eN x hx hy
    · simp at hx; subst hx; exact hnil hy
  case lo =>
    show (s.P.length : Int) + (s.O.length : Int) + ((s.S ++ [(b, m, s.n)]).length : Int) + (s.T.length : Int) + (s.R.length : Int) + (s.B.length : Int) ≤ s.n
    simp; omega
  case mS =>
    intro x hx
    rcases List.mem_append.1 hx with hx | hx
    · exact H.mS x hx
    · simp at hx; subst hx; exact ⟨by show (0 : Int) ≤ s.n; omega, H.hi, hm⟩

theorem HeldInv.pushT {w w2 : World} {h : Nat} {s : HS} (H : HeldInv w h s) {b : Option Nat} {m g cap : Nat} {o : Obj} (hrow : ∀ x, b = some x → w.rowIs x 65 (m * 2) (mkT s.n)) (hnil : b = none → m = 0) (hm : (m : Int) ≤ 9223372036854775807)
    (hc : (s.P.length : Int) + s.O.length + s.S.length + s.T.length + s.R.length + s.B.length + 1 ≤ s.n)
    (hown : w2.ownsRow h 90 2 (.slice (some ⟨g, 0, none⟩) (s.T.length + 1) cap) (s.T.length + 1) (s.T.flatMap seC ++ [.slice (b.map fun b => ⟨b, 0, none⟩) m m, .int .i64 s.n]))
    (hg : (w.alloc o).grownBy w2 s.vT.ownBlock) (hat : s.vT.ownBlock = some g ∨ g = w.heap.size + 1) :
    HeldInv (w2.setCell ⟨h, 6, none⟩ (.slice (some ⟨g, 0, none⟩) (s.T.length + 1) cap)) h { s with vT := .slice (some ⟨g, 0, none⟩) (s.T.length + 1) cap, T := s.T ++ [(b, m, s.n)] } := by
  have hh := row_ty H.wd
  have hr : ∀ b, s.vT.ownBlock = some b → tyOf w b = some 90 := fun b hb => owns_ty H.oT hb
  have hgh : g ≠ h := by
    rcases hat with hat | hat
    · intro e; have := hr g hat; rw [e, hh] at this; simp at this
    · have := H.wd.lt; omega
  refine { wd := ?wd, oP := (owns_of_step hg hr hh H.oP (by decide) (by decide)), oO := (owns_of_step hg hr hh H.oO (by decide) (by decide)), oS := (owns_of_step hg hr hh H.oS (by decide) (by decide)), oT := ?oT, oR := (owns_of_step hg hr hh H.oR (by decide) (by decide)), eP := (fun x hx => row_of_step hg hr hh (H.eP x hx) (by decide) (by decide)), eO := (fun x hx => row_of_step hg hr hh (H.eO x hx) (by decide) (by decide)), eI := (fun x hx i hi => row_of_step hg hr hh (H.eI x hx i hi) (by decide) (by decide)), eS := (fun x hx y hy => row_of_step hg hr hh (H.eS x hx y hy) (by decide) (by decide)), eN := H.eN, eT := ?eT, eU := ?eU, eR := (fun x hx y hy => row_of_step hg hr hh (H.eR x hx y hy) (by decide) (by decide)), eJ := (fun x hx i hi => row_of_step hg hr hh (H.eJ x hx i hi) (by decide) (by decide)), eM := H.eM, lo := ?lo, hi := H.hi, mP := H.mP, mO := H.mO, mS := H.mS, mT := ?mT, mR := H.mR, oB := (owns_of_step hg hr hh H.oB (by decide) (by decide)), eB := (fun x hx y hy => rowz_of_step hg hr hh (H.eB x hx y hy) (by decide) (by decide)), eV := H.eV, mB := H.mB }
  case wd =>
    refine ((H.wd.of_block (grown_other hg hr H.wd.lt (by rw [hh]; decide))).set 6 _).congr fun q hq => ?_
    by_cases e : q = 6
    · subst e; simp [wc]
    · simp only [if_neg e, wc]
  case lo =>
    show (s.P.length : Int) + (s.O.length : Int) + (s.S.length : Int) + ((s.T ++ [(b, m, s.n)]).length : Int) + (s.R.length : Int) + (s.B.length : Int) ≤ s.n
    simp; omega
  case oT =>
    have e1 : (s.T ++ [(b, m, s.n)]).length = s.T.length + 1 := by simp
    have e2 : (s.T ++ [(b, m, s.n)]).flatMap seC = s.T.flatMap seC ++ [.slice (b.map fun b => ⟨b, 0, none⟩) m m, .int .i64 s.n] := by simp [seC]
    show World.ownsRow _ h _ 2 _ (s.T ++ [(b, m, s.n)]).length ((s.T ++ [(b, m, s.n)]).flatMap seC)
    rw [e1, e2]
    exact owns_set_world hown (by simpa [Value.ownBlock] using hgh)
  case eT =>
    intro x hx y hy
    rcases List.mem_append.1 hx with hx | hx
    · exact row_of_step hg hr hh (H.eT x hx y hy) (by decide) (by decide)
    · simp at hx; subst hx; exact row_of_step hg hr hh (hrow y hy) (by decide) (by decide)
  case eU =>
    intro x hx hy
    rcases List.mem_append.1 hx with hx | hx
    · exact H.eU x hx hy
    · simp at hx; subst hx; exact hnil hy
  case mT =>
    intro x hx
    rcases List.mem_append.1 hx with hx | hx
    · exact H.mT x hx
    · simp at hx; subst hx; exact ⟨by show (0 : Int) ≤ s.n; omega, H.hi, hm⟩

theorem HeldInv.pushR {w w2 : World} {h : Nat} {s : HS} (H : HeldInv w h s) {b : Option Nat} {m g cap : Nat} {F : Nat → Nat} {o : Obj} (hrow : ∀ x, b = some x → w.rowIs x 88 m (fun i => .slice (some ⟨F i, 0, none⟩) 1 1)) (hin : ∀ i, i < m → w.rowIs (F i) 65 2 (mkT s.n)) (hnil : b = none → m = 0) (hm : (m : Int) ≤ 9223372036854775807)
    (hc : (s.P.length : Int) + s.O.length + s.S.length + s.T.length + s.R.length + s.B.length + 1 ≤ s.n)
    (hown : w2.ownsRow h 93 2 (.slice (some ⟨g, 0, none⟩) (s.R.length + 1) cap) (s.R.length + 1) (s.R.flatMap reC ++ [.slice (b.map fun b => ⟨b, 0, none⟩) m m, .int .i64 s.n]))
    (hg : (w.alloc o).grownBy w2 s.vR.ownBlock) (hat : s.vR.ownBlock = some g ∨ g = w.heap.size + 1) :
    HeldInv (w2.setCell ⟨h, 7, none⟩ (.slice (some ⟨g, 0, none⟩) (s.R.length + 1) cap)) h { s with vR := .slice (some ⟨g, 0, none⟩) (s.R.length + 1) cap, R := s.R ++ [(b, m, F, s.n)] } := by
  have hh := row_ty H.wd
  have hr : ∀ b, s.vR.ownBlock = some b → tyOf w b = some 93 := fun b hb => owns_ty H.oR hb
  have hgh : g ≠ h := by
    rcases hat with hat | hat
    · intro e; have := hr g hat; rw [e, hh] at this; simp at this
    · have := H.wd.lt; omega
  refine { wd := ?wd, oP := (owns_of_step hg hr hh H.oP (by decide) (by decide)), oO := (owns_of_step hg hr hh H.oO (by decide) (by decide)), oS := (owns_of_step hg hr hh H.oS (by decide) (by decide)), oT := (owns_of_step hg hr hh H.oT (by decide) (by decide)), oR := ?oR, eP := (fun x hx => row_of_step hg hr hh (H.eP x hx) (by decide) (by decide)), eO := (fun x hx => row_of_step hg hr hh (H.eO x hx) (by decide) (by decide)), eI := (fun x hx i hi => row_of_step hg hr hh (H.eI x hx i hi) (by decide) (by decide)), eS := (fun x hx y hy => row_of_step hg hr hh (H.eS x hx y hy) (by decide) (by decide)), eN := H.eN, eT := (fun x hx y hy => row_of_step hg hr hh (H.eT x hx y hy) (by decide) (by decide)), eU := H.eU, eR := ?eR, eJ := ?eJ, eM := ?eM, lo := ?lo, hi := H.hi, mP := H.mP, mO := H.mO, mS := H.mS, mT := H.mT, mR := ?mR, oB := (owns_of_step hg hr hh H.oB (by decide) (by decide)), eB := (fun x hx y hy => rowz_of_step hg hr hh (H.eB x hx y hy) (by decide) (by decide)), eV := H.eV, mB := H.mB }
  case wd =>
    refine ((H.wd.of_block (grown_other hg hr H.wd.lt (by rw [hh]; decide))).set 7 _).congr fun q hq => ?_
    by_cases e : q = 7
    · subst e; simp [wc]
    · simp only [if_neg e, wc]
  case lo =>
    show (s.P.length : Int) + (s.O.length : Int) + (s.S.length : Int) + (s.T.length : Int) + ((s.R ++ [(b, m, F, s.n)]).length : Int) + (s.B.length : Int) ≤ s.n
    simp; omega
  case oR =>
    have e1 : (s.R ++ [(b, m, F, s.n)]).length = s.R.length + 1 := by simp
    have e2 : (s.R ++ [(b, m, F, s.n)]).flatMap reC = s.R.flatMap reC ++ [.slice (b.map fun b => ⟨b, 0, none⟩) m m, .int .i64 s.n] := by simp [reC]
    show World.ownsRow _ h _ 2 _ (s.R ++ [(b, m, F, s.n)]).length ((s.R ++ [(b, m, F, s.n)]).flatMap reC)
    rw [e1, e2]
    exact owns_set_world hown (by simpa [Value.ownBlock] using hgh)
  case eR =>
    intro x hx y hy
    rcases List.mem_append.1 hx with hx | hx
    · exact row_of_step hg hr hh (H.eR x hx y hy) (by decide) (by decide)
    · simp at hx; subst hx; exact row_of_step hg hr hh (hrow y hy) (by decide) (by decide)
  case eJ =>
    intro x hx i hi
    rcases List.mem_append.1 hx with hx | hx
    · exact row_of_step hg hr hh (H.eJ x hx i hi) (by decide) (by decide)
    · simp at hx; subst hx; exact row_of_step hg hr hh (hin i hi) (by decide) (by decide)
  case eM =>
    intro x hx hy
    rcases List.mem_append.1 hx with hx | hx
    · exact H.eM x hx hy
    · simp at hx; subst hx; exact hnil hy
  case mR =>
    intro x hx
    rcases List.mem_append.1 hx with hx | hx
    · exact H.mR x hx
    · simp at hx; subst hx; exact ⟨by show (0 : Int) ≤ s.n; omega, H.hi, hm⟩

theorem HeldInv.pushB {w w2 : World} {h : Nat} {s : HS} (H : HeldInv w h s) {b : Option Nat} {m g cap : Nat} {o : Obj} (hrow : ∀ x, b = some x → rowIz w x 5 m (mkB s.n)) (hnil : b = none → m = 0) (hm : (m : Int) ≤ 9223372036854775807)
    (hc : (s.P.length : Int) + s.O.length + s.S.length + s.T.length + s.R.length + s.B.length + 1 ≤ s.n)
    (hown : w2.ownsRow h 70 2 (.slice (some ⟨g, 0, none⟩) (s.B.length + 1) cap) (s.B.length + 1) (s.B.flatMap seC ++ [.slice (b.map fun b => ⟨b, 0, none⟩) m m, .int .i64 s.n]))
    (hg : (w.alloc o).grownBy w2 s.vB.ownBlock) (hat : s.vB.ownBlock = some g ∨ g = w.heap.size + 1) :
    HeldInv (w2.setCell ⟨h, 8, none⟩ (.slice (some ⟨g, 0, none⟩) (s.B.length + 1) cap)) h { s with vB := .slice (some ⟨g, 0, none⟩) (s.B.length + 1) cap, B := s.B ++ [(b, m, s.n)] } := by
  have hh := row_ty H.wd
  have hr : ∀ b, s.vB.ownBlock = some b → tyOf w b = some 70 := fun b hb => owns_ty H.oB hb
  have hgh : g ≠ h := by
    rcases hat with hat | hat
    · intro e; have := hr g hat; rw [e, hh] at this; simp at this
    · have := H.wd.lt; omega
  refine { wd := ?wd, oP := (owns_of_step hg hr hh H.oP (by decide) (by decide)), oO := (owns_of_step hg hr hh H.oO (by decide) (by decide)), oS := (owns_of_step hg hr hh H.oS (by decide) (by decide)), oT := (owns_of_step hg hr hh H.oT (by decide) (by decide)), oR := (owns_of_step hg hr hh H.oR (by decide) (by decide)), eP := (fun x hx => row_of_step hg hr hh (H.eP x hx) (by decide) (by decide)), eO := (fun x hx => row_of_step hg hr hh (H.eO x hx) (by decide) (by decide)), eI := (fun x hx i hi => row_of_step hg hr hh (H.eI x hx i hi) (by decide) (by decide)), eS := (fun x hx y hy => row_of_step hg hr hh (H.eS x hx y hy) (by decide) (by decide)), eN := H.eN, eT := (fun x hx y hy => row_of_step hg hr hh (H.eT x hx y hy) (by decide) (by decide)), eU := H.eU, eR := (fun x hx y hy => row_of_step hg hr hh (H.eR x hx y hy) (by decide) (by decide)), eJ := (fun x hx i hi => row_of_step hg hr hh (H.eJ x hx i hi) (by decide) (by decide)), eM := H.eM, lo := ?lo, hi := H.hi, mP := H.mP, mO := H.mO, mS := H.mS, mT := H.mT, mR := H.mR, oB := ?oB, eB := ?eB, eV := ?eV, mB := ?mB }
  case wd =>
    refine ((H.wd.of_block (grown_other hg hr H.wd.lt (by rw [hh]; decide))).set 8 _).congr fun q hq => ?_
    by_cases e : q = 8
    · subst e; simp [wc]
    · have e0 : (q = 0 ∨ q = 1 ∨ q = 2 ∨ q = 3 ∨ q = 4 ∨ q = 5 ∨ q = 6 ∨ q = 7) := by omega
      rcases e0 with rfl | rfl | rfl | rfl | rfl | rfl | rfl | rfl <;> rfl
  case lo =>
    show (s.P.length : Int) + (s.O.length : Int) + (s.S.length : Int) + (s.T.length : Int) + (s.R.length : Int) + ((s.B ++ [(b, m, s.n)]).length : Int) ≤ s.n
    simp; omega
  case oB =>
    have e1 : (s.B ++ [(b, m, s.n)]).length = s.B.length + 1 := by simp
    have e2 : (s.B ++ [(b, m, s.n)]).flatMap seC = s.B.flatMap seC ++ [.slice (b.map fun b => ⟨b, 0, none⟩) m m, .int .i64 s.n] := by simp [seC]
    show World.ownsRow _ h _ 2 _ (s.B ++ [(b, m, s.n)]).length ((s.B ++ [(b, m, s.n)]).flatMap seC)
    rw [e1, e2]
    exact owns_set_world hown (by simpa [Value.ownBlock] using hgh)
  case eB =>
    intro x hx y hy
    rcases List.mem_append.1 hx with hx | hx
    · exact rowz_of_step hg hr hh (H.eB x hx y hy) (by decide) (by decide)
    · simp at hx; subst hx; exact rowz_of_step hg hr hh (hrow y hy) (by decide) (by decide)
  case eV =>
    intro x hx hy
    rcases List.mem_append.1 hx with hx | hx
    · exact H.eV x hx hy
    · simp at hx; subst hx; exact hnil hy
  case mB =>
    intro x hx
    rcases List.mem_append.1 hx with hx | hx
    · exact H.mB x hx
    · simp at hx; subst hx; exact ⟨by show (0 : Int) ≤ s.n; omega, H.hi, hm⟩
end Go.Proofs.YtkhcjkmifddlbabDoor
