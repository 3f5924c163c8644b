/- Plain: Trace's answer. Imports nothing of the dump. -/
import Derived.Test.YthpdbbplpmmjlaaChordB
import Derived.Test.YthpdbbplpmmjlaaSegsB
namespace Go.Proofs.Ythpdbbplpmmjlaa
namespace Num

/-- A map. -/
structure Mp where
  a : Int
  b : Int
  c : Int
  d : Int
  x : Int
  y : Int
def pl (m : Mp) (s t : Int) : Int × Int × Int := placeV m.a m.b m.c m.d m.x m.y s t
/-- May a segment be placed? -/
def putOk (m : Mp) (g : Sg) : Bool := (pl m g.x0 g.y0).2.2 == 0 && (pl m g.x1 g.y1).2.2 == 0 && (pl m g.x2 g.y2).2.2 == 0 && (pl m g.x3 g.y3).2.2 == 0
/-- The segment, placed. -/
def putV (m : Mp) (g : Sg) : Sg := ⟨g.k, (pl m g.x0 g.y0).1, (pl m g.x0 g.y0).2.1, (pl m g.x1 g.y1).1, (pl m g.x1 g.y1).2.1, (pl m g.x2 g.y2).1, (pl m g.x2 g.y2).2.1, (pl m g.x3 g.y3).1, (pl m g.x3 g.y3).2.1⟩
def putG (m : Mp) (g : Sg) : Sg := if putOk m g = true then putV m g else ⟨0, 0, 0, 0, 0, 0, 0, 0, 0⟩
def putE (m : Mp) (g : Sg) : Int := if putOk m g = true then 0 else 6

theorem place_in {a b c d x y s t : Int} (h : (placeV a b c d x y s t).2.2 = 0) : inB (placeV a b c d x y s t).1 (placeV a b c d x y s t).2.1 = true := by
  unfold placeV at h ⊢
  by_cases h1 : (wi s 8192 && wi t 8192) = false
  · rw [if_pos h1] at h; simp at h
  · rw [if_neg h1] at h ⊢
    by_cases h2 : fairB a b c d x y = false
    · rw [if_pos h2] at h; simp at h
    · rw [if_neg h2] at h ⊢
      by_cases h3 : inB (x + hu (a * s + b * t) 2048) (y + hu (c * s + d * t) 2048) = false
      · rw [if_pos h3] at h; simp at h
      · rw [if_neg h3]
        simpa using h3
/-- A placed segment is one that Curve takes. -/
theorem put_curve {m : Mp} {g : Sg} (h : putOk m g = true) (hk : g.k = 0 ∨ g.k = 1 ∨ g.k = 2) : curveE (putV m g) = 0 := by
  simp only [putOk, Bool.and_eq_true, beq_iff_eq] at h
  obtain ⟨⟨⟨h0, h1⟩, h2⟩, h3⟩ := h
  have i0 := place_in h0
  have i1 := place_in h1
  have i2 := place_in h2
  have i3 := place_in h3
  have e1 : kindB (putV m g) = true := by
    simp only [kindB, putV]; rcases hk with h | h | h <;> simp [h]
  have e2 : rangeB (putV m g) = true := by
    simp only [rangeB, putV, pl]
    rw [i0, i1, i2, i3]; simp
  unfold curveE
  rw [e1, e2]; rfl

/-- One of the three kinds. -/
def Kd (z : Int) : Prop := z = 0 ∨ z = 1 ∨ z = 2
theorem may_kd {K : Nat → Int} {n i : Nat} (h : badB K n i = false) : Kd (K i) := by
  simp [badB, mayB] at h
  unfold Kd
  omega
theorem stp_kd {X Y K : Nat → Int} {n t : Nat} {p : Int × Int × Int} (hn : 0 < n) (hK : ∀ i, i < n → Kd (K i)) (h : stp X Y K n t = some p) : Kd p.2.2 := by
  unfold stp at h
  split at h
  · simp at h; subst h; exact hK _ (Nat.mod_lt _ hn)
  · split at h
    · simp at h; subst h; exact .inl rfl
    · cases h
theorem scan_kd {X Y K : Nat → Int} {n : Nat} (hn : 0 < n) (hK : ∀ i, i < n → Kd (K i)) : ∀ (d k : Nat) (g : Sg) (m : Nat), Kd g.k → Kd (scanR X Y K n d k g m).k := by
  intro d
  induction d with
  | zero => intro k g m hg; exact hg
  | succ d ih =>
    intro k g m hg
    unfold scanR
    split
    · exact ih _ _ _ hg
    · rename_i p hp
      split
      · exact hg
      · refine ih _ _ _ ?_
        have := stp_kd hn hK hp
        unfold addR
        split <;> exact this
theorem ring_kd {X Y K : Nat → Int} {n : Nat} (hn : 0 < n) (hK : ∀ i, i < n → Kd (K i)) : ∀ g ∈ refRing X Y K n, Kd g.k := by
  intro g hg
  unfold refRing at hg
  rw [List.mem_filterMap] at hg
  obtain ⟨t, _, ht⟩ := hg
  unfold refF at ht
  split at ht
  · simp at ht; subst ht; exact scan_kd hn hK _ _ _ _ (.inl rfl)
  · cases ht

/-- The spots of the first j segments, placed. -/
def segSp (m : Mp) (g : Sg) : List (Int × Int) := (curveL (putV m g)).dropLast
def ringSp (m : Mp) (L : List Sg) : List (Int × Int) := L.flatMap (segSp m)
def ringOk (m : Mp) (L : List Sg) : Bool := L.all (putOk m)
theorem curveL_pos {g : Sg} (h : curveE g = 0) : 0 < (curveL g).length := by
  unfold curveL; rw [if_pos h]; simp
theorem curveL_le (g : Sg) : (curveL g).length ≤ 112 := by
  unfold curveL
  split
  · rename_i h
    have hb := needV_bd (curve_ok h).2
    have h2 := stepsV_le hb.2
    simp [curveN]; omega
  · simp
theorem segSp_le (m : Mp) (g : Sg) : (segSp m g).length ≤ 111 := by
  unfold segSp; have := curveL_le (putV m g); simp; omega
theorem ringSp_snoc (m : Mp) (L : List Sg) (g : Sg) : ringSp m (L ++ [g]) = ringSp m L ++ segSp m g := by simp [ringSp]
theorem ringSp_le (m : Mp) (L : List Sg) : (ringSp m L).length ≤ 111 * L.length := by
  induction L with
  | nil => simp [ringSp]
  | cons g r ih =>
    have := segSp_le m g
    simp only [ringSp, List.flatMap_cons, List.length_append, List.length_cons] at ih ⊢
    omega
theorem ringOk_at {m : Mp} {L : List Sg} (h : ringOk m L = true) {i : Nat} (hi : i < L.length) : putOk m L[i] = true := by
  unfold ringOk at h
  rw [List.all_eq_true] at h
  exact h _ (List.getElem_mem hi)
theorem ringOk_no {m : Mp} {L : List Sg} {i : Nat} (hi : i < L.length) (h : putOk m L[i] = false) : ringOk m L = false := by
  cases e : ringOk m L
  · rfl
  · rw [ringOk_at e hi] at h; cases h
theorem dropLast_take_succ {α : Type} (l : List α) (i : Nat) : (i + 1 < l.length → ∀ h : i < l.length, l.dropLast.take (i + 1) = l.dropLast.take i ++ [l[i]]) ∧ (¬ i + 1 < l.length → l.dropLast.take (i + 1) = l.dropLast.take i) := by
  constructor
  · intro h1 h
    have hl : i < l.dropLast.length := by simp; omega
    rw [List.take_succ_eq_append_getElem hl, List.getElem_dropLast]
  · intro h1
    have hl : l.dropLast.length ≤ i := by simp; omega
    rw [List.take_of_length_le hl, List.take_of_length_le (by omega)]
end Num
end Go.Proofs.Ythpdbbplpmmjlaa
