/- Plain: Curve's answer. Imports nothing of the dump. -/
import Derived.Test.YtkhcjkmifddlbabDoorChord
import Derived.Test.YtkhcjkmifddlbabDoorSegs
namespace Go.Proofs.YtkhcjkmifddlbabDoor
namespace Num

def sz (n : Int) : Int := if n < 0 then -n else n
def gr (a b : Int) : Int := if b < a then a else b
/-- How far three spots are from standing evenly on a line. -/
def bendV (ax ay bx b2 cx cy : Int) : Int := gr (sz (ax - 2 * bx + cx)) (sz (ay - 2 * b2 + cy))
theorem sz_bd {n B : Int} (h1 : -B ≤ n) (h2 : n ≤ B) : 0 ≤ sz n ∧ sz n ≤ B := by unfold sz; split <;> omega
theorem gr_bd {a b A : Int} (h1 : 0 ≤ a) (h2 : a ≤ A) (h3 : 0 ≤ b) (h4 : b ≤ A) : 0 ≤ gr a b ∧ gr a b ≤ A := by unfold gr; split <;> omega
theorem bendV_bd {ax ay bx b2 cx cy : Int} (h1 : -16384 ≤ ax ∧ ax ≤ 16384) (h2 : -16384 ≤ ay ∧ ay ≤ 16384) (h3 : -16384 ≤ bx ∧ bx ≤ 16384) (h4 : -16384 ≤ b2 ∧ b2 ≤ 16384) (h5 : -16384 ≤ cx ∧ cx ≤ 16384) (h6 : -16384 ≤ cy ∧ cy ≤ 16384) :
    0 ≤ bendV ax ay bx b2 cx cy ∧ bendV ax ay bx b2 cx cy ≤ 65536 := by
  have a := sz_bd (n := ax - 2 * bx + cx) (B := 65536) (by omega) (by omega)
  have b := sz_bd (n := ay - 2 * b2 + cy) (B := 65536) (by omega) (by omega)
  exact gr_bd a.1 a.2 b.1 b.2

/-- How much a segment bends. -/
def needV (g : Sg) : Int :=
  if g.k = 1 then bendV g.x0 g.y0 g.x1 g.y1 g.x3 g.y3
  else if g.k = 2 then 3 * gr (bendV g.x0 g.y0 g.x1 g.y1 g.x2 g.y2) (bendV g.x1 g.y1 g.x2 g.y2 g.x3 g.y3) else 0
/-- Are all spots that the kind has in range? -/
def rangeB (g : Sg) : Bool := inB g.x0 g.y0 && inB g.x3 g.y3 && (!(g.k == 1 || g.k == 2) || inB g.x1 g.y1) && (!(g.k == 2) || inB g.x2 g.y2)
theorem inB_yes {x y : Int} (h : inB x y = true) : (-16384 ≤ x ∧ x ≤ 16384) ∧ -16384 ≤ y ∧ y ≤ 16384 := by
  simp [inB] at h
  exact ⟨wi_yes h.1, wi_yes h.2⟩
theorem range_yes {g : Sg} (h : rangeB g = true) : inB g.x0 g.y0 = true ∧ inB g.x3 g.y3 = true ∧ ((g.k = 1 ∨ g.k = 2) → inB g.x1 g.y1 = true) ∧ (g.k = 2 → inB g.x2 g.y2 = true) := by
  simp only [rangeB, Bool.and_eq_true, Bool.or_eq_true, Bool.not_eq_true', Bool.or_eq_false_iff, beq_eq_false_iff_ne] at h
  obtain ⟨⟨⟨a, b⟩, c⟩, d⟩ := h
  refine ⟨a, b, fun e => ?_, fun e => ?_⟩
  · rcases c with c | c
    · omega
    · exact c
  · rcases d with d | d
    · exact absurd e d
    · exact d
theorem needV_bd {g : Sg} (h : rangeB g = true) : 0 ≤ needV g ∧ needV g ≤ 196608 := by
  obtain ⟨a, b, c, d⟩ := range_yes h
  have a := inB_yes a
  have b := inB_yes b
  unfold needV
  split
  · rename_i e
    have c := inB_yes (c (.inl e))
    have := bendV_bd a.1 a.2 c.1 c.2 b.1 b.2
    omega
  · split
    · rename_i e
      have c := inB_yes (c (.inr e))
      have d := inB_yes (d e)
      have p := bendV_bd a.1 a.2 c.1 c.2 d.1 d.2
      have q := bendV_bd c.1 c.2 d.1 d.2 b.1 b.2
      have := gr_bd p.1 p.2 q.1 q.2
      omega
    · omega

/-- The least number of steps (of the first 200). -/
def stepsV (d : Int) : Int := match (List.range 200).find? (fun (n : Nat) => decide (d ≤ 16 * ((n : Int) + 1) * ((n : Int) + 1))) with
  | some n => (n : Int) + 1
  | none => 1
theorem stepsV_eq {d n : Int} (h : IsSteps d n) (hn : n ≤ 200) : stepsV d = n := by
  have h1 := h.1
  have e : (List.range 200).find? (fun (n : Nat) => decide (d ≤ 16 * ((n : Int) + 1) * ((n : Int) + 1))) = some (n - 1).toNat := by
    rw [List.find?_range_eq_some]
    have e1 : (((n - 1).toNat : Nat) : Int) + 1 = n := by omega
    refine ⟨?_, ?_, fun j hj => ?_⟩
    · rw [e1]; simpa using h.2.1
    · simp; omega
    · have := h.2.2 ((j : Int) + 1) (by omega) (by omega)
      simp; omega
  unfold stepsV
  rw [e]
  show (((n - 1).toNat : Nat) : Int) + 1 = n
  omega
theorem steps_exist {d : Int} (B : Nat) (hB : 1 ≤ B) (hd : d ≤ 16 * (B : Int) * B) : ∃ n, IsSteps d n := by
  induction B with
  | zero => omega
  | succ B ih =>
    by_cases h0 : B = 0
    · subst h0
      exact ⟨1, by omega, by simpa using hd, fun m h1 h2 => by omega⟩
    · by_cases h : d ≤ 16 * (B : Int) * B
      · exact ih (by omega) h
      · refine ⟨(B : Int) + 1, by omega, by simpa using hd, fun m h1 h2 => ?_⟩
        have := sq_mono (a := m) (b := B) (by omega) (by omega)
        omega
theorem stepsV_is {d : Int} (hd : d ≤ 196608) : IsSteps d (stepsV d) := by
  obtain ⟨n, h⟩ := steps_exist (d := d) 111 (by omega) (by omega)
  rw [stepsV_eq h (by have := h.le (B := 111) (by omega) (by omega); omega)]; exact h
theorem stepsV_le {d : Int} (hd : d ≤ 196608) : stepsV d ≤ 111 := (stepsV_is hd).le (by omega) (by omega)
theorem stepsV_pos {d : Int} (hd : d ≤ 196608) : 1 ≤ stepsV d := (stepsV_is hd).1
theorem stepsV_zero {d : Int} (hd : d ≤ 0) : stepsV d = 1 := stepsV_eq ⟨by omega, by omega, fun m h1 h2 => by omega⟩ (by omega)

/-- Spot i of n. -/
def spotX (g : Sg) (n i : Int) : Int :=
  if g.k = 1 then hu (qSum (n - i) i g.x0 g.x1 g.x3) (n * n) else if g.k = 2 then hu (cSum (n - i) i g.x0 g.x1 g.x2 g.x3) (n * n * n) else if i = n then g.x3 else g.x0
def spotY (g : Sg) (n i : Int) : Int :=
  if g.k = 1 then hu (qSum (n - i) i g.y0 g.y1 g.y3) (n * n) else if g.k = 2 then hu (cSum (n - i) i g.y0 g.y1 g.y2 g.y3) (n * n * n) else if i = n then g.y3 else g.y0
def kindB (g : Sg) : Bool := g.k == 0 || g.k == 1 || g.k == 2
def curveE (g : Sg) : Int := if kindB g = false then 3 else if rangeB g = false then 6 else 0
/-- Curve's answer. -/
def curveN (g : Sg) : Nat := (stepsV (needV g)).toNat
def curveL (g : Sg) : List (Int × Int) := if curveE g = 0 then (List.range (curveN g + 1)).map fun (i : Nat) => (spotX g (curveN g) i, spotY g (curveN g) i) else []

theorem curve_ok {g : Sg} (h : curveE g = 0) : kindB g = true ∧ rangeB g = true := by
  unfold curveE at h
  cases hk : kindB g
  · rw [if_pos hk] at h; omega
  · cases hr : rangeB g
    · rw [hk, hr] at h; simp at h
    · exact ⟨rfl, rfl⟩
theorem kind_yes {g : Sg} (h : kindB g = true) : g.k = 0 ∨ g.k = 1 ∨ g.k = 2 := by
  simp [kindB] at h; omega
theorem kind_no {g : Sg} (h : kindB g = false) : g.k ≠ 0 ∧ g.k ≠ 1 ∧ g.k ≠ 2 := by
  simp [kindB] at h; omega

/-- A product of factors of bounded size. -/
theorem mul3_bd {a b c A B C : Int} (ha : -A ≤ a ∧ a ≤ A) (hb : -B ≤ b ∧ b ≤ B) (hc : -C ≤ c ∧ c ≤ C) : -(A * B * C) ≤ a * b * c ∧ a * b * c ≤ A * B * C :=
  mul_bd _ _ _ _ (mul_bd _ _ _ _ ha hb) hc
theorem mul4_bd {a b c d A B C D : Int} (ha : -A ≤ a ∧ a ≤ A) (hb : -B ≤ b ∧ b ≤ B) (hc : -C ≤ c ∧ c ≤ C) (hd : -D ≤ d ∧ d ≤ D) : -(A * B * C * D) ≤ a * b * c * d ∧ a * b * c * d ≤ A * B * C * D :=
  mul_bd _ _ _ _ (mul3_bd ha hb hc) hd
end Num
end Go.Proofs.YtkhcjkmifddlbabDoor
