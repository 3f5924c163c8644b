/- Joined: AreaG, AreaH, SegsB, TraceV, AreaI, AreaJ, Cv, Lend, Impl, CrvB, Spots. -/
import Derived.Test.YtkhcjkmifddlbabPart2
import Derived.Test.YtkhcjkmifddlbabPart1
import Derived.BigQuiet
import Derived.Deep.QuietTactic
import Derived.Deep.AppendLies
/- AreaG -/
namespace Go.Proofs.Ytkhcjkmifddlbab
namespace Num

theorem un_of {ax ay bx b2 i j : Int} (h : meetsV ax ay bx b2 i j = false) : UnV ax ay bx b2 i j := by
  unfold meetsV at h
  have g1 := gr_ge ax bx
  have g2 := gr_ge ay b2
  have l1 := ls_le ax bx
  have l2 := ls_le ay b2
  unfold UnV
  split at h
  · omega
  · simp only [Bool.and_eq_false_iff, Bool.not_eq_false', Bool.and_eq_true, decide_eq_true_eq] at h
    rcases h with ⟨⟨⟨h1, h2⟩, h3⟩, h4⟩ | ⟨⟨⟨h1, h2⟩, h3⟩, h4⟩
    · exact .inr (.inr (.inr (.inr (.inl ⟨h1, h2, h3, h4⟩))))
    · exact .inr (.inr (.inr (.inr (.inr ⟨h1, h2, h3, h4⟩))))
theorem spotG_out {i j x y : Int} (h : y ≤ 64 * j ∨ 64 * j + 64 ≤ y) : spotG i j x y = 0 := by
  unfold spotG; split
  · exact spotH_out h
  · rfl
theorem spotG_flat {ax bx y i j : Int} (h : UnV ax y bx y i j) : spotG i j ax y = spotG i j bx y := by
  have z : ∀ x, turnV ax y bx y x y = 0 := by intro x; unfold turnV; rw [Int.sub_self, Int.zero_mul, Int.mul_zero, Int.sub_self]
  by_cases c : y ≤ 64 * j ∨ 64 * j + 64 ≤ y
  · rw [spotG_out c, spotG_out c]
  · rcases h with h | h | h | h | h | h
    · unfold spotG; rw [if_pos h.1, if_pos h.2]
    · unfold spotG; rw [if_neg (by omega), if_neg (by omega)]
    · omega
    · omega
    · have := (turn_mid (ax := ax) (ay := y) (bx := bx) (b2 := y) (x := 64 * i) (t := 64 * j) (y := y) (by omega) (by omega)).1 h.1 h.2.2.1
      rw [z] at this; omega
    · have := (turn_mid (ax := ax) (ay := y) (bx := bx) (b2 := y) (x := 64 * i) (t := 64 * j) (y := y) (by omega) (by omega)).2 h.1 h.2.2.1
      rw [z] at this; omega
/-- What a chord that does not meet the pixel counts there, but for its crossing, hangs on its ends alone. -/
theorem flat_chord {ax ay bx b2 i j : Int} (h : meetsV ax ay bx b2 i j = false) : chordV ax ay bx b2 i j = 8192 * crossV ax ay bx b2 i j + (spotG i j bx b2 - spotG i j ax ay) := by
  have hu := un_of h
  rcases Int.lt_trichotomy ay b2 with c | c | c
  · have := flat_down c hu
    unfold chordV
    rw [if_neg (by omega)]; omega
  · subst c
    have := spotG_flat hu
    have : crossV ax ay bx ay i j = 0 := by unfold crossV; rw [if_neg (by omega), if_neg (by omega)]
    rw [chordV_flat]; omega
  · have := flat_down c (un_back hu)
    rw [cross_back] at this
    unfold chordV
    rw [if_pos c]; omega

/-- A ring's chords, from a spot on to the last one's next. -/
def ringA (i j : Int) : Int → Int → List (Int × Int) → Int
  | _, _, [] => 0
  | x, y, t :: r => chordV x y t.1 t.2 i j + ringA i j t.1 t.2 r
def ringC (i j : Int) : Int → Int → List (Int × Int) → Int
  | _, _, [] => 0
  | x, y, t :: r => crossV x y t.1 t.2 i j + ringC i j t.1 t.2 r
def ringM (i j : Int) : Int → Int → List (Int × Int) → Bool
  | _, _, [] => false
  | x, y, t :: r => meetsV x y t.1 t.2 i j || ringM i j t.1 t.2 r
theorem ring_flat (i j : Int) : ∀ (l : List (Int × Int)) (x y : Int), ringM i j x y l = false → ringA i j x y l = 8192 * ringC i j x y l + (spotG i j (lastS x y l).1 (lastS x y l).2 - spotG i j x y) := by
  intro l
  induction l with
  | nil => intro x y _; simp only [ringA, ringC, lastS]; omega
  | cons t r ih =>
    intro x y h
    simp only [ringM, Bool.or_eq_false_iff] at h
    simp only [ringA, ringC, lastS, ih t.1 t.2 h.2, flat_chord h.1]
    omega
/-- All round. -/
theorem round_flat (i j x y : Int) (l : List (Int × Int)) (h : ringM i j x y (l ++ [(x, y)]) = false) : ringA i j x y (l ++ [(x, y)]) = 8192 * ringC i j x y (l ++ [(x, y)]) := by
  rw [ring_flat i j _ x y h, lastS_snoc]
  show _ + (spotG i j x y - spotG i j x y) = _
  omega
end Num
end Go.Proofs.Ytkhcjkmifddlbab

/- AreaH -/
namespace Go.Proofs.Ytkhcjkmifddlbab
namespace Num

/-- No line strictly between, whichever is the greater. -/
def noL (x y : Int) : Prop := noLine x y ∧ noLine y x
/-- Each piece lies in one pixel. -/
def PcOk : Int → Int → List (Int × Int) → Prop
  | _, _, [] => True
  | x, y, t :: r => noL x t.1 ∧ noL y t.2 ∧ PcOk t.1 t.2 r
theorem pcOk_append : ∀ (l r : List (Int × Int)) (x y : Int), PcOk x y l → PcOk (lastS x y l).1 (lastS x y l).2 r → PcOk x y (l ++ r) := by
  intro l
  induction l with
  | nil => intro r x y _ h; exact h
  | cons t l ih => intro r x y h h2; exact ⟨h.1, h.2.1, ih r t.1 t.2 h.2.2 h2⟩
theorem noL_in {a b j : Int} (h1 : 64 * j ≤ a ∧ a ≤ 64 * j + 64) (h2 : 64 * j ≤ b ∧ b ≤ 64 * j + 64) : noL a b := by
  constructor <;> intro k hk <;> omega
theorem noL_up {a b : Int} (h : a < b) (h2 : noLine a b) : noL a b := ⟨h2, fun k hk => by omega⟩
theorem noL_dn {a b : Int} (h : b < a) (h2 : noLine b a) : noL a b := ⟨fun k hk => by omega, h2⟩
theorem noL_row {a b : Int} (h : noL a b) : ∃ j : Int, (64 * j ≤ a ∧ a ≤ 64 * j + 64) ∧ (64 * j ≤ b ∧ b ≤ 64 * j + 64) := by
  rcases Int.lt_or_le a b with c | c
  · have := h.1 (a / 64 + 1)
    exact ⟨a / 64, by omega⟩
  · have := h.2 (b / 64 + 1)
    exact ⟨b / 64, by omega⟩
theorem pcOk_U (Y : Int → Int) (j : Int) : ∀ (l : List Int) (x : Int), StepsU x l → (64 * j ≤ Y x ∧ Y x ≤ 64 * j + 64) → (∀ v ∈ l, 64 * j ≤ Y v ∧ Y v ≤ 64 * j + 64) → PcOk x (Y x) (l.map fun v => (v, Y v)) := by
  intro l
  induction l with
  | nil => intro x _ _ _; trivial
  | cons v r ih =>
    intro x h h1 h2
    have hv := h2 v (by simp)
    exact ⟨noL_up h.1 h.2.1, noL_in h1 hv, ih v h.2.2.2 hv (fun u hu => h2 u (by simp [hu]))⟩
theorem pcOk_D (Y : Int → Int) (j : Int) : ∀ (l : List Int) (x : Int), StepsD x l → (64 * j ≤ Y x ∧ Y x ≤ 64 * j + 64) → (∀ v ∈ l, 64 * j ≤ Y v ∧ Y v ≤ 64 * j + 64) → PcOk x (Y x) (l.map fun v => (v, Y v)) := by
  intro l
  induction l with
  | nil => intro x _ _ _; trivial
  | cons v r ih =>
    intro x h h1 h2
    have hv := h2 v (by simp)
    exact ⟨noL_dn h.1 h.2.1, noL_in h1 hv, ih v h.2.2.2 hv (fun u hu => h2 u (by simp [hu]))⟩
theorem pcOk_cols {px py qx qy : Int} (j : Int) (hp : -16384 ≤ px ∧ px ≤ 16384) (hq : -16384 ≤ qx ∧ qx ≤ 16384) (h1 : 64 * j ≤ py ∧ py ≤ 64 * j + 64) (h2 : 64 * j ≤ qy ∧ qy ≤ 64 * j + 64) {L : List (Int × Int)} (hL : L = colsV px py qx qy ++ [(qx, qy)]) :
    PcOk px py L := by
  have glue : px ≠ qx → colsV px py qx qy ++ [(qx, qy)] = (linesV px qx ++ [qx]).map fun v => (v, atV py qy px qx v) := by
    intro hne
    rw [List.map_append, List.map_cons, List.map_nil, atV_end hne]; rfl
  have rng : px ≠ qx → ∀ l, l = linesV px qx ++ [qx] → ∀ v ∈ l, 64 * j ≤ atV py qy px qx v ∧ atV py qy px qx v ≤ 64 * j + 64 := by
    intro hne l hl v hv
    rw [hl, List.mem_append, List.mem_singleton] at hv
    rcases hv with hv | hv
    · have := linesV_mem hv
      exact atV_rng (by omega) h1 h2
    · subst hv; rw [atV_end hne]; exact h2
  rcases Int.lt_trichotomy px qx with c | c | c
  · have r := rng (by omega)
    rw [glue (by omega)] at hL
    generalize hl : linesV px qx ++ [qx] = l at hL
    subst hL
    have h := pcOk_U (atV py qy px qx) j l px (steps_up c (by omega) (by omega) hl.symm) (by rw [atV_begin (by omega)]; exact h1) (r l hl.symm)
    rw [atV_begin (by omega)] at h
    exact h
  · subst c
    have e : colsV px py px qy = [] := by unfold colsV linesV; rw [upR_none _ (Int.le_refl _), dnR_none _ (Int.le_refl _)]; rfl
    rw [e, List.nil_append] at hL
    subst hL
    exact ⟨⟨fun k hk => by simp only at hk; omega, fun k hk => by simp only at hk; omega⟩, noL_in h1 h2, trivial⟩
  · have r := rng (by omega)
    rw [glue (by omega)] at hL
    generalize hl : linesV px qx ++ [qx] = l at hL
    subst hL
    have h := pcOk_D (atV py qy px qx) j l px (steps_dn c (by omega) (by omega) hl.symm) (by rw [atV_begin (by omega)]; exact h1) (r l hl.symm)
    rw [atV_begin (by omega)] at h
    exact h
theorem pcOk_R (X : Int → Int) : ∀ (l : List Int) (y : Int), (StepsU y l ∨ StepsD y l) → (∀ v ∈ y :: l, -16384 ≤ X v ∧ X v ≤ 16384) → ∀ L, L = cutF (X y) y (l.map fun v => (X v, v)) → PcOk (X y) y L := by
  intro l
  induction l with
  | nil => intro y _ _ L hL; subst hL; trivial
  | cons v r ih =>
    intro y h hx L hL
    rw [List.map_cons, show cutF (X y) y ((X v, v) :: r.map fun v => (X v, v)) = colsV (X y) y (X v) v ++ (X v, v) :: cutF (X v) v (r.map fun v => (X v, v)) from rfl] at hL
    rw [show colsV (X y) y (X v) v ++ (X v, v) :: cutF (X v) v (r.map fun v => (X v, v)) = (colsV (X y) y (X v) v ++ [(X v, v)]) ++ cutF (X v) v (r.map fun v => (X v, v)) by simp] at hL
    generalize hc : colsV (X y) y (X v) v ++ [(X v, v)] = c at hL
    generalize hd : cutF (X v) v (r.map fun v => (X v, v)) = d at hL
    subst hL
    have hn : noL y v := by
      rcases h with h | h
      · exact noL_up h.1 h.2.1
      · exact noL_dn h.1 h.2.1
    obtain ⟨j, h1, h2⟩ := noL_row hn
    refine pcOk_append _ _ _ _ (pcOk_cols j (hx y (by simp)) (hx v (by simp)) h1 h2 hc.symm) ?_
    rw [← hc, lastS_snoc]
    refine ih v ?_ (fun u hu => hx u (by simp at hu ⊢; right; exact hu)) d hd.symm
    rcases h with h | h
    · exact .inl h.2.2.2
    · exact .inr h.2.2.2
theorem pcOk_cut {ax ay bx b2 : Int} (ha : inB ax ay = true) (hb : inB bx b2 = true) {L : List (Int × Int)} (hL : L = cutF ax ay (rowsV ax ay bx b2 ++ [(bx, b2)])) : PcOk ax ay L := by
  have a := inB_yes ha
  have b := inB_yes hb
  by_cases hne : ay = b2
  · subst hne
    have e : rowsV ax ay bx ay = [] := by unfold rowsV linesV; rw [upR_none _ (Int.le_refl _), dnR_none _ (Int.le_refl _)]; rfl
    rw [e, List.nil_append, show cutF ax ay [(bx, ay)] = colsV ax ay bx ay ++ [(bx, ay)] from rfl] at hL
    exact pcOk_cols (ay / 64) (by omega) (by omega) (by omega) (by omega) hL
  · have rng : ∀ l, l = linesV ay b2 ++ [b2] → ∀ v ∈ ay :: l, -16384 ≤ atV ax bx ay b2 v ∧ atV ax bx ay b2 v ≤ 16384 := by
      intro l hl v hv
      rw [List.mem_cons, hl, List.mem_append, List.mem_singleton] at hv
      apply atV_rng _ (by omega) (by omega)
      rcases hv with hv | hv | hv
      · omega
      · have := linesV_mem hv; omega
      · omega
    have glue : rowsV ax ay bx b2 ++ [(bx, b2)] = (linesV ay b2 ++ [b2]).map fun v => (atV ax bx ay b2 v, v) := by
      rw [List.map_append, List.map_cons, List.map_nil, atV_end hne]; rfl
    rw [glue] at hL
    generalize hl : linesV ay b2 ++ [b2] = l at hL
    have hs : StepsU ay l ∨ StepsD ay l := by
      rcases Int.lt_or_le ay b2 with c | c
      · exact .inl (steps_up c (by omega) (by omega) hl.symm)
      · exact .inr (steps_dn (by omega) (by omega) (by omega) hl.symm)
    have h := pcOk_R (atV ax bx ay b2) l ay hs (rng l hl.symm) L (by rw [atV_begin hne]; exact hL)
    rw [atV_begin hne] at h
    exact h

/-- The program's numbers of a piece: its row, its column, what it counts there, and to the right. -/
def rowV (y0 y1 : Int) : Int := (lsV y0 y1).tdiv 64
def colV (x0 x1 : Int) : Int := (lsV (gr x0 0) (gr x1 0)).tdiv 64
def hereV (t x0 y0 x1 y1 : Int) : Int := t * (y1 - y0) * (colV x0 x1 * 64 + 64 - gr x0 0 + (colV x0 x1 * 64 + 64) - gr x1 0)
def rightV (t y0 y1 : Int) : Int := t * (y1 - y0) * 2 * 64
def skipB (y0 y1 : Int) : Bool := decide (y0 = y1) || decide (y0 < 0) || decide (y1 < 0)
/-- What a piece adds at the pixel i, j. -/
def pcV (t x0 y0 x1 y1 i j : Int) : Int :=
  if skipB y0 y1 = true then 0 else if j = rowV y0 y1 then (if i < colV x0 x1 then 0 else if i = colV x0 x1 then hereV t x0 y0 x1 y1 else rightV t y0 y1) else 0
theorem gr0 (x : Int) : (x ≤ 0 ∧ gr x 0 = 0) ∨ (0 < x ∧ gr x 0 = x) := by unfold gr; split <;> omega
theorem pcV_eq {t x0 y0 x1 y1 i j : Int} (hx : noL x0 x1) (hy : noL y0 y1) (hi : 0 ≤ i) (hj : 0 ≤ j) : pcV t x0 y0 x1 y1 i j = t * (if inRow j y0 y1 = true then pieceA i x0 y0 x1 y1 else 0) := by
  unfold pcV
  by_cases hs : skipB y0 y1 = true
  · rw [if_pos hs]
    have : (if inRow j y0 y1 = true then pieceA i x0 y0 x1 y1 else 0) = 0 := by
      split
      · rename_i c
        have : y0 = y1 := by
          unfold inRow at c; unfold skipB at hs; simp at c hs; omega
        unfold pieceA; rw [this, Int.sub_self, Int.zero_mul]
      · rfl
    rw [this, Int.mul_zero]
  · rw [if_neg hs]
    have hs' : y0 ≠ y1 ∧ 0 ≤ y0 ∧ 0 ≤ y1 := by unfold skipB at hs; simp at hs; omega
    obtain ⟨r, h1, h2⟩ := noL_row hy
    have hr : rowV y0 y1 = r := by
      unfold rowV lsV
      split
      · rw [Int.tdiv_eq_ediv_of_nonneg (by omega)]; omega
      · rw [Int.tdiv_eq_ediv_of_nonneg (by omega)]; omega
    rw [hr]
    by_cases e : j = r
    · subst e
      have c : inRow j y0 y1 = true := by unfold inRow; simp; omega
      rw [if_pos rfl, if_pos c]
      obtain ⟨c0, k1, k2⟩ := noL_row hx
      have g0 := gr0 x0
      have g1 := gr0 x1
      have hc : (gr x0 0 = 64 * colV x0 x1 ∨ 64 * colV x0 x1 < gr x0 0) ∧ gr x0 0 ≤ 64 * colV x0 x1 + 64 ∧ (gr x1 0 = 64 * colV x0 x1 ∨ 64 * colV x0 x1 < gr x1 0) ∧ gr x1 0 ≤ 64 * colV x0 x1 + 64 ∧ 0 ≤ colV x0 x1 := by
        unfold colV
        obtain ⟨m, hm⟩ : ∃ m, m = lsV (gr x0 0) (gr x1 0) := ⟨_, rfl⟩
        have hm2 : (m = gr x0 0 ∨ m = gr x1 0) ∧ m ≤ gr x0 0 ∧ m ≤ gr x1 0 := by rw [hm]; unfold lsV; split <;> omega
        rw [← hm, Int.tdiv_eq_ediv_of_nonneg (by omega)]
        omega
      obtain ⟨C, hC⟩ : ∃ C, C = colV x0 x1 := ⟨_, rfl⟩
      rw [← hC] at hc
      unfold hereV rightV
      rw [← hC]
      unfold pieceA
      by_cases d1 : i < C
      · rw [if_pos d1, cl_none (by omega), cl_none (by omega)]; simp
      · rw [if_neg d1]
        by_cases d2 : i = C
        · rw [if_pos d2, Int.mul_assoc]
          congr 1
          congr 1
          have z0 : cl (64 * i + 64 - x0) = C * 64 + 64 - gr x0 0 := by
            rcases g0 with g0 | g0
            · rw [cl_far (by omega)]; omega
            · rw [cl_in (by omega) (by omega)]; omega
          have z1 : cl (64 * i + 64 - x1) = C * 64 + 64 - gr x1 0 := by
            rcases g1 with g1 | g1
            · rw [cl_far (by omega)]; omega
            · rw [cl_in (by omega) (by omega)]; omega
          rw [z0, z1]; omega
        · rw [if_neg d2, cl_far (by omega), cl_far (by omega), Int.mul_assoc, Int.mul_assoc]; rfl
    · rw [if_neg e]
      have c : ¬ inRow j y0 y1 = true := by
        intro c; unfold inRow at c; simp at c; omega
      rw [if_neg c, Int.mul_zero]
end Num
end Go.Proofs.Ytkhcjkmifddlbab

/- SegsB -/
namespace Go.Proofs.Ytkhcjkmifddlbab
namespace Num
section
variable {X Y K : Nat → Int} {n : Nat}

theorem exists_on (hn : 2 ≤ n) (hs : ∀ i, i < n → badB K n i = false) : ∃ t, t < 2 * n ∧ onB X Y K n t = true := by
  by_cases hall : ∃ t, t < 2 * n ∧ onB X Y K n t = true
  · exact hall
  exfalso
  have hno : ∀ t, t < 2 * n → onB X Y K n t = false := fun t ht => by
    cases h : onB X Y K n t with
    | false => rfl
    | true => exact absurd ⟨t, ht, h⟩ hall
  have k0 : ∀ i, i < n → K i ≠ 0 := fun i hi h => by
    have := hno (2 * i) (by omega)
    simp only [onB, stp, show 2 * i % 2 = 0 by omega, if_pos, show 2 * i / 2 = i by omega, Nat.mod_eq_of_lt hi, h] at this
    simp at this
  have q0 : ¬ (K 0 = 1 ∧ K 1 = 1) := fun h => by
    have := hno 1 (by omega)
    simp only [onB, stp, show ¬ 1 % 2 = 0 by omega, show 1 / 2 = 0 by omega, Nat.zero_mod, Nat.zero_add, Nat.mod_eq_of_lt (show 1 < n by omega), h] at this
    simp at this
  have m0 := may_all (by omega) hs 0
  have m1 := may_all (by omega) hs 1
  have z0 := k0 0 (by omega)
  have z1 := k0 1 (by omega)
  have za := k0 ((0 + n - 1) % n) (Nat.mod_lt _ (by omega))
  have zb := k0 ((1 + n - 1) % n) (Nat.mod_lt _ (by omega))
  have zc := k0 ((0 + 1) % n) (Nat.mod_lt _ (by omega))
  have zd := k0 ((1 + 1) % n) (Nat.mod_lt _ (by omega))
  rw [Nat.zero_mod] at m0
  rw [Nat.mod_eq_of_lt (show 1 < n by omega)] at m1
  simp only [mayB, Bool.or_eq_true, Bool.and_eq_true, beq_iff_eq] at m0 m1
  omega

theorem segs_eq (hn : 2 ≤ n) (hs : ∀ i, i < n → badB K n i = false) :
    ∃ (f : Nat) (p : Int × Int × Int), (imp X Y K n)[f]? = some p ∧ p.2.2 = 0 ∧ (∀ (j : Nat) (q : Int × Int × Int), j < f → (imp X Y K n)[j]? = some q → q.2.2 ≠ 0) ∧
      walkL ((imp X Y K n).drop (f + 1) ++ (imp X Y K n).take (f + 1)) (initS p) = refRing X Y K n := by
  obtain ⟨t, ht, hon⟩ := exists_on (X := X) (Y := Y) hn hs
  rcases firstI_cases (onB X Y K n) (2 * n) with ⟨_, hno⟩ | ⟨t0, ht0, hon0, hno, _⟩
  · rw [hno t ht] at hon; cases hon
  have hp : ∃ p, stp X Y K n t0 = some p ∧ p.2.2 = 0 := by
    unfold onB at hon0
    cases h : stp X Y K n t0 with
    | none => simp [h] at hon0
    | some p => exact ⟨p, rfl, by simpa [h] using hon0⟩
  obtain ⟨p, hp, hp0⟩ := hp
  have hR : imp X Y K n = stops X Y K n 0 t0 ++ (p :: stops X Y K n (t0 + 1) (2 * n - t0 - 1)) := by
    rw [imp_eq, List.range_eq_range']
    show stops X Y K n 0 (2 * n) = _
    rw [show 2 * n = t0 + (1 + (2 * n - t0 - 1)) by omega, stops_add, stops_add, stops_one, Nat.zero_add, hp]
    rw [show t0 + (1 + (2 * n - t0 - 1)) - t0 - 1 = 2 * n - t0 - 1 by omega]
    rfl
  have hlen : (imp X Y K n).drop ((stops X Y K n 0 t0).length + 1) = stops X Y K n (t0 + 1) (2 * n - t0 - 1) := by
    rw [hR, List.drop_append, List.drop_of_length_le (by omega), List.nil_append, show (stops X Y K n 0 t0).length + 1 - (stops X Y K n 0 t0).length = 1 by omega]
    rfl
  have htk : (imp X Y K n).take ((stops X Y K n 0 t0).length + 1) = stops X Y K n 0 t0 ++ [p] := by
    rw [hR, List.take_append, List.take_of_length_le (by omega), show (stops X Y K n 0 t0).length + 1 - (stops X Y K n 0 t0).length = 1 by omega]
    rfl
  refine ⟨(stops X Y K n 0 t0).length, p, ?_, hp0, ?_, ?_⟩
  · rw [hR, List.getElem?_append_right (Nat.le_refl _), Nat.sub_self]; rfl
  · intro j q hj hq
    rw [hR, List.getElem?_append_left hj] at hq
    have hmem := List.mem_of_getElem? hq
    unfold stops at hmem
    rw [List.mem_filterMap] at hmem
    obtain ⟨u, hu, hst⟩ := hmem
    rw [List.mem_range'_1] at hu
    have := hno u (by omega)
    intro h0
    simp [onB, hst, h0] at this
  · rw [hlen, htk]
    have e1 : stops X Y K n 0 t0 ++ [p] = stops X Y K n (2 * n) (t0 + 1) := by
      have h1 := stops_period (X := X) (Y := Y) (K := K) (n := n) 0 (t0 + 1)
      rw [Nat.zero_add] at h1
      rw [h1, stops_add, stops_one, Nat.zero_add, hp]
      rfl
    have e2 : stops X Y K n (t0 + 1) (2 * n - t0 - 1) ++ stops X Y K n (2 * n) (t0 + 1) = stops X Y K n (t0 + 1) (2 * n) := by
      have h1 := stops_add (X := X) (Y := Y) (K := K) (n := n) (t0 + 1) (2 * n - t0 - 1) (t0 + 1)
      rw [show 2 * n - t0 - 1 + (t0 + 1) = 2 * n by omega, show t0 + 1 + (2 * n - t0 - 1) = 2 * n by omega] at h1
      exact h1.symm
    rw [e1, e2]
    have hE : onB X Y K n (t0 + 2 * n) = true := by rw [onB_period]; exact hon0
    have hfrom : fromV X Y K n t0 = scanR X Y K n (t0 + 2 * n + 1 - (t0 + 1)) (t0 + 1) (initS p) 0 := by
      unfold fromV
      rw [stp_stv hp, show t0 + 2 * n + 1 - (t0 + 1) = 2 * n by omega]
    have h := walk_ref (X := X) (Y := Y) (show 0 < n by omega) hs (t0 + 2 * n) hE (2 * n) (t0 + 1) t0 0 (initS p) (by omega) (by omega) (by omega) (by omega) hfrom (.inl ⟨rfl, rfl⟩) (by omega)
    rw [h]
    unfold refRing
    have hz : ∀ a d, (∀ u, a ≤ u → u < a + d → onB X Y K n u = false) → (List.range' a d).filterMap (refF X Y K n) = [] := by
      intro a d hu
      rw [List.filterMap_eq_nil_iff]
      intro u hm
      rw [List.mem_range'_1] at hm
      simp [refF, hu u hm.1 hm.2]
    have r1 : List.range (2 * n) = List.range' 0 t0 ++ (t0 :: List.range' (t0 + 1) (2 * n - t0 - 1)) := by
      rw [List.range_eq_range', show 2 * n = t0 + (2 * n - t0 - 1 + 1) by omega, ← List.range'_append_1, List.range'_succ, Nat.zero_add]
      rw [show t0 + (2 * n - t0 - 1 + 1) - t0 - 1 = 2 * n - t0 - 1 by omega]
    have r2 : List.range' (t0 + 1) (2 * n - 1) = List.range' (t0 + 1) (2 * n - t0 - 1) ++ List.range' (2 * n) t0 := by
      have := List.range'_append_1 (s := t0 + 1) (m := 2 * n - t0 - 1) (n := t0)
      rw [show t0 + 1 + (2 * n - t0 - 1) = 2 * n by omega, show 2 * n - t0 - 1 + t0 = 2 * n - 1 by omega] at this
      exact this.symm
    rw [r1, r2, List.filterMap_append, List.filterMap_append, List.filterMap_cons]
    rw [hz 0 t0 (fun u _ hu => hno u (by omega)), hz (2 * n) t0 (fun u h1 h2 => by
      have := onB_period (X := X) (Y := Y) (K := K) (n := n) (u - 2 * n)
      rw [show u - 2 * n + 2 * n = u by omega] at this
      rw [this]; exact hno _ (by omega))]
    simp [refF, hon0]

theorem walkL_length : ∀ (l : List (Int × Int × Int)) (g : Sg), (walkL l g).length ≤ l.length := by
  intro l
  induction l with
  | nil => intro g; simp [walkL]
  | cons p r ih =>
    intro g
    simp only [walkL]
    split
    · have := ih (initS p); simp; omega
    · have := ih (addP g p); simp; omega

theorem imp_length (m : Nat) : ((List.range m).flatMap (impF X Y K n)).length ≤ 2 * m := by
  induction m with
  | zero => simp
  | succ m ih =>
    rw [List.range_succ, List.flatMap_append, List.length_append]
    have : ((List.flatMap (impF X Y K n) [m])).length ≤ 2 := by
      simp [impF]; split <;> simp
    omega
end
end Num
end Go.Proofs.Ytkhcjkmifddlbab

/- TraceV -/
namespace Go.Proofs.Ytkhcjkmifddlbab
namespace Num

/-- A map. -/
structure Mp where
  a : Int
  b : Int
  c : Int
  d : Int
  x : Int
  y : Int
def pl (m : Mp) (s t : Int) : Int × Int × Int := placeV m.a m.b m.c m.d m.x m.y s t
/-- May a segment be placed? -/
def putOk (m : Mp) (g : Sg) : Bool := (pl m g.x0 g.y0).2.2 == 0 && (pl m g.x1 g.y1).2.2 == 0 && (pl m g.x2 g.y2).2.2 == 0 && (pl m g.x3 g.y3).2.2 == 0
/-- The segment, placed. -/
def putV (m : Mp) (g : Sg) : Sg := ⟨g.k, (pl m g.x0 g.y0).1, (pl m g.x0 g.y0).2.1, (pl m g.x1 g.y1).1, (pl m g.x1 g.y1).2.1, (pl m g.x2 g.y2).1, (pl m g.x2 g.y2).2.1, (pl m g.x3 g.y3).1, (pl m g.x3 g.y3).2.1⟩
def putG (m : Mp) (g : Sg) : Sg := if putOk m g = true then putV m g else ⟨0, 0, 0, 0, 0, 0, 0, 0, 0⟩
def putE (m : Mp) (g : Sg) : Int := if putOk m g = true then 0 else 6

theorem place_in {a b c d x y s t : Int} (h : (placeV a b c d x y s t).2.2 = 0) : inB (placeV a b c d x y s t).1 (placeV a b c d x y s t).2.1 = true := by
  unfold placeV at h ⊢
  by_cases h1 : (wi s 8192 && wi t 8192) = false
  · rw [if_pos h1] at h; simp at h
  · rw [if_neg h1] at h ⊢
    by_cases h2 : fairB a b c d x y = false
    · rw [if_pos h2] at h; simp at h
    · rw [if_neg h2] at h ⊢
      by_cases h3 : inB (x + hu (a * s + b * t) 2048) (y + hu (c * s + d * t) 2048) = false
      · rw [if_pos h3] at h; simp at h
      · rw [if_neg h3]
        simpa using h3
/-- A placed segment is one that Curve takes. -/
theorem put_curve {m : Mp} {g : Sg} (h : putOk m g = true) (hk : g.k = 0 ∨ g.k = 1 ∨ g.k = 2) : curveE (putV m g) = 0 := by
  simp only [putOk, Bool.and_eq_true, beq_iff_eq] at h
  obtain ⟨⟨⟨h0, h1⟩, h2⟩, h3⟩ := h
  have i0 := place_in h0
  have i1 := place_in h1
  have i2 := place_in h2
  have i3 := place_in h3
  have e1 : kindB (putV m g) = true := by
    simp only [kindB, putV]; rcases hk with h | h | h <;> simp [h]
  have e2 : rangeB (putV m g) = true := by
    simp only [rangeB, putV, pl]
    rw [i0, i1, i2, i3]; simp
  unfold curveE
  rw [e1, e2]; rfl

/-- One of the three kinds. -/
def Kd (z : Int) : Prop := z = 0 ∨ z = 1 ∨ z = 2
theorem may_kd {K : Nat → Int} {n i : Nat} (h : badB K n i = false) : Kd (K i) := by
  simp [badB, mayB] at h
  unfold Kd
  omega
theorem stp_kd {X Y K : Nat → Int} {n t : Nat} {p : Int × Int × Int} (hn : 0 < n) (hK : ∀ i, i < n → Kd (K i)) (h : stp X Y K n t = some p) : Kd p.2.2 := by
  unfold stp at h
  split at h
  · simp at h; subst h; exact hK _ (Nat.mod_lt _ hn)
  · split at h
    · simp at h; subst h; exact .inl rfl
    · cases h
theorem scan_kd {X Y K : Nat → Int} {n : Nat} (hn : 0 < n) (hK : ∀ i, i < n → Kd (K i)) : ∀ (d k : Nat) (g : Sg) (m : Nat), Kd g.k → Kd (scanR X Y K n d k g m).k := by
  intro d
  induction d with
  | zero => intro k g m hg; exact hg
  | succ d ih =>
    intro k g m hg
    unfold scanR
    split
    · exact ih _ _ _ hg
    · rename_i p hp
      split
      · exact hg
      · refine ih _ _ _ ?_
        have := stp_kd hn hK hp
        unfold addR
        split <;> exact this
theorem ring_kd {X Y K : Nat → Int} {n : Nat} (hn : 0 < n) (hK : ∀ i, i < n → Kd (K i)) : ∀ g ∈ refRing X Y K n, Kd g.k := by
  intro g hg
  unfold refRing at hg
  rw [List.mem_filterMap] at hg
  obtain ⟨t, _, ht⟩ := hg
  unfold refF at ht
  split at ht
  · simp at ht; subst ht; exact scan_kd hn hK _ _ _ _ (.inl rfl)
  · cases ht

/-- The spots of the first j segments, placed. -/
def segSp (m : Mp) (g : Sg) : List (Int × Int) := (curveL (putV m g)).dropLast
def ringSp (m : Mp) (L : List Sg) : List (Int × Int) := L.flatMap (segSp m)
def ringOk (m : Mp) (L : List Sg) : Bool := L.all (putOk m)
theorem curveL_pos {g : Sg} (h : curveE g = 0) : 0 < (curveL g).length := by
  unfold curveL; rw [if_pos h]; simp
theorem curveL_le (g : Sg) : (curveL g).length ≤ 112 := by
  unfold curveL
  split
  · rename_i h
    have hb := needV_bd (curve_ok h).2
    have h2 := stepsV_le hb.2
    simp [curveN]; omega
  · simp
theorem segSp_le (m : Mp) (g : Sg) : (segSp m g).length ≤ 111 := by
  unfold segSp; have := curveL_le (putV m g); simp; omega
theorem ringSp_snoc (m : Mp) (L : List Sg) (g : Sg) : ringSp m (L ++ [g]) = ringSp m L ++ segSp m g := by simp [ringSp]
theorem ringSp_le (m : Mp) (L : List Sg) : (ringSp m L).length ≤ 111 * L.length := by
  induction L with
  | nil => simp [ringSp]
  | cons g r ih =>
    have := segSp_le m g
    simp only [ringSp, List.flatMap_cons, List.length_append, List.length_cons] at ih ⊢
    omega
theorem ringOk_at {m : Mp} {L : List Sg} (h : ringOk m L = true) {i : Nat} (hi : i < L.length) : putOk m L[i] = true := by
  unfold ringOk at h
  rw [List.all_eq_true] at h
  exact h _ (List.getElem_mem hi)
theorem ringOk_no {m : Mp} {L : List Sg} {i : Nat} (hi : i < L.length) (h : putOk m L[i] = false) : ringOk m L = false := by
  cases e : ringOk m L
  · rfl
  · rw [ringOk_at e hi] at h; cases h
theorem dropLast_take_succ {α : Type} (l : List α) (i : Nat) : (i + 1 < l.length → ∀ h : i < l.length, l.dropLast.take (i + 1) = l.dropLast.take i ++ [l[i]]) ∧ (¬ i + 1 < l.length → l.dropLast.take (i + 1) = l.dropLast.take i) := by
  constructor
  · intro h1 h
    have hl : i < l.dropLast.length := by simp; omega
    rw [List.take_succ_eq_append_getElem hl, List.getElem_dropLast]
  · intro h1
    have hl : l.dropLast.length ≤ i := by simp; omega
    rw [List.take_of_length_le hl, List.take_of_length_le (by omega)]
end Num
end Go.Proofs.Ytkhcjkmifddlbab

/- AreaI -/
namespace Go.Proofs.Ytkhcjkmifddlbab
namespace Num

theorem mx_bd {u i a b B : Int} (hu : 0 ≤ u) (hi : 0 ≤ i) (ha : -B ≤ a ∧ a ≤ B) (hb : -B ≤ b ∧ b ≤ B) : -(B * (u + i)) ≤ mx u i a b ∧ mx u i a b ≤ B * (u + i) := by
  have h1 := mul_ge ha hu
  have h2 := mul_ge hb hi
  unfold mx
  rw [Int.mul_comm u a, Int.mul_comm i b, Int.mul_add]
  omega
theorem quad_bd {n i a b c : Int} (h0 : 0 ≤ i) (h1 : i ≤ n) (hn : 0 < n) (ha : -16384 ≤ a ∧ a ≤ 16384) (hb : -16384 ≤ b ∧ b ≤ 16384) (hc : -16384 ≤ c ∧ c ≤ 16384) : -16384 ≤ hu (qSum (n - i) i a b c) (n * n) ∧ hu (qSum (n - i) i a b c) (n * n) ≤ 16384 := by
  have e : n - i + i = n := by omega
  have x := mx_bd (u := n - i) (i := i) (by omega) h0 ha hb
  have y := mx_bd (u := n - i) (i := i) (by omega) h0 hb hc
  have z := mx_bd (u := n - i) (i := i) (by omega) h0 x y
  rw [mx_quad, e] at z
  refine hu_between (Int.mul_pos hn hn) ?_ ?_
  · rw [← Int.mul_assoc]; exact z.1
  · rw [← Int.mul_assoc]; exact z.2
theorem cubic_bd {n i a b c d : Int} (h0 : 0 ≤ i) (h1 : i ≤ n) (hn : 0 < n) (ha : -16384 ≤ a ∧ a ≤ 16384) (hb : -16384 ≤ b ∧ b ≤ 16384) (hc : -16384 ≤ c ∧ c ≤ 16384) (hd : -16384 ≤ d ∧ d ≤ 16384) : -16384 ≤ hu (cSum (n - i) i a b c d) (n * n * n) ∧ hu (cSum (n - i) i a b c d) (n * n * n) ≤ 16384 := by
  have e : n - i + i = n := by omega
  have x := mx_bd (u := n - i) (i := i) (by omega) h0 ha hb
  have y := mx_bd (u := n - i) (i := i) (by omega) h0 hb hc
  have w := mx_bd (u := n - i) (i := i) (by omega) h0 hc hd
  have p := mx_bd (u := n - i) (i := i) (by omega) h0 x y
  have q := mx_bd (u := n - i) (i := i) (by omega) h0 y w
  have z := mx_bd (u := n - i) (i := i) (by omega) h0 p q
  rw [mx_cubic, e] at z
  refine hu_between (Int.mul_pos (Int.mul_pos hn hn) hn) ?_ ?_
  · rw [← Int.mul_assoc, ← Int.mul_assoc]; exact z.1
  · rw [← Int.mul_assoc, ← Int.mul_assoc]; exact z.2
theorem inB_of {x y : Int} (h1 : -16384 ≤ x ∧ x ≤ 16384) (h2 : -16384 ≤ y ∧ y ≤ 16384) : inB x y = true := by
  simp [inB, wi]; omega
theorem spot_in {g : Sg} {n i : Int} (h : rangeB g = true) (h0 : 0 ≤ i) (h1 : i ≤ n) (hn : 0 < n) : inB (spotX g n i) (spotY g n i) = true := by
  obtain ⟨a, b, c, d⟩ := range_yes h
  have a := inB_yes a
  have b := inB_yes b
  unfold spotX spotY
  by_cases e1 : g.k = 1
  · have c := inB_yes (c (.inl e1))
    rw [if_pos e1, if_pos e1]
    exact inB_of (quad_bd h0 h1 hn a.1 c.1 b.1) (quad_bd h0 h1 hn a.2 c.2 b.2)
  · rw [if_neg e1, if_neg e1]
    by_cases e2 : g.k = 2
    · have c := inB_yes (c (.inr e2))
      have d := inB_yes (d e2)
      rw [if_pos e2, if_pos e2]
      exact inB_of (cubic_bd h0 h1 hn a.1 c.1 d.1 b.1) (cubic_bd h0 h1 hn a.2 c.2 d.2 b.2)
    · rw [if_neg e2, if_neg e2]
      split
      · exact inB_of b.1 b.2
      · exact inB_of a.1 a.2
theorem curveL_in {g : Sg} : ∀ p ∈ curveL g, inB p.1 p.2 = true := by
  intro p hp
  unfold curveL at hp
  split at hp
  · rename_i h
    have hr := (curve_ok h).2
    have hb := needV_bd hr
    have hs := stepsV_pos hb.2
    rw [List.mem_map] at hp
    obtain ⟨i, hi, rfl⟩ := hp
    have hi : i < curveN g + 1 := by simpa using hi
    have hn : (0 : Int) < (curveN g : Int) := by unfold curveN; omega
    exact spot_in hr (by omega) (by omega) hn
  · cases hp
theorem ringSp_in {m : Mp} {L : List Sg} : ∀ p ∈ ringSp m L, inB p.1 p.2 = true := by
  intro p hp
  unfold ringSp at hp
  rw [List.mem_flatMap] at hp
  obtain ⟨g, _, hg⟩ := hp
  exact curveL_in p (List.mem_of_mem_take (by rw [segSp, List.dropLast_eq_take] at hg; exact hg))
theorem colsV_in {ax ay bx b2 : Int} (ha : inB ax ay = true) (hb : inB bx b2 = true) : ∀ t ∈ colsV ax ay bx b2, inB t.1 t.2 = true := by
  intro t ht
  unfold colsV at ht
  rw [List.mem_map] at ht
  obtain ⟨x, hx, rfl⟩ := ht
  have h := linesV_mem hx
  have a := inB_yes ha
  have b := inB_yes hb
  have hy := atV_bd (n := x) a.2 b.2 h
  exact inB_of (by omega) hy
theorem cutF_in : ∀ (r : List (Int × Int)) (x y : Int), inB x y = true → (∀ t ∈ r, inB t.1 t.2 = true) → ∀ t ∈ cutF x y r, inB t.1 t.2 = true := by
  intro r
  induction r with
  | nil => intro x y _ _ t ht; cases ht
  | cons u r ih =>
    intro x y h hr t ht
    have hu := hr u (by simp)
    simp only [cutF, List.mem_append, List.mem_cons] at ht
    rcases ht with ht | ht | ht
    · exact colsV_in h hu t ht
    · rw [ht]; exact hu
    · exact ih u.1 u.2 hu (fun v hv => hr v (by simp [hv])) t ht
theorem cutsL_in {ax ay bx b2 : Int} : ∀ t ∈ cutsL ax ay bx b2, inB t.1 t.2 = true := by
  intro t ht
  unfold cutsL at ht
  split at ht
  · rename_i h
    obtain ⟨a, b⟩ := cuts_ok h
    rw [List.mem_cons] at ht
    rcases ht with ht | ht
    · rw [ht]; exact a
    · refine cutF_in _ _ _ a (fun u hu => ?_) t ht
      rw [List.mem_append, List.mem_singleton] at hu
      rcases hu with hu | hu
      · exact rowsV_in a b u hu
      · rw [hu]; exact b
  · cases ht
theorem cutsL_len (ax ay bx b2 : Int) : (cutsL ax ay bx b2).length ≤ 1100000 := by
  unfold cutsL
  split
  · have h := cutF_len (rowsV ax ay bx b2 ++ [(bx, b2)]) ax ay
    have h2 := rowsV_len ax ay bx b2
    simp only [List.length_append, List.length_cons, List.length_nil] at h ⊢
    omega
  · simp

/-- Each piece of the whole list. -/
theorem pcOk_at : ∀ (l : List (Int × Int)) (x y : Int), PcOk x y l → ∀ (m : Nat) (hm : m < l.length), noL (lastS x y (l.take m)).1 l[m].1 ∧ noL (lastS x y (l.take m)).2 l[m].2 := by
  intro l
  induction l with
  | nil => intro x y _ m hm; simp at hm
  | cons t r ih =>
    intro x y h m hm
    cases m with
    | zero => exact ⟨h.1, h.2.1⟩
    | succ m => exact ih t.1 t.2 h.2.2 m (by simpa using hm)
theorem pcOk_cuts {ax ay bx b2 : Int} {L : List (Int × Int)} (hL : L = cutsL ax ay bx b2) : PcOk ax ay L := by
  unfold cutsL at hL
  split at hL
  · rename_i h
    obtain ⟨a, b⟩ := cuts_ok h
    generalize hc : cutF ax ay (rowsV ax ay bx b2 ++ [(bx, b2)]) = c at hL
    subst hL
    exact ⟨⟨fun k hk => by simp only at hk; omega, fun k hk => by simp only at hk; omega⟩, ⟨fun k hk => by simp only at hk; omega, fun k hk => by simp only at hk; omega⟩, pcOk_cut a b hc.symm⟩
  · subst hL; trivial
theorem sumP_take (i j x y : Int) (l : List (Int × Int)) (m : Nat) (hm : m < l.length) : sumP i j x y (l.take (m + 1)) = sumP i j x y (l.take m) + (if inRow j (lastS x y (l.take m)).2 l[m].2 = true then pieceA i (lastS x y (l.take m)).1 (lastS x y (l.take m)).2 l[m].1 l[m].2 else 0) := by
  rw [List.take_succ_eq_append_getElem hm, sumP_append]
  simp only [sumP, Int.add_zero]
theorem lastS_take (x y : Int) (l : List (Int × Int)) (m : Nat) (hm : m < l.length) : lastS x y (l.take (m + 1)) = l[m] := by
  rw [List.take_succ_eq_append_getElem hm, lastS_snoc]
theorem sumP_cuts {ax ay bx b2 : Int} (i j : Int) (ha : inB ax ay = true) (hb : inB bx b2 = true) : sumP i j ax ay (cutsL ax ay bx b2) = chordV ax ay bx b2 i j := by
  have e : cutsE ax ay bx b2 = 0 := by unfold cutsE; rw [ha, hb]; rfl
  unfold cutsL
  rw [if_pos e]
  show (if inRow j ay ay = true then pieceA i ax ay ax ay else 0) + sumP i j ax ay _ = _
  rw [chord_sum i j ha hb]
  have : (if inRow j ay ay = true then pieceA i ax ay ax ay else 0) = 0 := by
    unfold pieceA; rw [Int.sub_self, Int.zero_mul]; split <;> rfl
  omega

/-- Sums. -/
def sumZ (f : Nat → Int) : Nat → Int
  | 0 => 0
  | k + 1 => sumZ f k + f k
theorem sumZ_congr {f g : Nat → Int} : ∀ n, (∀ k, k < n → f k = g k) → sumZ f n = sumZ g n := by
  intro n
  induction n with
  | zero => intro _; rfl
  | succ n ih => intro h; simp only [sumZ]; rw [ih (fun k hk => h k (by omega)), h n (by omega)]
theorem sumZ_bd {f : Nat → Int} {B : Int} : ∀ n : Nat, (∀ k, k < n → -B ≤ f k ∧ f k ≤ B) → -(B * n) ≤ sumZ f n ∧ sumZ f n ≤ B * n := by
  intro n
  induction n with
  | zero => intro _; simp [sumZ]
  | succ n ih =>
    intro h
    have h1 := ih (fun k hk => h k (by omega))
    have h2 := h n (by omega)
    simp only [sumZ]
    rw [show ((n + 1 : Nat) : Int) = (n : Int) + 1 by omega, Int.mul_add, Int.mul_one]
    omega
theorem sumZ_mul (t : Int) (f : Nat → Int) : ∀ n, sumZ (fun k => t * f k) n = t * sumZ f n := by
  intro n
  induction n with
  | zero => simp [sumZ]
  | succ n ih => simp only [sumZ, ih, Int.mul_add]
theorem sumZ_add (f g : Nat → Int) : ∀ n, sumZ (fun k => f k + g k) n = sumZ f n + sumZ g n := by
  intro n
  induction n with
  | zero => simp [sumZ]
  | succ n ih => simp only [sumZ, ih]; omega
/-- Of a ring: spot k, and the one behind it. -/
def ats (l : List (Int × Int)) (k : Nat) : Int × Int := l[k]?.getD (0, 0)
def nxR (n k : Nat) : Nat := if k + 1 < n then k + 1 else 0
theorem ats_at {l : List (Int × Int)} {k : Nat} (h : k < l.length) : ats l k = l[k] := by unfold ats; simp [h]
theorem nxR_lt {n k : Nat} (h : k < n) : nxR n k < n := by unfold nxR; split <;> omega
theorem nxR_mod {n k : Nat} (h : k < n) : nxR n k = (k + 1) % n := by
  unfold nxR
  split
  · rename_i c; rw [Nat.mod_eq_of_lt c]
  · have : k + 1 = n := by omega
    rw [this, Nat.mod_self]
/-- A number for each chord of a ring, and of all rings. -/
def chF (F : Int → Int → Int → Int → Int) (l : List (Int × Int)) (k : Nat) : Int := F (ats l k).1 (ats l k).2 (ats l (nxR l.length k)).1 (ats l (nxR l.length k)).2
def ringF (F : Int → Int → Int → Int → Int) (l : List (Int × Int)) : Int := sumZ (chF F l) l.length
def outF (F : Int → Int → Int → Int → Int) (L : Nat → List (Int × Int)) (N : Nat) : Int := sumZ (fun r => ringF F (L r)) N
/-- The area of rings at a pixel. -/
def chA (i j : Int) (ax ay bx b2 : Int) : Int := chordV ax ay bx b2 i j
def areaV (L : Nat → List (Int × Int)) (N : Nat) (i j : Int) : Int := outF (chA i j) L N
theorem ringA_bd (l : List (Int × Int)) (i j : Int) : -(8192 * (l.length : Int)) ≤ ringF (chA i j) l ∧ ringF (chA i j) l ≤ 8192 * (l.length : Int) :=
  sumZ_bd (f := chF (chA i j) l) (B := 8192) _ (fun k _ => chordV_bd (ats l k).1 (ats l k).2 (ats l (nxR l.length k)).1 (ats l (nxR l.length k)).2 i j)
theorem areaV_bd {L : Nat → List (Int × Int)} {N M : Nat} (i j : Int) (h : ∀ r, r < N → (L r).length ≤ M) : -(8192 * (M : Int) * N) ≤ areaV L N i j ∧ areaV L N i j ≤ 8192 * (M : Int) * N :=
  sumZ_bd (f := fun r => ringF (chA i j) (L r)) (B := 8192 * (M : Int)) _ (fun r hr => by have := ringA_bd (L r) i j; have := h r hr; omega)
end Num
end Go.Proofs.Ytkhcjkmifddlbab

/- AreaJ -/
namespace Go.Proofs.Ytkhcjkmifddlbab
namespace Num

theorem gr_or (a b : Int) : gr a b = a ∨ gr a b = b := by unfold gr; split <;> simp
theorem ls_or (a b : Int) : lsV a b = a ∨ lsV a b = b := by unfold lsV; split <;> simp
theorem mul_lt_row {j r W : Nat} (h : j < r) : j * W + W ≤ r * W := by
  have := Nat.mul_le_mul_right W (show j + 1 ≤ r from h)
  rw [Nat.add_mul, Nat.one_mul] at this
  exact this
theorem idx_in {W H i j : Nat} (hi : i < W) (hj : j < H) : j * W + i < W * H := by
  have := mul_lt_row (W := W) hj
  rw [Nat.mul_comm W H]; omega
/-- The table behind one piece. -/
def tabAdd (W r c : Nat) (a b : Int) (T : Nat → Int) (k : Nat) : Int := if k = r * W + c then T k + a else if r * W + c < k ∧ k < r * W + W then T k + b else T k
theorem tabAdd_at {W i j c r : Nat} {a b : Int} {T : Nat → Int} (hi : i < W) (hc : c < W) :
    tabAdd W r c a b T (j * W + i) = T (j * W + i) + (if j = r then (if i < c then 0 else if i = c then a else b) else 0) := by
  unfold tabAdd
  rcases Nat.lt_trichotomy j r with h | h | h
  · have := mul_lt_row (W := W) h
    rw [if_neg (by omega), if_neg (by omega), if_neg (by omega)]; omega
  · subst h
    rw [if_pos rfl]
    by_cases e : i = c
    · subst e; rw [if_pos rfl, if_neg (by omega), if_pos rfl]
    · rw [if_neg (by omega)]
      by_cases d : i < c
      · rw [if_neg (by omega), if_pos d]; omega
      · rw [if_pos (by omega), if_neg d, if_neg e]
  · have := mul_lt_row (W := W) h
    rw [if_neg (by omega), if_neg (by omega), if_neg (by omega)]; omega
theorem tabAdd_bd {W r c : Nat} {a b B D : Int} {T : Nat → Int} {n : Nat} (hT : ∀ k, k < n → -B ≤ T k ∧ T k ≤ B) (ha : -D ≤ a ∧ a ≤ D) (hb : -D ≤ b ∧ b ≤ D) : ∀ k, k < n → -(B + D) ≤ tabAdd W r c a b T k ∧ tabAdd W r c a b T k ≤ B + D := by
  intro k hk
  have := hT k hk
  unfold tabAdd
  split
  · omega
  · split <;> omega

/-- A cell of a row: its column, what it counts there, what to the right. -/
abbrev Cl := Int × Int × Int
def cellA (x : Int) (c : Cl) : Int := (if c.1 < x then c.2.2 else 0) + (if c.1 = x then c.2.1 else 0)
def rowA (x : Int) : List Cl → Int
  | [] => 0
  | c :: r => cellA x c + rowA x r
def mass : List Cl → Int
  | [] => 0
  | c :: r => sz c.2.1 + sz c.2.2 + mass r
theorem sz_nn (n : Int) : 0 ≤ sz n := by unfold sz; split <;> omega
theorem sz_ge (n : Int) : -sz n ≤ n ∧ n ≤ sz n := by unfold sz; split <;> omega
theorem sz_add (a b : Int) : sz (a + b) ≤ sz a + sz b := by
  unfold sz; repeat' split
  all_goals omega
theorem rowA_append (x : Int) (l r : List Cl) : rowA x (l ++ r) = rowA x l + rowA x r := by
  induction l with
  | nil => simp [rowA]
  | cons c l ih => simp only [List.cons_append, rowA, ih]; omega
theorem mass_append (l r : List Cl) : mass (l ++ r) = mass l + mass r := by
  induction l with
  | nil => simp [mass]
  | cons c l ih => simp only [List.cons_append, mass, ih]; omega
theorem mass_nn (l : List Cl) : 0 ≤ mass l := by
  induction l with
  | nil => simp [mass]
  | cons c l ih => have := sz_nn c.2.1; have := sz_nn c.2.2; simp only [mass]; omega
theorem rowA_bd (x : Int) (l : List Cl) : -mass l ≤ rowA x l ∧ rowA x l ≤ mass l := by
  induction l with
  | nil => simp [mass, rowA]
  | cons c l ih =>
    have h1 := sz_ge c.2.1
    have h2 := sz_ge c.2.2
    simp only [mass, rowA, cellA]
    split <;> split <;> omega
theorem mass_take (l : List Cl) (k : Nat) : mass (l.take k) ≤ mass l := by
  have e : l = l.take k ++ l.drop k := (List.take_append_drop k l).symm
  have h : mass l = mass (l.take k) + mass (l.drop k) := by rw [← mass_append, List.take_append_drop]
  have := mass_nn (l.drop k)
  omega
theorem mass_mem {l : List Cl} {c : Cl} (h : c ∈ l) : sz c.2.1 + sz c.2.2 ≤ mass l := by
  induction l with
  | nil => cases h
  | cons d l ih =>
    have h1 := sz_nn d.2.1
    have h2 := sz_nn d.2.2
    have h3 := mass_nn l
    simp only [mass]
    rw [List.mem_cons] at h
    rcases h with h | h
    · subst h; omega
    · have := ih h; omega
/-- One cell more. -/
def insC (l : List Cl) (k : Nat) (s : Cl) : List Cl := l.take k ++ s :: l.drop k
theorem rowA_ins (x : Int) (l : List Cl) (k : Nat) (s : Cl) : rowA x (insC l k s) = rowA x l + cellA x s := by
  have h : rowA x l = rowA x (l.take k) + rowA x (l.drop k) := by rw [← rowA_append, List.take_append_drop]
  unfold insC
  rw [rowA_append, h]; simp only [rowA]; omega
theorem mass_ins (l : List Cl) (k : Nat) (s : Cl) : mass (insC l k s) = mass l + (sz s.2.1 + sz s.2.2) := by
  have h : mass l = mass (l.take k) + mass (l.drop k) := by rw [← mass_append, List.take_append_drop]
  unfold insC
  rw [mass_append, h]; simp only [mass]; omega
theorem len_ins (l : List Cl) (k : Nat) (s : Cl) (hk : k ≤ l.length) : (insC l k s).length = l.length + 1 := by
  unfold insC; simp; omega
/-- A cell that counts more. -/
def setC (l : List Cl) (k : Nat) (s : Cl) : List Cl := l.set k (s.1, (l[k]?.getD s).2.1 + s.2.1, (l[k]?.getD s).2.2 + s.2.2)
theorem split_at {l : List Cl} {k : Nat} (hk : k < l.length) : l = l.take k ++ l[k] :: l.drop (k + 1) := by
  rw [List.getElem_cons_drop, List.take_append_drop]
theorem set_at {l : List Cl} {k : Nat} {s : Cl} (hk : k < l.length) : setC l k s = l.take k ++ (s.1, l[k].2.1 + s.2.1, l[k].2.2 + s.2.2) :: l.drop (k + 1) := by
  unfold setC
  rw [List.set_eq_take_append_cons_drop, if_pos hk]
  simp [hk]
theorem rowA_set (x : Int) {l : List Cl} {k : Nat} {s : Cl} (hk : k < l.length) (hc : l[k].1 = s.1) : rowA x (setC l k s) = rowA x l + cellA x s := by
  have h : rowA x l = rowA x (l.take k) + (cellA x l[k] + rowA x (l.drop (k + 1))) := by
    have := congrArg (rowA x) (split_at hk)
    rw [rowA_append] at this
    simpa only [rowA] using this
  rw [set_at hk, rowA_append, h]
  simp only [rowA, cellA, hc]
  split <;> split <;> omega
theorem mass_set {l : List Cl} {k : Nat} {s : Cl} (hk : k < l.length) : mass (setC l k s) ≤ mass l + (sz s.2.1 + sz s.2.2) := by
  have h : mass l = mass (l.take k) + (sz l[k].2.1 + sz l[k].2.2 + mass (l.drop (k + 1))) := by
    have := congrArg mass (split_at hk)
    rw [mass_append] at this
    simpa only [mass] using this
  rw [set_at hk, mass_append, h]
  simp only [mass]
  have := sz_add l[k].2.1 s.2.1
  have := sz_add l[k].2.2 s.2.2
  omega
/-- The cells in which something is. -/
def fullB (c : Cl) : Bool := !(c.2.1 == 0) || !(c.2.2 == 0)
theorem rowA_filter (x : Int) (l : List Cl) : rowA x (l.filter fullB) = rowA x l := by
  induction l with
  | nil => rfl
  | cons c l ih =>
    by_cases h : fullB c = true
    · rw [List.filter_cons_of_pos h]; simp only [rowA, ih]
    · rw [List.filter_cons_of_neg h]
      simp [fullB] at h
      simp only [rowA, ih, cellA, h.1, h.2]
      split <;> split <;> omega
theorem mass_filter (l : List Cl) : mass (l.filter fullB) = mass l := by
  induction l with
  | nil => rfl
  | cons c l ih =>
    by_cases h : fullB c = true
    · rw [List.filter_cons_of_pos h]; simp only [mass, ih]
    · rw [List.filter_cons_of_neg h]
      simp [fullB] at h
      simp only [mass, ih, h.1, h.2]
      have : sz 0 = 0 := rfl
      omega
theorem cellA_share {i c a b : Int} : cellA i (c, a, b) = if i < c then 0 else if i = c then a else b := by
  unfold cellA
  simp only
  split <;> split <;> split <;> (try split) <;> omega

/-- How great a piece's numbers may be. -/
theorem piece_bd {t x0 y0 x1 y1 : Int} (ht : t = 1 ∨ t = -1) (hx : noL x0 x1) (hy : noL y0 y1) : (-8192 ≤ hereV t x0 y0 x1 y1 ∧ hereV t x0 y0 x1 y1 ≤ 8192) ∧ -8192 ≤ rightV t y0 y1 ∧ rightV t y0 y1 ≤ 8192 := by
  obtain ⟨r, h1, h2⟩ := noL_row hy
  have hh : -64 ≤ t * (y1 - y0) ∧ t * (y1 - y0) ≤ 64 := by rcases ht with rfl | rfl <;> omega
  have hc : 0 ≤ colV x0 x1 * 64 + 64 - gr x0 0 + (colV x0 x1 * 64 + 64) - gr x1 0 ∧ colV x0 x1 * 64 + 64 - gr x0 0 + (colV x0 x1 * 64 + 64) - gr x1 0 ≤ 128 := by
    obtain ⟨c0, k1, k2⟩ := noL_row hx
    have g0 := gr0 x0
    have g1 := gr0 x1
    unfold colV
    obtain ⟨m, hm⟩ : ∃ m, m = lsV (gr x0 0) (gr x1 0) := ⟨_, rfl⟩
    have hm2 : (m = gr x0 0 ∨ m = gr x1 0) ∧ m ≤ gr x0 0 ∧ m ≤ gr x1 0 := by rw [hm]; unfold lsV; split <;> omega
    rw [← hm, Int.tdiv_eq_ediv_of_nonneg (by omega)]
    omega
  refine ⟨?_, ?_⟩
  · unfold hereV
    have := mul_bd (t * (y1 - y0)) (colV x0 x1 * 64 + 64 - gr x0 0 + (colV x0 x1 * 64 + 64) - gr x1 0) 64 128 (by omega) (by omega)
    omega
  · unfold rightV; omega
theorem pcV_bd {t x0 y0 x1 y1 i j : Int} (ht : t = 1 ∨ t = -1) (hx : noL x0 x1) (hy : noL y0 y1) : -8192 ≤ pcV t x0 y0 x1 y1 i j ∧ pcV t x0 y0 x1 y1 i j ≤ 8192 := by
  have := piece_bd ht hx hy
  unfold pcV
  repeat' split
  all_goals omega
end Num
end Go.Proofs.Ytkhcjkmifddlbab

/- Cv -/
namespace Go.Proofs.Ytkhcjkmifddlbab
open Go.RowKit Go.Deep

set_option maxHeartbeats 400000 in
theorem lesser_any (a b : Int) (w : World) :
    Calls Try.prog 79 #[.int .i64 a, .int .i64 b] w fun e w' => e = .returned (.int .i64 (Num.lsV a b)) ∧ w' = w := by
  by_cases h : a < b
  · go_enter Try.func79, Try.ntmps79
    go_wp2
    go_ret
    exact ⟨ret_int (by unfold Num.lsV; rw [if_pos (by omega)]), rfl⟩
  · go_enter Try.func79, Try.ntmps79
    go_wp2
    go_ret
    exact ⟨ret_int (by unfold Num.lsV; rw [if_neg (by omega)]), rfl⟩

set_option maxHeartbeats 1000000 in
theorem shareOf_any (x0 y0 x1 y1 t : Int) (w : World) (ht : t = 1 ∨ t = -1) (h0 : -16384 ≤ x0 ∧ x0 ≤ 16384) (h1 : -16384 ≤ y0 ∧ y0 ≤ 16384) (h2 : -16384 ≤ x1 ∧ x1 ≤ 16384) (h3 : -16384 ≤ y1 ∧ y1 ≤ 16384) :
    Calls Try.prog 106 #[.agg #[.int .i64 x0, .int .i64 y0], .agg #[.int .i64 x1, .int .i64 y1], .int .i64 t] w fun e w' => e = .returned (.agg #[.int .i64 (Num.rowV y0 y1), .int .i64 (Num.colV x0 x1), .int .i64 (Num.hereV t x0 y0 x1 y1), .int .i64 (Num.rightV t y0 y1)]) ∧ Below w.heap.size w w' := by
  have g0 := Num.gr0 x0
  have g1 := Num.gr0 x1
  have hm := Num.ls_or (Num.gr x0 0) (Num.gr x1 0)
  have hr := Num.ls_or y0 y1
  obtain ⟨M, hM⟩ : ∃ M, M = Num.lsV (Num.gr x0 0) (Num.gr x1 0) := ⟨_, rfl⟩
  have hC : Num.colV x0 x1 = Num.lsV (Num.gr x0 0) (Num.gr x1 0) / 64 := by
    unfold Num.colV
    rw [Int.tdiv_eq_ediv_of_nonneg (by omega)]
  have hh : -32768 ≤ t * (y1 - y0) ∧ t * (y1 - y0) ≤ 32768 := by rcases ht with rfl | rfl <;> omega
  have hp := Num.mul_bd (t * (y1 - y0)) (Num.lsV (Num.gr x0 0) (Num.gr x1 0) / 64 * 64 + 64 - Num.gr x0 0 + (Num.lsV (Num.gr x0 0) (Num.gr x1 0) / 64 * 64 + 64) - Num.gr x1 0) 32768 65536 (by omega) (by omega)
  have e1 : Num.hereV t x0 y0 x1 y1 = t * (y1 - y0) * (Num.lsV (Num.gr x0 0) (Num.gr x1 0) / 64 * 64 + 64 - Num.gr x0 0 + (Num.lsV (Num.gr x0 0) (Num.gr x1 0) / 64 * 64 + 64) - Num.gr x1 0) := by unfold Num.hereV; rw [hC]
  have e2 : Num.rightV t y0 y1 = t * (y1 - y0) * 2 * 64 := rfl
  have HE := hide (And.intro hC (And.intro e1 e2))
  clear hC e1 e2 hM
  go_enter Try.func106, Try.ntmps106
  go_wp2_with (first | (go_at_call 89; refine (greater_any _ _ _).mono ?_; rintro e w' ⟨rfl, rfl⟩) | (go_at_call 79; refine (lesser_any _ _ _).mono ?_; rintro e w' ⟨rfl, rfl⟩))
  refine bodyPost_ret (v := .agg #[.int .i64 (Num.rowV y0 y1), .int .i64 (Num.colV x0 x1), .int .i64 (Num.hereV t x0 y0 x1 y1), .int .i64 (Num.rightV t y0 y1)]) (by rw [HE.out.1, HE.out.2.1, HE.out.2.2]; simp [results, Try.results106, go_sem, Num.rowV]) rfl ⟨rfl, ?_⟩
  (repeat (any_goals (first | exact Below.refl _ _ | assumption | refine Below.drew ?_ | refine below_drewN ?_ _ | refine Below.setCell ?_ ?_ _ | refine Below.alloc ?_ ?_ _ | omega | (simp; done) | (simp; omega))))

/-- The seven cells of a canvas. -/
def cv7 (W H st tk tw : Int) (ta tr : Value) (q : Nat) : Value := [.int .i64 W, .int .i64 H, .int .i64 st, .int .i64 tk, .int .i64 tw, ta, tr][q]?.getD undef
def sh4 (r c a b : Int) (q : Nat) : Value := [Value.int .i64 r, .int .i64 c, .int .i64 a, .int .i64 b][q]?.getD undef
theorem sh4_row (r c a b : Int) (w : World) (t : TypeId) : (w.alloc (.cells #[.int .i64 r, .int .i64 c, .int .i64 a, .int .i64 b] t)).rowIs w.heap.size t 4 (sh4 r c a b) := by
  refine World.rowIs_alloc w #[.int .i64 r, .int .i64 c, .int .i64 a, .int .i64 b] t (sh4 r c a b) (fun i hi => ?_)
  have hi : i < 4 := hi
  rcases (show i = 0 ∨ i = 1 ∨ i = 2 ∨ i = 3 by omega) with rfl | rfl | rfl | rfl <;> rfl

set_option maxHeartbeats 1000000 in
theorem tabAdd_any (b g W H r c : Nat) (a1 b1 B : Int) (T : Nat → Int) (tt : TypeId) (f : Nat → Value) (w : World) (hW : 1 ≤ W ∧ W ≤ 64) (hH : H ≤ 64) (hr : r < H) (hc : c < W)
    (hR : w.rowIs b tt 7 f) (f4 : f 4 = .int .i64 W) (f5 : f 5 = .slice (some ⟨g, 0, none⟩) (W * H) (W * H)) (hbg : b ≠ g) (hT : w.rowIs g 3 (W * H) (fun k => .int .i64 (T k)))
    (hB : B ≤ 4611686018427387904) (hTB : ∀ k, k < W * H → -B ≤ T k ∧ T k ≤ B) (ha : -8192 ≤ a1 ∧ a1 ≤ 8192) (hb : -8192 ≤ b1 ∧ b1 ≤ 8192) :
    Calls Try.prog 108 #[.pointer (some ⟨b, 4, none⟩), .agg #[.int .i64 r, .int .i64 c, .int .i64 a1, .int .i64 b1]] w fun e w' => e = .returned (.tuple #[]) ∧ Touch (fun q => q = g) w w' ∧ w'.rowIs g 3 (W * H) (fun k => .int .i64 (Num.tabAdd W r c a1 b1 T k)) := by
  have hrow := Num.mul_lt_row (W := W) hr
  rw [Nat.mul_comm H W] at hrow
  have hWH : W * H ≤ 4096 := Nat.mul_le_mul hW.2 hH
  obtain ⟨P, hP⟩ : ∃ P : Nat, P = r * W := ⟨_, rfl⟩
  have hPi : (r : Int) * (W : Int) = (P : Int) := by rw [hP]; simp
  rw [← hP] at hrow
  have HTA : Hid (∀ k, Num.tabAdd W r c a1 b1 T k = if k = P + c then T k + a1 else if P + c < k ∧ k < P + W then T k + b1 else T k) := fun k => by rw [hP]; rfl
  obtain ⟨n, hn⟩ : ∃ n, n = W * H := ⟨_, rfl⟩
  rw [← hn] at f5 hT hTB hrow hWH ⊢
  have w1 : IntKind.i64.wrap ((r : Int) * (W : Int)) = (P : Int) := by rw [hPi]; exact wrap_ok _ (by omega) (by omega)
  have w2 : IntKind.i64.wrap ((P : Int) + (c : Int)) = ((P + c : Nat) : Int) := by rw [wrap_ok _ (by omega) (by omega)]; omega
  have w3 : IntKind.i64.wrap ((P : Int) + (W : Int)) = ((P + W : Nat) : Int) := by rw [wrap_ok _ (by omega) (by omega)]; omega
  have HS := hide (sh4_row r c a1 b1 w 167)
  have HR := hide (hR.alloc (.cells #[.int .i64 (r : Int), .int .i64 (c : Int), .int .i64 a1, .int .i64 b1] 167))
  have HT := hide (hT.alloc (.cells #[.int .i64 (r : Int), .int .i64 (c : Int), .int .i64 a1, .int .i64 b1] 167))
  have hTo : Hid (Touch (fun q => q = g) w (w.alloc (.cells #[.int .i64 (r : Int), .int .i64 (c : Int), .int .i64 a1, .int .i64 b1] 167))) := (Touch.refl _ _).alloc _
  have hgs : g < w.heap.size := hT.lt
  have HTB := hide hTB
  clear hR hT hP hPi hn hTB
  go_enter Try.func108, Try.ntmps108
  go_wp2_with fail
  obtain ⟨sb, hsb⟩ : ∃ sb, sb = w.heap.size := ⟨_, rfl⟩
  obtain ⟨W1, hW1⟩ : ∃ W1, W1 = w.alloc (.cells #[.int .i64 (r : Int), .int .i64 (c : Int), .int .i64 a1, .int .i64 b1] 167) := ⟨_, rfl⟩
  rw [← hsb] at HS
  rw [← hW1] at HS HR HT hTo
  rw [← hW1, ← hsb]
  have hgs2 : g ≠ sb := by omega
  clear hW1 hsb
  have s0 := HS.out.cell (i := 0) (by omega)
  have s1 := HS.out.cell (i := 1) (by omega)
  have k4 := HR.out.cell (i := 4) (by omega)
  rw [f4] at k4
  change W1.cell? ⟨sb, 0, none⟩ = some (.int .i64 (r : Int)) at s0
  change W1.cell? ⟨sb, 1, none⟩ = some (.int .i64 (c : Int)) at s1
  go_quiet (fail)
  go_wp2_with fail
  go_quiet (fail)
  go_wp2_with fail
  go_loopw [6] (fun t wr => ∃ k : Nat, P + c ≤ k ∧ k ≤ P + W ∧ t = .int .i64 k ∧ Touch (fun q => q = g) W1 wr ∧ wr.rowIs g 3 n (fun q => .int .i64 (if q < k then Num.tabAdd W r c a1 b1 T q else T q))) (fun t _ => P + W - (intOf t).toNat)
  case atStart =>
    refine ⟨P + c, by omega, by omega, by first | rfl | go_num, ((Touch.refl _ _).drewN _).drewN _, ?_⟩
    refine (World.rowIs.of_block HT.out rfl).congr fun q _ => ?_
    split
    · rw [HTA.out, if_neg (by omega), if_neg (by omega)]
    · rfl
  case round =>
    obtain ⟨k, hk1, hk2, rfl, hto, hrowg⟩ := hrel
    have hR2 := hto.row HR.out hbg
    have hS2 := hto.row HS.out (fun e => hgs2 e.symm)
    have k5 := hR2.cell (i := 5) (by omega)
    rw [f5] at k5
    by_cases hlt : k < P + W
    · have kg := hrowg.cell (i := k) (by omega)
      rw [if_neg (Nat.lt_irrefl _)] at kg
      have fz := hrowg.frozen k
      have hd1 : decide ((k : Int) < ((P + W : Nat) : Int)) = true := by simp; omega
      have hd2 : decide ((k : Int) < (n : Int)) = true := by simp; omega
      have i0 : (0 : Int) ≤ (k : Int) := by omega
      have i1 : (k : Int) < (n : Int) := by omega
      have hb1 := HTB.out k (by omega)
      have HG := hide hrowg
      have HTo := hide hto
      by_cases he : k = P + c
      · subst he
        have s2 := hS2.cell (i := 2) (by omega)
        change wr.cell? ⟨sb, 2, none⟩ = some (.int .i64 a1) at s2
        have wa : IntKind.i64.wrap (T (P + c) + a1) = T (P + c) + a1 := wrap_ok _ (by omega) (by omega)
        have HN : Hid ((wr.setCell ⟨g, P + c, none⟩ (.int .i64 (T (P + c) + a1))).rowIs g 3 n (fun q => .int .i64 (if q < P + c + 1 then Num.tabAdd W r c a1 b1 T q else T q))) := by
          refine (HG.out.set (P + c) _).congr fun q _ => ?_
          by_cases e : q = P + c
          · subst e
            rw [if_pos rfl, if_pos (by omega), HTA.out, if_pos rfl]
          · rw [if_neg e]
            by_cases d : q < P + c
            · rw [if_pos d, if_pos (by omega)]
            · rw [if_neg d, if_neg (by omega)]
        clear hR2 hS2 hrowg hto
        go_wp2_with fail
        go_region
        all_goals go_wp2
        all_goals go_roundw
        case rel => exact ⟨P + c + 1, by omega, by omega, by go_num, (HTo.out.drew).setCell (.inl rfl) _, HN.out⟩
        case measure => simp [intOf]; omega
      · have s3 := hS2.cell (i := 3) (by omega)
        change wr.cell? ⟨sb, 3, none⟩ = some (.int .i64 b1) at s3
        have wa : IntKind.i64.wrap (T k + b1) = T k + b1 := wrap_ok _ (by omega) (by omega)
        have hde : decide ((k : Int) = ((P + c : Nat) : Int)) = false := by simp; omega
        have HN : Hid ((wr.setCell ⟨g, k, none⟩ (.int .i64 (T k + b1))).rowIs g 3 n (fun q => .int .i64 (if q < k + 1 then Num.tabAdd W r c a1 b1 T q else T q))) := by
          refine (HG.out.set k _).congr fun q _ => ?_
          by_cases e : q = k
          · subst e
            rw [if_pos rfl, if_pos (by omega), HTA.out, if_neg (by omega), if_pos (by omega)]
          · rw [if_neg e]
            by_cases d : q < k
            · rw [if_pos d, if_pos (by omega)]
            · rw [if_neg d, if_neg (by omega)]
        clear hR2 hS2 hrowg hto
        go_wp2_with fail
        go_region
        all_goals go_wp2
        all_goals go_roundw
        case rel => exact ⟨k + 1, by omega, by omega, by go_num, (HTo.out.drew).setCell (.inl rfl) _, HN.out⟩
        case measure => simp [intOf]; omega
    · have hd1 : decide ((k : Int) < ((P + W : Nat) : Int)) = false := by simp; omega
      have HG := hide hrowg
      have HTo := hide (hTo.out.trans hto)
      clear hR2 hS2 hrowg hto
      go_wp2
      go_end0
      exact ⟨rfl, HTo.out, HG.out.congr fun q hq => by
        by_cases d : q < k
        · rw [if_pos d]
        · rw [if_neg d, HTA.out, if_neg (by omega), if_neg (by omega)]⟩

set_option maxHeartbeats 1000000 in
theorem tabArea_any (b g W H i j : Nat) (T : Nat → Int) (tt : TypeId) (f : Nat → Value) (w : World) (hW : 1 ≤ W ∧ W ≤ 64) (hH : H ≤ 64) (hj : j < H) (hi : i < W)
    (hR : w.rowIs b tt 7 f) (f4 : f 4 = .int .i64 W) (f5 : f 5 = .slice (some ⟨g, 0, none⟩) (W * H) (W * H)) (hT : w.rowIs g 3 (W * H) (fun k => .int .i64 (T k))) :
    Calls Try.prog 66 #[.pointer (some ⟨b, 4, none⟩), .int .i64 i, .int .i64 j] w fun e w' => e = .returned (.int .i64 (T (j * W + i))) ∧ w' = w := by
  have hrow := Num.idx_in (W := W) (H := H) hi hj
  have hWH : W * H ≤ 4096 := Nat.mul_le_mul hW.2 hH
  obtain ⟨P, hP⟩ : ∃ P : Nat, P = j * W := ⟨_, rfl⟩
  have hPi : (j : Int) * (W : Int) = (P : Int) := by rw [hP]; simp
  rw [← hP] at hrow ⊢
  obtain ⟨n, hn⟩ : ∃ n, n = W * H := ⟨_, rfl⟩
  rw [← hn] at f5 hT hrow hWH
  have k4 := hR.cell (i := 4) (by omega)
  rw [f4] at k4
  have k5 := hR.cell (i := 5) (by omega)
  rw [f5] at k5
  have kg := hT.cell (i := P + i) (by omega)
  have i0 : (0 : Int) ≤ (P : Int) + (i : Int) := by omega
  have i1 : (P : Int) + (i : Int) < (n : Int) := by omega
  have hd : decide ((n : Int) ≤ (P : Int) + (i : Int)) = false := by simp; omega
  have hd0 : decide ((P : Int) + (i : Int) < 0) = false := by simp; omega
  clear hR hT hP hn
  go_enter Try.func66, Try.ntmps66
  go_wp2_with fail
  all_goals
    go_ret
    exact ⟨rfl, rfl⟩
end Go.Proofs.Ytkhcjkmifddlbab

/- Lend -/
namespace Go.Proofs.Ytkhcjkmifddlbab
open Go.RowKit Go.Deep

theorem info_ptslice : (Try.prog.info? 41).map (fun i => (i.zero, i.size, i.bytes)) = some (some (.slice none 0 0), 1, 24) := by kernel_rfl
theorem info_pt : (Try.prog.info? 90).map (fun i => (i.zero, i.size, i.bytes)) = some (some (.agg #[.int .i64 0, .int .i64 0, .int .i64 0]), 3, 24) := by kernel_rfl

theorem mk_outer (N : Nat) (hN : N ≤ 4294967296) (w : World) : (Instr.makeSlice 22 (.int .i64 ((N : Int) + 2)) (.int .i64 ((N : Int) + 2))).run Try.prog w = .ok (.slice (some ⟨w.heap.size, 0, none⟩) (N + 2) (N + 2)) (w.alloc (.cells (madeCells #[.slice none 0 0] (N + 2)) 41)) := by
  obtain ⟨i, hi, hz0, hz1, hz2⟩ := info_parts info_ptslice
  have h := run_make (P := Try.prog) w 22 41 i _ Try.underlying22 hi hz0 .i64 .i64 ((N : Int) + 2) ((N : Int) + 2) (by omega) (Int.le_refl _) (by rw [hz2]; omega) (by omega)
  rw [hz1, show ((N : Int) + 2).toNat = N + 2 by omega] at h
  simpa [Value.cells] using h
theorem mk_inner (N : Nat) (hN : N ≤ 4294967296) (w : World) : (Instr.makeSlice 41 (.int .i64 ((N : Int) + 2)) (.int .i64 ((N : Int) + 2))).run Try.prog w = .ok (.slice (some ⟨w.heap.size, 0, none⟩) (N + 2) (N + 2)) (w.alloc (.cells (madeCells #[.int .i64 0, .int .i64 0, .int .i64 0] ((N + 2) * 3)) 90)) := by
  obtain ⟨i, hi, hz0, hz1, hz2⟩ := info_parts info_pt
  have h := run_make (P := Try.prog) w 41 90 i _ Try.underlying41 hi hz0 .i64 .i64 ((N : Int) + 2) ((N : Int) + 2) (by omega) (Int.le_refl _) (by rw [hz2]; omega) (by omega)
  rw [hz1, show ((N : Int) + 2).toNat = N + 2 by omega] at h
  simpa [Value.cells] using h

theorem mk_two (w : World) : (Instr.makeSlice 41 (.int .i64 2) (.int .i64 2)).run Try.prog w = .ok (.slice (some ⟨w.heap.size, 0, none⟩) 2 2) (w.alloc (.cells (madeCells #[.int .i64 0, .int .i64 0, .int .i64 0] 6) 90)) := by
  simpa using mk_inner 0 (by omega) w

/-- One list of lend's: the loop that fills it. -/
def filled (l k : Nat) (X Y K : Nat → Int) (q : Nat) : Value := pc (fun j => if j < k then lx l X j else 0) (fun j => if j < k then ly l Y j else 0) (fun j => if j < k then lk l K j else 0) q

theorem filled_step {w : World} {b m l j : Nat} {t : TypeId} {X Y K : Nat → Int} (h : w.rowIs b t (m * 3) (filled l j X Y K)) {x y z : Int} (hx : x = lx l X j) (hy : y = ly l Y j) (hz : z = lk l K j) :
    (((w.setCell ⟨b, j * 3, none⟩ (.int .i64 x)).setCell ⟨b, j * 3 + 1, none⟩ (.int .i64 y)).setCell ⟨b, j * 3 + 2, none⟩ (.int .i64 z)).rowIs b t (m * 3) (filled l (j + 1) X Y K) := by
  refine (row_setPt (X := fun i => if i < j then lx l X i else 0) (Y := fun i => if i < j then ly l Y i else 0) (K := fun i => if i < j then lk l K i else 0) h j x y z).congr fun q hq => ?_
  unfold filled
  refine pc_congr (m := m) (fun i _ => ?_) q hq
  by_cases e : i = j
  · subst e; simp [hx, hy, hz]
  · by_cases e2 : i < j
    · simp [e, e2, show i < j + 1 by omega]
    · simp [e, e2, show ¬ i < j + 1 by omega]
theorem filled_start (w : World) (l : Nat) (t : TypeId) (X Y K : Nat → Int) : (w.alloc (.cells (madeCells #[.int .i64 0, .int .i64 0, .int .i64 0] ((l + 2) * 3)) t)).rowIs w.heap.size t ((l + 2) * 3) (filled l 0 X Y K) := by
  refine (row_made3 w (l + 2) t).congr fun q hq => ?_
  unfold filled
  exact pc_congr (m := l + 2) (fun i _ => by simp) q hq
theorem filled_done {w : World} {b l : Nat} {t : TypeId} {X Y K : Nat → Int} (h : w.rowIs b t ((l + 2) * 3) (filled l (l + 2) X Y K)) : w.rowIs b t ((l + 2) * 3) (pc (lx l X) (ly l Y) (lk l K)) := by
  refine h.congr fun q hq => ?_
  unfold filled
  exact pc_congr (m := l + 2) (fun i hi => by simp [hi]) q hq

theorem lend_step {S N k l : Nat} {n B : Nat → Nat} {X Y K : Nat → Nat → Int} {wo wr : World} (hk : k < N + 2) (hl : ln N n k = l)
    (hrow : wo.rowIs S 41 (N + 2) (fun i => if i < k then .slice (some ⟨B i, 0, none⟩) (ln N n i) (ln N n i + 2) else .slice none 0 0))
    (h3 : (∀ i, i < k → S ≤ B i) ∧ (∀ i j, i < k → j < k → B i = B j → i = j) ∧ (∀ i, i < k → wo.rowIs (B i) 90 ((ln N n i + 2) * 3) (pc (lx (ln N n i) (X i)) (ly (ln N n i) (Y i)) (lk (ln N n i) (K i)))))
    (hbq : Below wo.heap.size wo wr) (hq : wr.rowIs wo.heap.size 90 ((l + 2) * 3) (pc (lx l (X k)) (ly l (Y k)) (lk l (K k)))) :
    ∃ B' : Nat → Nat, (wr.setCell ⟨S, k, none⟩ (.slice (some ⟨wo.heap.size, 0, none⟩) l (l + 2))).rowIs S 41 (N + 2) (fun i => if i < k + 1 then .slice (some ⟨B' i, 0, none⟩) (ln N n i) (ln N n i + 2) else .slice none 0 0) ∧
      (∀ i, i < k + 1 → S ≤ B' i) ∧ (∀ i j, i < k + 1 → j < k + 1 → B' i = B' j → i = j) ∧
      (∀ i, i < k + 1 → (wr.setCell ⟨S, k, none⟩ (.slice (some ⟨wo.heap.size, 0, none⟩) l (l + 2))).rowIs (B' i) 90 ((ln N n i + 2) * 3) (pc (lx (ln N n i) (X i)) (ly (ln N n i) (Y i)) (lk (ln N n i) (K i)))) := by
  obtain ⟨hge, hinj, hin⟩ := h3
  have hS := hrow.lt
  refine ⟨fun i => if i = k then wo.heap.size else B i, ?_, ?_, ?_, ?_⟩
  · refine ((row_below hrow hbq hS).set k _).congr fun i hi => ?_
    by_cases e : i = k
    · subst e; simp [hl]
    · by_cases e2 : i < k
      · simp [e, e2, show i < k + 1 by omega]
      · simp [e, e2, show ¬ i < k + 1 by omega]
  · intro i hi
    by_cases e : i = k
    · simp [e]; omega
    · simp [e]; exact hge i (by omega)
  · intro i j hi hj
    by_cases e : i = k <;> by_cases e' : j = k
    · intro; omega
    · simp [e, e']; intro h; have := (hin j (by omega)).lt; omega
    · simp [e, e']; intro h; have := (hin i (by omega)).lt; omega
    · simp [e, e']; exact hinj i j (by omega) (by omega)
  · intro i hi
    by_cases e : i = k
    · subst e
      simp only [if_pos, hl]
      exact hq.setOther (by simp; omega) _
    · simp only [if_neg e]
      have h := hin i (by omega)
      exact (row_below h hbq h.lt).setOther (by simpa using row_ne h hrow (by decide)) _

end Go.Proofs.Ytkhcjkmifddlbab

/- Impl -/
namespace Go.Proofs.Ytkhcjkmifddlbab
open Go.RowKit Go.Deep

/-- The cells of a point. -/
def ptC (p : Int × Int × Int) : List Value := [.int .i64 p.1, .int .i64 p.2.1, .int .i64 p.2.2]
/-- The points of the first k points' list, the implied ones among them. -/
def impU (X Y K : Nat → Int) (n k : Nat) : List (Int × Int × Int) := (List.range k).flatMap (Num.impF X Y K n)
theorem impU_succ (X Y K : Nat → Int) (n k : Nat) : impU X Y K n (k + 1) = impU X Y K n k ++ Num.impF X Y K n k := by
  unfold impU; rw [List.range_succ, List.flatMap_append]; simp
theorem impU_len (X Y K : Nat → Int) (n k : Nat) : (impU X Y K n k).length ≤ 2 * k := Num.imp_length k

/-- One point more in a row of points that the call owns. -/
theorem push_pt {w : World} {base : Nat} {v : Value} {l l' : List (Int × Int × Int)} {p : Int × Int × Int} {m : Nat} (h : w.ownsRow base 90 3 v m (l.flatMap ptC ++ [.int .i64 p.1, .int .i64 p.2.1, .int .i64 p.2.2])) (hl : l' = l ++ [p]) (hm : m = l.length + 1) : w.ownsRow base 90 3 v l'.length (l'.flatMap ptC) := by
  have e1 : l'.length = m := by rw [hl, hm]; simp
  have e2 : l'.flatMap ptC = l.flatMap ptC ++ [.int .i64 p.1, .int .i64 p.2.1, .int .i64 p.2.2] := by rw [hl]; simp [ptC]
  rw [e1, e2]; exact h

theorem owns_ne_new {w : World} {base : Nat} {t : TypeId} {sz : Nat} {v : Value} {n : Nat} {xs : List Value} (h : w.ownsRow base t sz v n xs) {b : Nat} (hb : w.heap.size ≤ b) : some b ≠ v.ownBlock := fun e => by
  have := (h.lt b e.symm).2; omega

theorem news_new (W : World) (cs : List Value) (t : TypeId) (H : Nat) (hH : W.heap.size = H) : ∀ (j : Nat) (u : Value), cs[j]? = some u → (W.alloc (.cells cs.toArray t)).cell? ((⟨H, 0, none⟩ : Addr).add j) = some u := by
  intro j u hj
  subst hH
  have e2 : ((⟨W.heap.size, 0, none⟩ : Addr).add j) = ⟨W.heap.size, j, none⟩ := by
    unfold Addr.add
    split
    · rename_i h; simp_all
    · simp
  have hlt : j < cs.length := by
    rcases Nat.lt_or_ge j cs.length with h | h
    · exact h
    · rw [List.getElem?_eq_none h] at hj; cases hj
  have hr := (World.rowIs_alloc W cs.toArray t (fun i => cs[i]?.getD u) (fun i hi => by simp at hi; simp [hi])).cell (i := j) (by simpa using hlt)
  rw [e2, hr]
  simp [hj]
theorem one_ints (a b c : Int) : ∀ u ∈ [Value.int .i64 a, .int .i64 b, .int .i64 c], u.oneCell' = true := by
  intro u hu
  simp at hu
  rcases hu with rfl | rfl | rfl <;> rfl

theorem impF_no {X Y K : Nat → Int} {n k : Nat} (h : ¬ (K k = 1 ∧ K (Num.nx n k) = 1)) : Num.impF X Y K n k = [(2 * X k, 2 * Y k, K k)] := by unfold Num.impF; rw [if_neg h]
theorem impF_yes {X Y K : Nat → Int} {n k : Nat} (h : K k = 1 ∧ K (Num.nx n k) = 1) : Num.impF X Y K n k = [(2 * X k, 2 * Y k, K k)] ++ [(X k + X (Num.nx n k), Y k + Y (Num.nx n k), 0)] := by unfold Num.impF; rw [if_pos h]; rfl

set_option maxRecDepth 100000 in
set_option maxHeartbeats 2000000 in
theorem withImplied_any (a : Option Addr) (n c : Nat) (X Y K : Nat → Int) (w : World) (hn : n ≤ 2097152) (hX : ∀ i, i < n → -4096 ≤ X i ∧ X i ≤ 4096) (hY : ∀ i, i < n → -4096 ≤ Y i ∧ Y i ≤ 4096) (hr : RingAt w a n X Y K) :
    Calls Try.prog 95 #[.slice a n c] w fun e w' => ∃ v, e = .returned v ∧ Below w.heap.size w w' ∧ w'.ownsRow w.heap.size 90 3 v (impU X Y K n n).length ((impU X Y K n n).flatMap ptC) := by
  have HR := hide hr
  have HX := hide hX
  have HY := hide hY
  clear hr hX hY
  obtain ⟨i0, hi0, hz0, hz1, hz2⟩ := info_parts info_pt
  go_enter Try.func95, Try.ntmps95
  go_wp2_with fail
  go_loopw [3, 9] (fun v t wr => ∃ k : Nat, k ≤ n ∧ t = .int .i64 k ∧ Below w.heap.size w wr ∧ wr.ownsRow w.heap.size 90 3 v (impU X Y K n k).length ((impU X Y K n k).flatMap ptC)) (fun _ t _ => n - (intOf t).toNat)
  case atStart => exact ⟨0, by omega, rfl, Below.refl _ _, World.ownsRow_nil _ _ _ _⟩
  case round =>
    obtain ⟨v, rfl⟩ : ∃ v, v = u3 := ⟨_, rfl⟩
    obtain ⟨k, hk, rfl, hb, hown⟩ := hrel
    have hsz := hb.size
    have hlen := impU_len X Y K n k
    by_cases hlt : k < n
    · have hd1 : decide ((k : Int) < (n : Int)) = true := by simp; omega
      rcases HR.out with h | ⟨b, off, rfl, hc⟩
      · omega
      obtain ⟨bX, bX'⟩ := HX.out k hlt
      obtain ⟨bY, bY'⟩ := HY.out k hlt
      have hbl : b < w.heap.size := World.block_lt_of_cell? w _ (hc k hlt).1
      have hcr : ∀ j, j < n → wr.cell? ⟨b, off + j * 3, none⟩ = some (.int .i64 (X j)) ∧ wr.cell? ⟨b, off + j * 3 + 1, none⟩ = some (.int .i64 (Y j)) ∧ wr.cell? ⟨b, off + j * 3 + 2, none⟩ = some (.int .i64 (K j)) := fun j hj => by
        obtain ⟨u0, u1, u2⟩ := hc j hj
        exact ⟨(hb.cell (p := ⟨b, _, none⟩) hbl).trans u0, (hb.cell (p := ⟨b, _, none⟩) hbl).trans u1, (hb.cell (p := ⟨b, _, none⟩) hbl).trans u2⟩
      obtain ⟨d0, d1, d2⟩ := hcr k hlt
      have HC := hide hc
      clear hc hcr
      have hbw : b < wr.heap.size := by omega
      obtain ⟨L, hL⟩ : ∃ L, L = impU X Y K n k := ⟨_, rfl⟩
      rw [← hL] at hown hlen
      obtain ⟨ln, hln⟩ : ∃ ln, ln = L.length := ⟨_, rfl⟩
      obtain ⟨xs, hxs⟩ : ∃ xs, xs = L.flatMap ptC := ⟨_, rfl⟩
      rw [← hln, ← hxs] at hown
      rw [← hln] at hlen
      have HL := hide hL
      have HLn := hide hln
      have Hxs := hide hxs
      clear hL hln hxs
      go_wp2_with (at_builtin; refine wpList_append_lies _ rfl _ _ 41 rfl w.heap.size 90 i0 (.agg #[.int .i64 0, .int .i64 0, .int .i64 0]) 3 24 Try.underlying41 hi0 hz0 hz1 hz2 rfl (by omega) v ln xs rfl ((hown.alloc _).alloc _) ⟨wr.heap.size + 1, 0, none⟩ 1 1 [.int .i64 (2 * X k), .int .i64 (2 * Y k), .int .i64 (K k)] rfl rfl ?c1 ?c2 (by omega) ?c3 ?c4 ?c5 (wr.heap.size + 1 + 1) (by simp) ?_)
      case c1 => exact news_new (wr.alloc _) [.int .i64 (2 * X k), .int .i64 (2 * Y k), .int .i64 (K k)] _ _ (by simp)
      case c2 => exact one_ints _ _ _
      case c3 => unfold maxLen; omega
      case c4 => omega
      case c5 => simp; omega
      intro g cap w1 hown1 hgrow hat hlt1
      have hb1 : Below w.heap.size w w1 := ((hb.alloc (by omega) _).alloc (by simp; omega) _).grown hgrow (by simp; omega) (fun q hq => (hown.lt q hq).1)
      have hs1 : wr.heap.size + 1 < w1.heap.size := by have := hgrow.size; simp at this; omega
      have hne : some wr.heap.size ≠ v.ownBlock := owns_ne_new hown (Nat.le_refl _)
      have p0 : w1.cell? ⟨wr.heap.size, 0, none⟩ = some (.int .i64 (X k)) := (hgrow.cell_far ⟨wr.heap.size, 0, none⟩ (by simp; omega) hne).trans (by go_simp)
      have p1 : w1.cell? ⟨wr.heap.size, 1, none⟩ = some (.int .i64 (Y k)) := (hgrow.cell_far ⟨wr.heap.size, 1, none⟩ (by simp; omega) hne).trans (by go_simp)
      have p2 : w1.cell? ⟨wr.heap.size, 2, none⟩ = some (.int .i64 (K k)) := (hgrow.cell_far ⟨wr.heap.size, 2, none⟩ (by simp; omega) hne).trans (by go_simp)
      have hcr : ∀ j, j < n → w1.cell? ⟨b, off + j * 3, none⟩ = some (.int .i64 (X j)) ∧ w1.cell? ⟨b, off + j * 3 + 1, none⟩ = some (.int .i64 (Y j)) ∧ w1.cell? ⟨b, off + j * 3 + 2, none⟩ = some (.int .i64 (K j)) := fun j hj => by
        obtain ⟨u0, u1, u2⟩ := HC.out j hj
        exact ⟨(hb1.cell (p := ⟨b, _, none⟩) hbl).trans u0, (hb1.cell (p := ⟨b, _, none⟩) hbl).trans u1, (hb1.cell (p := ⟨b, _, none⟩) hbl).trans u2⟩
      have hO1 : w1.ownsRow w.heap.size 90 3 (.slice (some ⟨g, 0, none⟩) (ln + 1) cap) (L ++ [(2 * X k, 2 * Y k, K k)]).length ((L ++ [(2 * X k, 2 * Y k, K k)]).flatMap ptC) :=
        push_pt (by rw [← Hxs.out]; exact hown1) rfl (by rw [HLn.out])
      have HO1 := hide hO1
      have HXF : Hid ((L ++ [(2 * X k, 2 * Y k, K k)]).flatMap ptC = xs ++ [.int .i64 (2 * X k), .int .i64 (2 * Y k), .int .i64 (K k)]) := by unfold Hid; rw [Hxs.out]; simp [ptC]
      obtain ⟨e0, e1, e2⟩ := hcr 0 (by omega)
      simp only [Nat.zero_mul, Nat.add_zero] at e0 e1 e2
      have hsucc : impU X Y K n (k + 1) = L ++ Num.impF X Y K n k := by rw [HL.out]; exact impU_succ _ _ _ _ _
      have HSu := hide hsucc
      have hbw1 : b < w1.heap.size := by omega
      have hbs1 : w.heap.size ≤ w1.heap.size := hb1.size
      have hwr1 : wr.heap.size < w1.heap.size := by omega
      clear hgrow hat hne hO1 hown hb hsucc d0 d1 d2
      by_cases hl2 : k + 1 < n
      · obtain ⟨f0, f1, f2⟩ := hcr (k + 1) hl2
        have hnx : Num.nx n k = k + 1 := by unfold Num.nx; rw [if_pos hl2]
        have HNx := hide hnx
        obtain ⟨cX, cX'⟩ := HX.out (k + 1) (by omega)
        obtain ⟨cY, cY'⟩ := HY.out (k + 1) (by omega)
        clear hcr hnx
        by_cases hq : K k = 1 ∧ K (k + 1) = 1
        · obtain ⟨q1, q2⟩ := hq
          have t1 : (K k == 1) = true := by simp [q1]
          have t2 : (K (k + 1) == 1) = true := by simp [q2]
          have HF := hide (impF_yes (X := X) (Y := Y) (n := n) (k := k) ⟨q1, by rw [HNx.out]; exact q2⟩)
          clear q1 q2
          go_wp2_with (at_builtin; refine wpList_append_lies _ rfl _ _ 41 rfl w.heap.size 90 i0 (.agg #[.int .i64 0, .int .i64 0, .int .i64 0]) 3 24 Try.underlying41 hi0 hz0 hz1 hz2 rfl (by omega) _ (ln + 1) _ rfl ((hown1.alloc _).alloc _) ⟨w1.heap.size + 1, 0, none⟩ 1 1 [.int .i64 (X k + X (k + 1)), .int .i64 (Y k + Y (k + 1)), .int .i64 0] rfl rfl ?m1 ?m2 (by omega) ?m3 ?m4 ?m5 (w1.heap.size + 1 + 1) (by simp) ?_)
          case m1 => exact news_new (w1.alloc _) [.int .i64 (X k + X (k + 1)), .int .i64 (Y k + Y (k + 1)), .int .i64 0] _ _ (by simp)
          case m2 => exact one_ints _ _ _
          case m3 => unfold maxLen; omega
          case m4 => omega
          case m5 => simp; omega
          intro g2 cap2 w2 hown2 hgrow2 hat2 hlt2
          have hb2 : Below w.heap.size w w2 := ((hb1.alloc (by omega) _).alloc (by simp; omega) _).grown hgrow2 (by simp; omega) (fun q hq => (hown1.lt q hq).1)
          have HO2 : Hid (w2.ownsRow w.heap.size 90 3 (.slice (some ⟨g2, 0, none⟩) (ln + 1 + 1) cap2) (impU X Y K n (k + 1)).length ((impU X Y K n (k + 1)).flatMap ptC)) :=
            push_pt (l := L ++ [(2 * X k, 2 * Y k, K k)]) (p := (X k + X (k + 1), Y k + Y (k + 1), 0)) (by rw [HXF.out]; simpa using hown2) (by rw [HSu.out, HF.out, HNx.out, List.append_assoc]) (by rw [HLn.out]; simp)
          clear hown2 hgrow2 hat2 hown1 hb1
          go_wp2
          go_roundw
          case rel => exact ⟨k + 1, by omega, by go_num, hb2, HO2.out⟩
          case measure => simp [intOf]; omega
        · have HF := hide (impF_no (X := X) (Y := Y) (n := n) (k := k) (by rw [HNx.out]; exact hq))
          have HE : Hid (w1.ownsRow w.heap.size 90 3 (.slice (some ⟨g, 0, none⟩) (ln + 1) cap) (impU X Y K n (k + 1)).length ((impU X Y K n (k + 1)).flatMap ptC)) := by
            unfold Hid; rw [HSu.out, HF.out]; exact HO1.out
          by_cases q1 : K k = 1
          · have t1 : (K k == 1) = true := by simp [q1]
            have t2 : (K (k + 1) == 1) = false := by simp; intro h; exact hq ⟨q1, h⟩
            clear q1 hq
            go_wp2
            go_roundw
            case rel => exact ⟨k + 1, by omega, by go_num, by (repeat (any_goals (first | exact Below.refl _ _ | assumption | refine Below.drew ?_ | refine below_drewN ?_ _ | refine Below.setCell ?_ ?_ _ | refine Below.alloc ?_ ?_ _ | omega | (simp; done) | (simp; omega)))), HE.out.alloc _⟩
            case measure => simp [intOf]; omega
          · have t1 : (K k == 1) = false := by simp [q1]
            clear q1 hq
            go_wp2
            go_roundw
            case rel => exact ⟨k + 1, by omega, by go_num, by (repeat (any_goals (first | exact Below.refl _ _ | assumption | refine Below.drew ?_ | refine below_drewN ?_ _ | refine Below.setCell ?_ ?_ _ | refine Below.alloc ?_ ?_ _ | omega | (simp; done) | (simp; omega)))), HE.out.alloc _⟩
            case measure => simp [intOf]; omega
      · have hl3 : ¬ (k : Int) + 1 < (n : Int) := by omega
        have hnx : Num.nx n k = 0 := by unfold Num.nx; rw [if_neg hl2]
        have HNx := hide hnx
        obtain ⟨cX, cX'⟩ := HX.out (0) (by omega)
        obtain ⟨cY, cY'⟩ := HY.out (0) (by omega)
        clear hcr hnx
        by_cases hq : K k = 1 ∧ K 0 = 1
        · obtain ⟨q1, q2⟩ := hq
          have t1 : (K k == 1) = true := by simp [q1]
          have t2 : (K 0 == 1) = true := by simp [q2]
          have HF := hide (impF_yes (X := X) (Y := Y) (n := n) (k := k) ⟨q1, by rw [HNx.out]; exact q2⟩)
          clear q1 q2
          go_wp2_with (at_builtin; refine wpList_append_lies _ rfl _ _ 41 rfl w.heap.size 90 i0 (.agg #[.int .i64 0, .int .i64 0, .int .i64 0]) 3 24 Try.underlying41 hi0 hz0 hz1 hz2 rfl (by omega) _ (ln + 1) _ rfl ((hown1.alloc _).alloc _) ⟨w1.heap.size + 1, 0, none⟩ 1 1 [.int .i64 (X k + X 0), .int .i64 (Y k + Y 0), .int .i64 0] rfl rfl ?s1 ?s2 (by omega) ?s3 ?s4 ?s5 (w1.heap.size + 1 + 1) (by simp) ?_)
          try (case s1 => exact news_new (w1.alloc _) [.int .i64 (X k + X 0), .int .i64 (Y k + Y 0), .int .i64 0] _ _ (by simp))
          case s2 => first | exact one_ints _ _ _ | exact ⟨rfl, rfl, rfl⟩
          case s3 => unfold maxLen; omega
          case s4 => omega
          case s5 => first | omega | (simp; omega)
          intro g2 cap2 w2 hown2 hgrow2 hat2 hlt2
          have hb2 : Below w.heap.size w w2 := ((hb1.alloc (by omega) _).alloc (by simp; omega) _).grown hgrow2 (by simp; omega) (fun q hq => (hown1.lt q hq).1)
          have HO2 : Hid (w2.ownsRow w.heap.size 90 3 (.slice (some ⟨g2, 0, none⟩) (ln + 1 + 1) cap2) (impU X Y K n (k + 1)).length ((impU X Y K n (k + 1)).flatMap ptC)) :=
            push_pt (l := L ++ [(2 * X k, 2 * Y k, K k)]) (p := (X k + X 0, Y k + Y 0, 0)) (by rw [HXF.out]; simpa using hown2) (by rw [HSu.out, HF.out, HNx.out, List.append_assoc]) (by rw [HLn.out]; simp)
          clear hown2 hgrow2 hat2 hown1 hb1
          go_wp2
          go_roundw
          case rel => exact ⟨k + 1, by omega, by go_num, hb2, HO2.out⟩
          case measure => simp [intOf]; omega
        · have HF := hide (impF_no (X := X) (Y := Y) (n := n) (k := k) (by rw [HNx.out]; exact hq))
          have HE : Hid (w1.ownsRow w.heap.size 90 3 (.slice (some ⟨g, 0, none⟩) (ln + 1) cap) (impU X Y K n (k + 1)).length ((impU X Y K n (k + 1)).flatMap ptC)) := by
            unfold Hid; rw [HSu.out, HF.out]; exact HO1.out
          by_cases q1 : K k = 1
          · have t1 : (K k == 1) = true := by simp [q1]
            have t2 : (K 0 == 1) = false := by simp; intro h; exact hq ⟨q1, h⟩
            clear q1 hq
            go_wp2
            go_roundw
            case rel => exact ⟨k + 1, by omega, by go_num, by (repeat (any_goals (first | exact Below.refl _ _ | assumption | refine Below.drew ?_ | refine below_drewN ?_ _ | refine Below.setCell ?_ ?_ _ | refine Below.alloc ?_ ?_ _ | omega | (simp; done) | (simp; omega)))), HE.out.alloc _⟩
            case measure => simp [intOf]; omega
          · have t1 : (K k == 1) = false := by simp [q1]
            clear q1 hq
            go_wp2
            go_roundw
            case rel => exact ⟨k + 1, by omega, by go_num, by (repeat (any_goals (first | exact Below.refl _ _ | assumption | refine Below.drew ?_ | refine below_drewN ?_ _ | refine Below.setCell ?_ ?_ _ | refine Below.alloc ?_ ?_ _ | omega | (simp; done) | (simp; omega)))), HE.out.alloc _⟩
            case measure => simp [intOf]; omega
    · go_wp2
      go_ret
      have e : k = n := by omega
      subst e
      exact ⟨v, rfl, hb, hown⟩
end Go.Proofs.Ytkhcjkmifddlbab

/- CrvB -/
namespace Go.Proofs.Ytkhcjkmifddlbab
open Go.RowKit

set_option maxHeartbeats 1000000 in
theorem chords_any (k x0 y0 x1 y1 x2 y2 x3 y3 : Int) (w : World) (hr : Num.rangeB (⟨k, x0, y0, x1, y1, x2, y2, x3, y3⟩ : Num.Sg) = true) :
    Calls Try.prog 101 #[.agg #[.int .i64 k, .int .i64 x0, .int .i64 y0, .int .i64 x1, .int .i64 y1, .int .i64 x2, .int .i64 y2, .int .i64 x3, .int .i64 y3]] w fun e w' => e = .returned (.int .i64 (Num.stepsV (Num.needV (⟨k, x0, y0, x1, y1, x2, y2, x3, y3⟩ : Num.Sg)))) ∧ Below w.heap.size w w' := by
  obtain ⟨r0, r3, r1, r2⟩ := Num.range_yes hr
  have hneed := Num.needV_bd hr
  have hS := Num.stepsV_is hneed.2
  have hSle := Num.stepsV_le hneed.2
  obtain ⟨S, hSe⟩ : ∃ S, S = Num.stepsV (Num.needV (⟨k, x0, y0, x1, y1, x2, y2, x3, y3⟩ : Num.Sg)) := ⟨_, rfl⟩
  rw [← hSe] at hS hSle ⊢
  obtain ⟨D, hD⟩ : ∃ D, D = Num.needV (⟨k, x0, y0, x1, y1, x2, y2, x3, y3⟩ : Num.Sg) := ⟨_, rfl⟩
  rw [← hD] at hS hneed
  have HS := hide hS
  clear hSe hS hr
  obtain ⟨a1, a2⟩ := Num.inB_yes r0
  obtain ⟨b1, b2⟩ := Num.inB_yes r3
  clear r0 r3
  by_cases h1 : k = 1
  · subst h1
    obtain ⟨c1, c2⟩ := Num.inB_yes (r1 (.inl rfl))
    have HD : Hid (D = Num.bendV x0 y0 x1 y1 x3 y3) := by unfold Hid; rw [hD]; simp [Num.needV]
    clear r1 r2 hD
    go_enter Try.func101, Try.ntmps101
    go_wp2_with fail
    refine (bend_any _ _ _ _ _ _ _ a1 a2 c1 c2 b1 b2).mono ?_
    rw [← HD.out]
    rintro e w1 ⟨rfl, hb⟩
    have hb0 : Below w.heap.size w w1 := Below.trans (by (repeat (any_goals (first | exact Below.refl _ _ | assumption | refine Below.drew ?_ | refine below_drewN ?_ _ | refine Below.setCell ?_ ?_ _ | refine Below.alloc ?_ ?_ _ | omega | (simp; done) | (simp; omega))))) (hb.mono (by simp))
    clear hb a1 a2 b1 b2 c1 c2
    go_wp2_with fail
    go_loop [6] (fun t => ∃ q : Int, 1 ≤ q ∧ q ≤ S ∧ t = .int .i64 q) (fun t => (S - intOf t).toNat)
    case atStart => exact ⟨1, by omega, HS.out.1, rfl⟩
    case round =>
      obtain ⟨q, q1, q2, rfl⟩ := hrel
      obtain ⟨s1, s2⟩ := steps_round HS.out q1 q2
      have b1 := Num.sq_mono (a := q) (b := 111) (by omega) (by omega)
      have b0 := Num.sq_mono (a := 0) (b := q) (by omega) (by omega)
      by_cases hlt : 16 * q * q < D
      · have s3 := s1 hlt
        clear s1 s2
        go_wp2
        go_round
        case rel => exact ⟨q + 1, by omega, by omega, rfl⟩
        case measure => simp [intOf]; omega
      · have HE := hide (s2 hlt)
        clear s1 s2
        go_wp2
        go_ret
        exact ⟨ret_int HE.out, hb0⟩
  · by_cases h2 : k = 2
    · subst h2
      obtain ⟨c1, c2⟩ := Num.inB_yes (r1 (.inr rfl))
      obtain ⟨d1, d2⟩ := Num.inB_yes (r2 rfl)
      have HD : Hid (D = 3 * Num.gr (Num.bendV x0 y0 x1 y1 x2 y2) (Num.bendV x1 y1 x2 y2 x3 y3)) := by unfold Hid; rw [hD]; simp [Num.needV]
      have p := Num.bendV_bd a1 a2 c1 c2 d1 d2
      have q := Num.bendV_bd c1 c2 d1 d2 b1 b2
      have gb := Num.gr_bd p.1 p.2 q.1 q.2
      clear r1 r2 hD p q
      go_enter Try.func101, Try.ntmps101
      go_wp2_with fail
      refine (bend_any _ _ _ _ _ _ _ a1 a2 c1 c2 d1 d2).mono ?_
      rintro e w1 ⟨rfl, hb⟩
      obtain ⟨hc, hfz⟩ := bcell hb
      have hz : w.heap.size < w1.heap.size := by have := hb.size; simp at this; omega
      have hb0 : Below w.heap.size w w1 := Below.trans (by (repeat (any_goals (first | exact Below.refl _ _ | assumption | refine Below.drew ?_ | refine below_drewN ?_ _ | refine Below.setCell ?_ ?_ _ | refine Below.alloc ?_ ?_ _ | omega | (simp; done) | (simp; omega))))) (hb.mono (by simp))
      have e3 : w1.cell? ⟨w.heap.size, 3, none⟩ = some (.int .i64 x1) := by rw [hc _ _ (by simp)]; go_simp
      have e4 : w1.cell? ⟨w.heap.size, 4, none⟩ = some (.int .i64 y1) := by rw [hc _ _ (by simp)]; go_simp
      have e5 : w1.cell? ⟨w.heap.size, 5, none⟩ = some (.int .i64 x2) := by rw [hc _ _ (by simp)]; go_simp
      have e6 : w1.cell? ⟨w.heap.size, 6, none⟩ = some (.int .i64 y2) := by rw [hc _ _ (by simp)]; go_simp
      have e7 : w1.cell? ⟨w.heap.size, 7, none⟩ = some (.int .i64 x3) := by rw [hc _ _ (by simp)]; go_simp
      have e8 : w1.cell? ⟨w.heap.size, 8, none⟩ = some (.int .i64 y3) := by rw [hc _ _ (by simp)]; go_simp
      clear hb hc hfz
      go_wp2_with fail
      refine (bend_any _ _ _ _ _ _ _ c1 c2 d1 d2 b1 b2).mono ?_
      rintro e w2 ⟨rfl, hb2⟩
      have hb3 : Below w.heap.size w w2 := hb0.trans (hb2.mono (by omega))
      clear hb2 hb0 a1 a2 b1 b2 c1 c2 d1 d2 e3 e4 e5 e6 e7 e8
      go_wp2_with (go_at_call 89; refine (greater_any _ _ _).mono ?_; rintro e w' ⟨rfl, rfl⟩)
      rw [← HD.out]
      go_wp2_with fail
      go_loop [6] (fun t => ∃ q : Int, 1 ≤ q ∧ q ≤ S ∧ t = .int .i64 q) (fun t => (S - intOf t).toNat)
      case atStart => exact ⟨1, by omega, HS.out.1, rfl⟩
      case round =>
        obtain ⟨q, q1, q2, rfl⟩ := hrel
        obtain ⟨s1, s2⟩ := steps_round HS.out q1 q2
        have b1 := Num.sq_mono (a := q) (b := 111) (by omega) (by omega)
        have b0 := Num.sq_mono (a := 0) (b := q) (by omega) (by omega)
        by_cases hlt : 16 * q * q < D
        · have s3 := s1 hlt
          clear s1 s2
          go_wp2
          go_round
          case rel => exact ⟨q + 1, by omega, by omega, rfl⟩
          case measure => simp [intOf]; omega
        · have HE := hide (s2 hlt)
          clear s1 s2
          go_wp2
          go_ret
          exact ⟨ret_int HE.out, hb3⟩
    · have t1 : (k == 1) = false := by simpa using h1
      have t2 : (k == 2) = false := by simpa using h2
      have hD0 : D = 0 := by rw [hD]; simp [Num.needV, h1, h2]
      clear r1 r2 hD
      subst hD0
      have hS1 : S = 1 := by
        rcases Int.lt_or_le 1 S with h | h
        · have := HS.out.2.2 1 (by omega) h; omega
        · have := HS.out.1; omega
      clear a1 a2 b1 b2 h1 h2
      go_enter Try.func101, Try.ntmps101
      go_wp2_with fail
      go_loop [6] (fun t => t = .int .i64 1) (fun _ => 0)
      case atStart => rfl
      case round =>
        subst hrel
        go_wp2
        go_ret
        exact ⟨ret_int (by omega), by (repeat (any_goals (first | exact Below.refl _ _ | assumption | refine Below.drew ?_ | refine below_drewN ?_ _ | refine Below.setCell ?_ ?_ _ | refine Below.alloc ?_ ?_ _ | omega | (simp; done) | (simp; omega))))⟩

set_option maxHeartbeats 1000000 in
theorem spotOf_any (k x0 y0 x1 y1 x2 y2 x3 y3 i n : Int) (w : World) (hr : Num.rangeB (⟨k, x0, y0, x1, y1, x2, y2, x3, y3⟩ : Num.Sg) = true) (hi : 0 ≤ i) (hin : i ≤ n) (h1 : 1 ≤ n) (hn : n ≤ 111) :
    Calls Try.prog 102 #[.agg #[.int .i64 k, .int .i64 x0, .int .i64 y0, .int .i64 x1, .int .i64 y1, .int .i64 x2, .int .i64 y2, .int .i64 x3, .int .i64 y3], .int .i64 i, .int .i64 n] w fun e w' => e = .returned (.agg #[.int .i64 (Num.spotX (⟨k, x0, y0, x1, y1, x2, y2, x3, y3⟩ : Num.Sg) n i), .int .i64 (Num.spotY (⟨k, x0, y0, x1, y1, x2, y2, x3, y3⟩ : Num.Sg) n i)]) ∧ Below w.heap.size w w' := by
  obtain ⟨r0, r3, r1, r2⟩ := Num.range_yes hr
  obtain ⟨a1, a2⟩ := Num.inB_yes r0
  obtain ⟨b1, b2⟩ := Num.inB_yes r3
  clear r0 r3 hr
  by_cases e1 : k = 1
  · subst e1
    obtain ⟨c1, c2⟩ := Num.inB_yes (r1 (.inl rfl))
    have HX : Hid (Num.spotX (⟨1, x0, y0, x1, y1, x2, y2, x3, y3⟩ : Num.Sg) n i = Num.hu (Num.qSum (n - i) i x0 x1 x3) (n * n)) := by unfold Hid Num.spotX; rw [if_pos rfl]
    have HY : Hid (Num.spotY (⟨1, x0, y0, x1, y1, x2, y2, x3, y3⟩ : Num.Sg) n i = Num.hu (Num.qSum (n - i) i y0 y1 y3) (n * n)) := by unfold Hid Num.spotY; rw [if_pos rfl]
    clear r1 r2
    rw [HX.out, HY.out]
    go_enter Try.func102, Try.ntmps102
    go_wp2_with (go_at_call 112; refine (quadAt_any _ _ _ _ _ _ (by assumption) (by assumption) (by assumption) hi hin h1 hn).mono ?_; rintro e w' ⟨rfl, rfl⟩)
    refine bodyPost_ret (v := .agg #[.int .i64 (Num.hu (Num.qSum (n - i) i x0 x1 x3) (n * n)), .int .i64 (Num.hu (Num.qSum (n - i) i y0 y1 y3) (n * n))]) (by simp [results, Try.results102, go_sem]) rfl ⟨rfl, ?_⟩
    clear a1 a2 b1 b2 c1 c2
    (repeat (any_goals (first | exact Below.refl _ _ | assumption | refine Below.drew ?_ | refine below_drewN ?_ _ | refine Below.setCell ?_ ?_ _ | refine Below.alloc ?_ ?_ _ | omega | (simp; done) | (simp; omega))))
  · by_cases e2 : k = 2
    · subst e2
      obtain ⟨c1, c2⟩ := Num.inB_yes (r1 (.inr rfl))
      obtain ⟨d1, d2⟩ := Num.inB_yes (r2 rfl)
      have HX : Hid (Num.spotX (⟨2, x0, y0, x1, y1, x2, y2, x3, y3⟩ : Num.Sg) n i = Num.hu (Num.cSum (n - i) i x0 x1 x2 x3) (n * n * n)) := by unfold Hid Num.spotX; rw [if_neg (by show ¬ (2 : Int) = 1; decide), if_pos rfl]
      have HY : Hid (Num.spotY (⟨2, x0, y0, x1, y1, x2, y2, x3, y3⟩ : Num.Sg) n i = Num.hu (Num.cSum (n - i) i y0 y1 y2 y3) (n * n * n)) := by unfold Hid Num.spotY; rw [if_neg (by show ¬ (2 : Int) = 1; decide), if_pos rfl]
      clear r1 r2
      rw [HX.out, HY.out]
      go_enter Try.func102, Try.ntmps102
      go_wp2_with (go_at_call 113; refine (cubicAt_any _ _ _ _ _ _ _ (by assumption) (by assumption) (by assumption) (by assumption) hi hin h1 hn).mono ?_; rintro e w' ⟨rfl, rfl⟩)
      refine bodyPost_ret (v := .agg #[.int .i64 (Num.hu (Num.cSum (n - i) i x0 x1 x2 x3) (n * n * n)), .int .i64 (Num.hu (Num.cSum (n - i) i y0 y1 y2 y3) (n * n * n))]) (by simp [results, Try.results102, go_sem]) rfl ⟨rfl, ?_⟩
      clear a1 a2 b1 b2 c1 c2 d1 d2
      (repeat (any_goals (first | exact Below.refl _ _ | assumption | refine Below.drew ?_ | refine below_drewN ?_ _ | refine Below.setCell ?_ ?_ _ | refine Below.alloc ?_ ?_ _ | omega | (simp; done) | (simp; omega))))
    · have t1 : (k == 1) = false := by simpa using e1
      have t2 : (k == 2) = false := by simpa using e2
      clear r1 r2 a1 a2 b1 b2
      by_cases ein : i = n
      · have HX : Hid (Num.spotX (⟨k, x0, y0, x1, y1, x2, y2, x3, y3⟩ : Num.Sg) n i = x3) := by unfold Hid Num.spotX; rw [if_neg e1, if_neg e2, if_pos ein]
        have HY : Hid (Num.spotY (⟨k, x0, y0, x1, y1, x2, y2, x3, y3⟩ : Num.Sg) n i = y3) := by unfold Hid Num.spotY; rw [if_neg e1, if_neg e2, if_pos ein]
        have t3 : (i == n) = true := by simpa using ein
        rw [HX.out, HY.out]
        clear e1 e2 ein
        go_enter Try.func102, Try.ntmps102
        go_wp2
        refine bodyPost_ret (v := .agg #[.int .i64 x3, .int .i64 y3]) (by simp [results, Try.results102, go_sem]) rfl ⟨rfl, ?_⟩
        (repeat (any_goals (first | exact Below.refl _ _ | assumption | refine Below.drew ?_ | refine below_drewN ?_ _ | refine Below.setCell ?_ ?_ _ | refine Below.alloc ?_ ?_ _ | omega | (simp; done) | (simp; omega))))
      · have HX : Hid (Num.spotX (⟨k, x0, y0, x1, y1, x2, y2, x3, y3⟩ : Num.Sg) n i = x0) := by unfold Hid Num.spotX; rw [if_neg e1, if_neg e2, if_neg ein]
        have HY : Hid (Num.spotY (⟨k, x0, y0, x1, y1, x2, y2, x3, y3⟩ : Num.Sg) n i = y0) := by unfold Hid Num.spotY; rw [if_neg e1, if_neg e2, if_neg ein]
        have t3 : (i == n) = false := by simpa using ein
        rw [HX.out, HY.out]
        clear e1 e2 ein
        go_enter Try.func102, Try.ntmps102
        go_wp2
        refine bodyPost_ret (v := .agg #[.int .i64 x0, .int .i64 y0]) (by simp [results, Try.results102, go_sem]) rfl ⟨rfl, ?_⟩
        (repeat (any_goals (first | exact Below.refl _ _ | assumption | refine Below.drew ?_ | refine below_drewN ?_ _ | refine Below.setCell ?_ ?_ _ | refine Below.alloc ?_ ?_ _ | omega | (simp; done) | (simp; omega))))
end Go.Proofs.Ytkhcjkmifddlbab

/- Spots -/
namespace Go.Proofs.Ytkhcjkmifddlbab
open Go.RowKit Go.Deep

/-- The cells of a spot. -/
def spC (p : Int × Int) : List Value := [.int .i64 p.1, .int .i64 p.2]
theorem info_spot : (Try.prog.info? 53).map (fun i => (i.zero, i.size, i.bytes)) = some (some (.agg #[.int .i64 0, .int .i64 0]), 2, 16) := by kernel_rfl
theorem push_sp {w : World} {base : Nat} {v : Value} {l l' : List (Int × Int)} {p : Int × Int} {m : Nat} (h : w.ownsRow base 53 2 v m (l.flatMap spC ++ [.int .i64 p.1, .int .i64 p.2])) (hl : l' = l ++ [p]) (hm : m = l.length + 1) : w.ownsRow base 53 2 v l'.length (l'.flatMap spC) := by
  have e1 : l'.length = m := by rw [hl, hm]; simp
  have e2 : l'.flatMap spC = l.flatMap spC ++ [.int .i64 p.1, .int .i64 p.2] := by rw [hl]; simp [spC]
  rw [e1, e2]; exact h
theorem owns_mono {w : World} {base base' : Nat} {t : TypeId} {sz : Nat} {v : Value} {n : Nat} {xs : List Value} (h : w.ownsRow base t sz v n xs) (hb : base' ≤ base) : w.ownsRow base' t sz v n xs := by
  refine ⟨h.1, ?_⟩
  rcases h.2 with hn | ⟨g, cap, cur, rfl, hb', rest⟩
  · exact .inl hn
  · exact .inr ⟨g, cap, cur, rfl, Nat.le_trans hb hb', rest⟩
theorem news_sp (W : World) (cs : List Value) (t : TypeId) (H : Nat) (hH : W.heap.size = H) : ∀ (j : Nat) (u : Value), cs[j]? = some u → (W.alloc (.cells cs.toArray t)).cell? ((⟨H, 0, none⟩ : Addr).add j) = some u := by
  intro j u hj
  subst hH
  have e2 : ((⟨W.heap.size, 0, none⟩ : Addr).add j) = ⟨W.heap.size, j, none⟩ := by
    unfold Addr.add
    split
    · rename_i h; simp_all
    · simp
  have hlt : j < cs.length := by
    rcases Nat.lt_or_ge j cs.length with h | h
    · exact h
    · rw [List.getElem?_eq_none h] at hj; cases hj
  have hr := (World.rowIs_alloc W cs.toArray t (fun i => cs[i]?.getD u) (fun i hi => by simp at hi; simp [hi])).cell (i := j) (by simpa using hlt)
  rw [e2, hr]
  simp [hj]
theorem one_two (a b : Int) : ∀ u ∈ [Value.int .i64 a, .int .i64 b], u.oneCell' = true := by
  intro u hu
  simp at hu
  rcases hu with rfl | rfl <;> rfl
theorem flat2_len (l : List (Int × Int)) : (l.flatMap spC).length = l.length * 2 := by
  induction l with
  | nil => simp
  | cons x r ih => rw [List.flatMap_cons, List.length_append, ih]; simp [spC]; omega
theorem flat2_one (l : List (Int × Int)) : ∀ u ∈ l.flatMap spC, u.oneCell' = true := by
  intro u hu
  rw [List.mem_flatMap] at hu
  obtain ⟨g, _, hg⟩ := hu
  exact one_two g.1 g.2 u hg
theorem flat2_at : ∀ (l : List (Int × Int)) (i : Nat) (hi : i < l.length), (l.flatMap spC)[i * 2]? = some (.int .i64 l[i].1) ∧ (l.flatMap spC)[i * 2 + 1]? = some (.int .i64 l[i].2) := by
  intro l
  induction l with
  | nil => intro i hi; simp at hi
  | cons x r ih =>
    intro i hi
    rw [List.flatMap_cons]
    have h2 : (spC x).length = 2 := rfl
    cases i with
    | zero => simp [spC]
    | succ j =>
      have := ih j (by simpa using hi)
      simp only [List.getElem_cons_succ]
      rw [List.getElem?_append_right (by omega), List.getElem?_append_right (by omega), h2, show (j + 1) * 2 - 2 = j * 2 by omega, show (j + 1) * 2 + 1 - 2 = j * 2 + 1 by omega]
      exact this
theorem owns_sp {w : World} {base b cap : Nat} {t : TypeId} {l : List (Int × Int)} (h : w.ownsRow base t 2 (.slice (some ⟨b, 0, none⟩) l.length cap) l.length (l.flatMap spC)) (i : Nat) (hi : i < l.length) :
    w.cell? ⟨b, i * 2, none⟩ = some (.int .i64 l[i].1) ∧ w.cell? ⟨b, i * 2 + 1, none⟩ = some (.int .i64 l[i].2) := by
  have e := flat2_at l i hi
  have e0 := h.cellAt (i * 2) (by omega)
  have e1 := h.cellAt (i * 2 + 1) (by omega)
  rw [e.1] at e0
  rw [e.2] at e1
  exact ⟨e0, e1⟩
theorem owns_formN {w : World} {base : Nat} {t : TypeId} {z : Nat} {v : Value} {n : Nat} {xs : List Value} (h : w.ownsRow base t z v n xs) : ∃ ao cap, v = .slice ao n cap ∧ (0 < n → ∃ b, ao = some ⟨b, 0, none⟩) := by
  rcases h.2 with ⟨rfl, h0⟩ | ⟨g, cap, cur, rfl, _⟩
  · exact ⟨none, 0, by rw [h0], by omega⟩
  · exact ⟨some ⟨g, 0, none⟩, cap, rfl, fun _ => ⟨g, rfl⟩⟩
/-- The cells of a row of spots, as the new ones of an append. -/
theorem news_row {w : World} {base g cap : Nat} {t : TypeId} {l : List (Int × Int)} (h : w.ownsRow base t 2 (.slice (some ⟨g, 0, none⟩) l.length cap) l.length (l.flatMap spC)) : ∀ (j : Nat) (u : Value), (l.flatMap spC)[j]? = some u → w.cell? ((⟨g, 0, none⟩ : Addr).add j) = some u := by
  intro j u hj
  have e2 : ((⟨g, 0, none⟩ : Addr).add j) = ⟨g, j, none⟩ := by
    unfold Addr.add
    split
    · rename_i h; simp_all
    · simp
  have hlt : j < l.length * 2 := by
    rcases Nat.lt_or_ge j (l.length * 2) with h | h
    · exact h
    · rw [List.getElem?_eq_none (by rw [flat2_len]; exact h)] at hj; cases hj
  rw [e2, h.cellAt j hlt, hj]
end Go.Proofs.Ytkhcjkmifddlbab
