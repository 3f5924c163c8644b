/- The segments of a ring: ringSegments. -/
import Derived.Test.YtkhcjkmifddlbaaRingS
import Derived.Test.YtkhcjkmifddlbaaHeldC
namespace Go.Proofs.Ytkhcjkmifddlbaa
open Go.RowKit Go.Deep

theorem flat3 {α : Type} (f : α → List Value) (hf : ∀ e, (f e).length = 3) : ∀ (l : List α) (i q : Nat) (hi : i < l.length), q < 3 → (l.flatMap f)[i * 3 + q]? = (f l[i])[q]? := by
  intro l
  induction l with
  | nil => intro i q hi; simp at hi
  | cons x r ih =>
    intro i q hi hq
    rw [List.flatMap_cons]
    have h2 := hf x
    cases i with
    | zero =>
      simp only [Nat.zero_mul, Nat.zero_add, List.getElem_cons_zero]
      rw [List.getElem?_append_left (by omega)]
    | succ j =>
      have := ih j q (by simpa using hi) hq
      simp only [List.getElem_cons_succ]
      rw [List.getElem?_append_right (by omega), h2, show (j + 1) * 3 + q - 3 = j * 3 + q by omega]
      exact this

/-- The numbers of point j of a list. -/
def gX (R : List (Int × Int × Int)) (j : Nat) : Int := (R[j]?.getD (0, 0, 0)).1
def gY (R : List (Int × Int × Int)) (j : Nat) : Int := (R[j]?.getD (0, 0, 0)).2.1
def gK (R : List (Int × Int × Int)) (j : Nat) : Int := (R[j]?.getD (0, 0, 0)).2.2
theorem gAll {R : List (Int × Int × Int)} {j : Nat} (h : j < R.length) : (gX R j, gY R j, gK R j) = R[j] := by
  unfold gX gY gK; rw [List.getElem?_eq_getElem h]; rfl

theorem owns_ring {w : World} {base g cap : Nat} {R : List (Int × Int × Int)} (h : w.ownsRow base 133 3 (.slice (some ⟨g, 0, none⟩) R.length cap) R.length (R.flatMap ptC)) : RingAt w (some ⟨g, 0, none⟩) R.length (gX R) (gY R) (gK R) := by
  refine .inr ⟨g, 0, rfl, fun k hk => ?_⟩
  have e : ∀ j, j < R.length * 3 → w.cell? ⟨g, j, none⟩ = (R.flatMap ptC)[j]? := fun j hj => h.cellAt j hj
  have f := gAll hk
  rw [Nat.zero_add]
  have q0 := flat3 ptC (fun _ => rfl) R k 0 hk (by omega)
  have q1 := flat3 ptC (fun _ => rfl) R k 1 hk (by omega)
  have q2 := flat3 ptC (fun _ => rfl) R k 2 hk (by omega)
  rw [← f] at q0 q1 q2
  refine ⟨?_, ?_, ?_⟩
  · rw [e _ (by omega)]; exact q0
  · rw [e _ (by omega)]; exact q1
  · rw [e _ (by omega)]; exact q2

theorem first_of {R : List (Int × Int × Int)} {f : Nat} {p : Int × Int × Int} (hp : R[f]? = some p) (h0 : p.2.2 = 0) (hb : ∀ (j : Nat) (q : Int × Int × Int), j < f → R[j]? = some q → q.2.2 ≠ 0) : Num.firstI (fun j => gK R j == 0) R.length = f := by
  have hlt : f < R.length := by
    rcases Nat.lt_or_ge f R.length with h | h
    · exact h
    · rw [List.getElem?_eq_none h] at hp; cases hp
  refine Num.firstI_hit _ _ _ hlt ?_ ?_
  · simp [gK, hp, h0]
  · intro j hj
    have hj2 : j < R.length := by omega
    have := hb j R[j] hj (List.getElem?_eq_getElem hj2)
    simp [gK, List.getElem?_eq_getElem hj2, this]

theorem imp_pos {X Y K : Nat → Int} {n : Nat} (h : 0 < n) : 0 < (impU X Y K n n).length := by
  obtain ⟨m, rfl⟩ : ∃ m, n = m + 1 := ⟨n - 1, by omega⟩
  rw [impU_succ, List.length_append]
  have : 0 < (Num.impF X Y K (m + 1) m).length := by unfold Num.impF; simp
  omega

/-- A segment is stored. -/
def set9 (w : World) (b : Nat) (g : Num.Sg) : World := (((((((((w.setCell ⟨b, 0, none⟩ (.int .i64 g.k)).setCell ⟨b, 1, none⟩ (.int .i64 g.x0)).setCell ⟨b, 2, none⟩ (.int .i64 g.y0)).setCell ⟨b, 3, none⟩ (.int .i64 g.x1)).setCell ⟨b, 4, none⟩ (.int .i64 g.y1)).setCell ⟨b, 5, none⟩ (.int .i64 g.x2)).setCell ⟨b, 6, none⟩ (.int .i64 g.y2)).setCell ⟨b, 7, none⟩ (.int .i64 g.x3)).setCell ⟨b, 8, none⟩ (.int .i64 g.y3))
theorem set9_size (w : World) (b : Nat) (g : Num.Sg) : (set9 w b g).heap.size = w.heap.size := by unfold set9; simp only [nblk_setCell]
theorem set9_other (w : World) (b : Nat) (g : Num.Sg) {x : Nat} (h : x ≠ b) : (set9 w b g).heap[x]? = w.heap[x]? := by
  unfold set9
  simp only [blk_setCell_other _ _ _ _ (show x ≠ (⟨b, _, none⟩ : Addr).block from h)]
theorem set9_row {w : World} {b : Nat} {t : TypeId} {f : Nat → Value} (h : w.rowIs b t 9 f) (g : Num.Sg) : (set9 w b g).rowIs b t 9 (sgF g) := by
  unfold set9
  refine (((((((((h.set 0 _).set 1 _).set 2 _).set 3 _).set 4 _).set 5 _).set 6 _).set 7 _).set 8 _).congr fun q hq => ?_
  rcases (show q = 0 ∨ q = 1 ∨ q = 2 ∨ q = 3 ∨ q = 4 ∨ q = 5 ∨ q = 6 ∨ q = 7 ∨ q = 8 by omega) with rfl | rfl | rfl | rfl | rfl | rfl | rfl | rfl | rfl <;> rfl
theorem set9_touch {S : Nat → Prop} {w0 w : World} (h : Touch S w0 w) {b : Nat} (hb : S b ∨ w0.heap.size ≤ b) (g : Num.Sg) : Touch S w0 (set9 w b g) := by
  unfold set9
  exact (((((((((h.setCell (p := ⟨b, 0, none⟩) hb _).setCell (p := ⟨b, 1, none⟩) hb _).setCell (p := ⟨b, 2, none⟩) hb _).setCell (p := ⟨b, 3, none⟩) hb _).setCell (p := ⟨b, 4, none⟩) hb _).setCell (p := ⟨b, 5, none⟩) hb _).setCell (p := ⟨b, 6, none⟩) hb _).setCell (p := ⟨b, 7, none⟩) hb _).setCell (p := ⟨b, 8, none⟩) hb _)
theorem set9_below {B : Nat} {w0 w : World} (h : Below B w0 w) {b : Nat} (hb : B ≤ b) (g : Num.Sg) : Below B w0 (set9 w b g) := by
  unfold set9
  exact (((((((((h.setCell (p := ⟨b, 0, none⟩) hb _).setCell (p := ⟨b, 1, none⟩) hb _).setCell (p := ⟨b, 2, none⟩) hb _).setCell (p := ⟨b, 3, none⟩) hb _).setCell (p := ⟨b, 4, none⟩) hb _).setCell (p := ⟨b, 5, none⟩) hb _).setCell (p := ⟨b, 6, none⟩) hb _).setCell (p := ⟨b, 7, none⟩) hb _).setCell (p := ⟨b, 8, none⟩) hb _)
theorem sg_cells {w : World} {b : Nat} {t : TypeId} {g : Num.Sg} (h : w.rowIs b t 9 (sgF g)) :
    w.cell? ⟨b, 0, none⟩ = some (.int .i64 g.k) ∧ w.cell? ⟨b, 1, none⟩ = some (.int .i64 g.x0) ∧ w.cell? ⟨b, 2, none⟩ = some (.int .i64 g.y0) ∧ w.cell? ⟨b, 3, none⟩ = some (.int .i64 g.x1) ∧ w.cell? ⟨b, 4, none⟩ = some (.int .i64 g.y1) ∧ w.cell? ⟨b, 5, none⟩ = some (.int .i64 g.x2) ∧ w.cell? ⟨b, 6, none⟩ = some (.int .i64 g.y2) ∧ w.cell? ⟨b, 7, none⟩ = some (.int .i64 g.x3) ∧ w.cell? ⟨b, 8, none⟩ = some (.int .i64 g.y3) :=
  ⟨h.cell (i := 0) (by omega), h.cell (i := 1) (by omega), h.cell (i := 2) (by omega), h.cell (i := 3) (by omega), h.cell (i := 4) (by omega), h.cell (i := 5) (by omega), h.cell (i := 6) (by omega), h.cell (i := 7) (by omega), h.cell (i := 8) (by omega)⟩

theorem row_sg (W : World) (g : Num.Sg) (t : TypeId) : (W.alloc (.cells (sgC g).toArray t)).rowIs W.heap.size t 9 (sgF g) := by
  refine World.rowIs_alloc W (sgC g).toArray t (sgF g) (fun q hq => ?_)
  have hq : q < 9 := hq
  rcases (show q = 0 ∨ q = 1 ∨ q = 2 ∨ q = 3 ∨ q = 4 ∨ q = 5 ∨ q = 6 ∨ q = 7 ∨ q = 8 by omega) with rfl | rfl | rfl | rfl | rfl | rfl | rfl | rfl | rfl <;> rfl
theorem set2_row {w : World} {b : Nat} {t : TypeId} {g : Num.Sg} (h : w.rowIs b t 9 (sgF g)) (p : Int × Int × Int) : ((w.setCell ⟨b, 7, none⟩ (.int .i64 p.1)).setCell ⟨b, 8, none⟩ (.int .i64 p.2.1)).rowIs b t 9 (sgF (Num.setTo g p)) := by
  refine ((h.set 7 _).set 8 _).congr fun q hq => ?_
  rcases (show q = 0 ∨ q = 1 ∨ q = 2 ∨ q = 3 ∨ q = 4 ∨ q = 5 ∨ q = 6 ∨ q = 7 ∨ q = 8 by omega) with rfl | rfl | rfl | rfl | rfl | rfl | rfl | rfl | rfl <;> rfl

/-- The next place in a ring of r, from f on. -/
def wrp (r x : Nat) : Nat := if x < r then x else x - r
theorem wrp_lt {r f j : Nat} (hf : f < r) (hj : j ≤ r) : wrp r (f + j) < r := by unfold wrp; split <;> omega
theorem wrp_succ {r f j : Nat} (hf : f < r) (hj : j < r) : wrp r (f + (j + 1)) = if wrp r (f + j) + 1 = r then 0 else wrp r (f + j) + 1 := by
  unfold wrp; split <;> split <;> (try split) <;> omega

theorem rot_drop {R : List (Int × Int × Int)} {f j : Nat} (hf : f < R.length) (hj : j < R.length) :
    (R.drop (f + 1) ++ R.take (f + 1)).drop j = (gX R (wrp R.length (f + (j + 1))), gY R (wrp R.length (f + (j + 1))), gK R (wrp R.length (f + (j + 1)))) :: (R.drop (f + 1) ++ R.take (f + 1)).drop (j + 1) := by
  have hl : (R.drop (f + 1) ++ R.take (f + 1)).length = R.length := by simp; omega
  have hy : wrp R.length (f + (j + 1)) < R.length := by unfold wrp; split <;> omega
  rw [gAll hy, List.drop_eq_getElem_cons (by omega)]
  congr 1
  unfold wrp
  by_cases h : f + (j + 1) < R.length
  · rw [List.getElem_append_left (by simp; omega)]
    simp only [List.getElem_drop, if_pos h]
    congr 1; omega
  · rw [List.getElem_append_right (by simp; omega)]
    simp only [List.getElem_take, if_neg h, List.length_drop]
    congr 1; omega

theorem owns_base {w : World} {base base' : Nat} {t : TypeId} {sz : Nat} {v : Value} {n : Nat} {xs : List Value} (h : w.ownsRow base t sz v n xs) (hb : base' ≤ base) : w.ownsRow base' t sz v n xs := by
  refine ⟨h.1, ?_⟩
  rcases h.2 with hn | ⟨g, cap, cur, hv, hbb, rest⟩
  · exact .inl hn
  · exact .inr ⟨g, cap, cur, hv, by omega, rest⟩

theorem one_sg (g : Num.Sg) : ∀ u ∈ sgC g, u.oneCell' = true := by
  intro u hu
  simp [sgC] at hu
  rcases hu with rfl | rfl | rfl | rfl | rfl | rfl | rfl | rfl | rfl <;> rfl

theorem push_sg {w : World} {base : Nat} {v : Value} {l : List Num.Sg} {g : Num.Sg} {m : Nat} (h : w.ownsRow base 44 9 v m (l.flatMap sgC ++ sgC g)) (hm : m = l.length + 1) : w.ownsRow base 44 9 v (l ++ [g]).length ((l ++ [g]).flatMap sgC) := by
  have e1 : (l ++ [g]).length = m := by rw [hm]; simp
  have e2 : (l ++ [g]).flatMap sgC = l.flatMap sgC ++ sgC g := by simp
  rw [e1, e2]; exact h

theorem info_seg : (Try.prog.info? 44).map (fun i => (i.zero, i.size, i.bytes)) = some (some (.agg #[.int .i64 0, .int .i64 0, .int .i64 0, .int .i64 0, .int .i64 0, .int .i64 0, .int .i64 0, .int .i64 0, .int .i64 0]), 9, 72) := by kernel_rfl

theorem owns_set9 {w w3 : World} {base : Nat} {t : TypeId} {sz : Nat} {v : Value} {n : Nat} {xs : List Value} {G : Nat} (h : w.ownsRow base t sz v n xs) (hb : Below w.heap.size w w3) (hG : G < base) (sg : Num.Sg) : (set9 w3 G sg).ownsRow base t sz v n xs :=
  owns_of_block h fun b hbb => by
    obtain ⟨h1, h2⟩ := h.lt b hbb
    rw [set9_other _ _ _ (show b ≠ G by omega)]
    exact hb.block b h2

theorem walk_ctl {p : Int × Int × Int} {l : List (Int × Int × Int)} {g : Num.Sg} (h : (p.2.2 == 0) = false) : Num.walkL (p :: l) g = Num.walkL l (Num.addP g p) := by
  have : ¬ p.2.2 = 0 := by simpa using h
  simp only [Num.walkL, if_neg this]
theorem walk_on {p : Int × Int × Int} {l : List (Int × Int × Int)} {g : Num.Sg} (h : (p.2.2 == 0) = true) : Num.walkL (p :: l) g = Num.setTo g p :: Num.walkL l (Num.initS p) := by
  have : p.2.2 = 0 := by simpa using h
  simp only [Num.walkL, if_pos this]

end Go.Proofs.Ytkhcjkmifddlbaa
