/- Joined: Trc, Chk, ChkB, RefChk, RefSeg, HeldB, RingS. -/
import Derived.Test.YtkhcjkmifddlbaaPart6
import Derived.Test.YtkhcjkmifddlbaaPart2
import Derived.Test.YtkhcjkmifddlbaaPart1
import Derived.Test.YtkhcjkmifddlbaaPart3
import Derived.BigRegion
import Derived.Test.YtkhcjkmifddlbaaPart4
/- Trc -/
namespace Go.Proofs.Ytkhcjkmifddlbaa
open Go.RowKit Go.Deep

/-- The cells of a map; of a spot. -/
def mp6 (a b c d x y : Int) (q : Nat) : Value := [Value.int .i64 a, .int .i64 b, .int .i64 c, .int .i64 d, .int .i64 x, .int .i64 y][q]?.getD undef
theorem mp6_row (a b c d x y : Int) (w : World) (t : TypeId) : (w.alloc (.cells #[.int .i64 a, .int .i64 b, .int .i64 c, .int .i64 d, .int .i64 x, .int .i64 y] t)).rowIs w.heap.size t 6 (mp6 a b c d x y) := by
  refine World.rowIs_alloc w #[.int .i64 a, .int .i64 b, .int .i64 c, .int .i64 d, .int .i64 x, .int .i64 y] t (mp6 a b c d x y) (fun i hi => ?_)
  have hi : i < 6 := hi
  rcases (show i = 0 ∨ i = 1 ∨ i = 2 ∨ i = 3 ∨ i = 4 ∨ i = 5 by omega) with rfl | rfl | rfl | rfl | rfl | rfl <;> rfl
theorem mp6_cells {a b c d x y : Int} {w : World} {p : Nat} {t : TypeId} (h : w.rowIs p t 6 (mp6 a b c d x y)) :
    w.cell? ⟨p, 0, none⟩ = some (.int .i64 a) ∧ w.cell? ⟨p, 1, none⟩ = some (.int .i64 b) ∧ w.cell? ⟨p, 2, none⟩ = some (.int .i64 c) ∧ w.cell? ⟨p, 3, none⟩ = some (.int .i64 d) ∧ w.cell? ⟨p, 4, none⟩ = some (.int .i64 x) ∧ w.cell? ⟨p, 5, none⟩ = some (.int .i64 y) :=
  ⟨h.cell (i := 0) (by omega), h.cell (i := 1) (by omega), h.cell (i := 2) (by omega), h.cell (i := 3) (by omega), h.cell (i := 4) (by omega), h.cell (i := 5) (by omega)⟩
def tp2 (x y : Int) (q : Nat) : Value := [Value.int .i64 x, .int .i64 y][q]?.getD undef
theorem tp2_row (x y : Int) (w : World) (t : TypeId) : (w.alloc (.cells #[.int .i64 x, .int .i64 y] t)).rowIs w.heap.size t 2 (tp2 x y) := by
  refine World.rowIs_alloc w #[.int .i64 x, .int .i64 y] t (tp2 x y) (fun i hi => ?_)
  have hi : i < 2 := hi
  rcases (show i = 0 ∨ i = 1 by omega) with rfl | rfl <;> rfl
theorem tp2_cells {x y : Int} {w : World} {b : Nat} {t : TypeId} (h : w.rowIs b t 2 (tp2 x y)) : w.cell? ⟨b, 0, none⟩ = some (.int .i64 x) ∧ w.cell? ⟨b, 1, none⟩ = some (.int .i64 y) :=
  ⟨h.cell (i := 0) (by omega), h.cell (i := 1) (by omega)⟩
theorem set9sg {w : World} {b : Nat} {t : TypeId} {f : Nat → Value} (h : w.rowIs b t 9 f) (v0 v1 v2 v3 v4 v5 v6 v7 v8 : Int) :
    (((((((((w.setCell ⟨b, 0, none⟩ (.int .i64 v0)).setCell ⟨b, 1, none⟩ (.int .i64 v1)).setCell ⟨b, 2, none⟩ (.int .i64 v2)).setCell ⟨b, 3, none⟩ (.int .i64 v3)).setCell ⟨b, 4, none⟩ (.int .i64 v4)).setCell ⟨b, 5, none⟩ (.int .i64 v5)).setCell ⟨b, 6, none⟩ (.int .i64 v6)).setCell ⟨b, 7, none⟩ (.int .i64 v7)).setCell ⟨b, 8, none⟩ (.int .i64 v8)).rowIs b t 9 (sg9 v0 v1 v2 v3 v4 v5 v6 v7 v8) := by
  refine (((((((((h.set 0 _).set 1 _).set 2 _).set 3 _).set 4 _).set 5 _).set 6 _).set 7 _).set 8 _).congr fun q hq => ?_
  rcases (show q = 0 ∨ q = 1 ∨ q = 2 ∨ q = 3 ∨ q = 4 ∨ q = 5 ∨ q = 6 ∨ q = 7 ∨ q = 8 by omega) with rfl | rfl | rfl | rfl | rfl | rfl | rfl | rfl | rfl <;> rfl
theorem zero_frozen {w : World} {b : Nat} {t : TypeId} {f : Nat → Value} (h : w.rowIs b t 9 f) : w.frozen? ⟨b, 0, none⟩ = false ∧ w.frozen? ⟨b, 1, none⟩ = false ∧ w.frozen? ⟨b, 2, none⟩ = false ∧ w.frozen? ⟨b, 3, none⟩ = false ∧ w.frozen? ⟨b, 4, none⟩ = false ∧ w.frozen? ⟨b, 5, none⟩ = false ∧ w.frozen? ⟨b, 6, none⟩ = false ∧ w.frozen? ⟨b, 7, none⟩ = false ∧ w.frozen? ⟨b, 8, none⟩ = false :=
  ⟨h.frozen 0, h.frozen 1, h.frozen 2, h.frozen 3, h.frozen 4, h.frozen 5, h.frozen 6, h.frozen 7, h.frozen 8⟩

set_option maxRecDepth 100000 in
set_option maxHeartbeats 4000000 in
theorem segPut_any (k x0 y0 x1 y1 x2 y2 x3 y3 a b c d x y : Int) (w : World) :
    Calls Try.prog 150 #[.agg #[.int .i64 k, .int .i64 x0, .int .i64 y0, .int .i64 x1, .int .i64 y1, .int .i64 x2, .int .i64 y2, .int .i64 x3, .int .i64 y3], .agg #[.int .i64 a, .int .i64 b, .int .i64 c, .int .i64 d, .int .i64 x, .int .i64 y]] w fun e w' => e = .returned (.tuple #[.agg #[.int .i64 (Num.putG (⟨a, b, c, d, x, y⟩ : Num.Mp) (⟨k, x0, y0, x1, y1, x2, y2, x3, y3⟩ : Num.Sg)).k, .int .i64 (Num.putG (⟨a, b, c, d, x, y⟩ : Num.Mp) (⟨k, x0, y0, x1, y1, x2, y2, x3, y3⟩ : Num.Sg)).x0, .int .i64 (Num.putG (⟨a, b, c, d, x, y⟩ : Num.Mp) (⟨k, x0, y0, x1, y1, x2, y2, x3, y3⟩ : Num.Sg)).y0, .int .i64 (Num.putG (⟨a, b, c, d, x, y⟩ : Num.Mp) (⟨k, x0, y0, x1, y1, x2, y2, x3, y3⟩ : Num.Sg)).x1, .int .i64 (Num.putG (⟨a, b, c, d, x, y⟩ : Num.Mp) (⟨k, x0, y0, x1, y1, x2, y2, x3, y3⟩ : Num.Sg)).y1, .int .i64 (Num.putG (⟨a, b, c, d, x, y⟩ : Num.Mp) (⟨k, x0, y0, x1, y1, x2, y2, x3, y3⟩ : Num.Sg)).x2, .int .i64 (Num.putG (⟨a, b, c, d, x, y⟩ : Num.Mp) (⟨k, x0, y0, x1, y1, x2, y2, x3, y3⟩ : Num.Sg)).y2, .int .i64 (Num.putG (⟨a, b, c, d, x, y⟩ : Num.Mp) (⟨k, x0, y0, x1, y1, x2, y2, x3, y3⟩ : Num.Sg)).x3, .int .i64 (Num.putG (⟨a, b, c, d, x, y⟩ : Num.Mp) (⟨k, x0, y0, x1, y1, x2, y2, x3, y3⟩ : Num.Sg)).y3], .int .i64 (Num.putE (⟨a, b, c, d, x, y⟩ : Num.Mp) (⟨k, x0, y0, x1, y1, x2, y2, x3, y3⟩ : Num.Sg))]) ∧ Below w.heap.size w w' := by
  obtain ⟨Q0, hQ0⟩ : ∃ Q, Q = Num.placeV a b c d x y x0 y0 := ⟨_, rfl⟩
  obtain ⟨Q1, hQ1⟩ : ∃ Q, Q = Num.placeV a b c d x y x1 y1 := ⟨_, rfl⟩
  obtain ⟨Q2, hQ2⟩ : ∃ Q, Q = Num.placeV a b c d x y x2 y2 := ⟨_, rfl⟩
  obtain ⟨Q3, hQ3⟩ : ∃ Q, Q = Num.placeV a b c d x y x3 y3 := ⟨_, rfl⟩
  have HOk : Hid (Num.putOk (⟨a, b, c, d, x, y⟩ : Num.Mp) (⟨k, x0, y0, x1, y1, x2, y2, x3, y3⟩ : Num.Sg) = (Q0.2.2 == 0 && Q1.2.2 == 0 && Q2.2.2 == 0 && Q3.2.2 == 0)) := by unfold Hid; rw [hQ0, hQ1, hQ2, hQ3]; rfl
  have HVv : Hid (Num.putV (⟨a, b, c, d, x, y⟩ : Num.Mp) (⟨k, x0, y0, x1, y1, x2, y2, x3, y3⟩ : Num.Sg) = ⟨k, Q0.1, Q0.2.1, Q1.1, Q1.2.1, Q2.1, Q2.2.1, Q3.1, Q3.2.1⟩) := by unfold Hid; rw [hQ0, hQ1, hQ2, hQ3]; rfl
  have HNo : Hid (Num.putOk (⟨a, b, c, d, x, y⟩ : Num.Mp) (⟨k, x0, y0, x1, y1, x2, y2, x3, y3⟩ : Num.Sg) = false → Num.putG (⟨a, b, c, d, x, y⟩ : Num.Mp) (⟨k, x0, y0, x1, y1, x2, y2, x3, y3⟩ : Num.Sg) = ⟨0, 0, 0, 0, 0, 0, 0, 0, 0⟩ ∧ Num.putE (⟨a, b, c, d, x, y⟩ : Num.Mp) (⟨k, x0, y0, x1, y1, x2, y2, x3, y3⟩ : Num.Sg) = 6) := fun h => by unfold Num.putG Num.putE; rw [h]; exact ⟨rfl, rfl⟩
  have HYe : Hid (Num.putOk (⟨a, b, c, d, x, y⟩ : Num.Mp) (⟨k, x0, y0, x1, y1, x2, y2, x3, y3⟩ : Num.Sg) = true → Num.putG (⟨a, b, c, d, x, y⟩ : Num.Mp) (⟨k, x0, y0, x1, y1, x2, y2, x3, y3⟩ : Num.Sg) = Num.putV (⟨a, b, c, d, x, y⟩ : Num.Mp) (⟨k, x0, y0, x1, y1, x2, y2, x3, y3⟩ : Num.Sg) ∧ Num.putE (⟨a, b, c, d, x, y⟩ : Num.Mp) (⟨k, x0, y0, x1, y1, x2, y2, x3, y3⟩ : Num.Sg) = 0) := fun h => by unfold Num.putG Num.putE; rw [h]; exact ⟨rfl, rfl⟩
  obtain ⟨PG, hPG⟩ : ∃ PG, PG = Num.putG (⟨a, b, c, d, x, y⟩ : Num.Mp) (⟨k, x0, y0, x1, y1, x2, y2, x3, y3⟩ : Num.Sg) := ⟨_, rfl⟩
  obtain ⟨PE, hPE⟩ : ∃ PE, PE = Num.putE (⟨a, b, c, d, x, y⟩ : Num.Mp) (⟨k, x0, y0, x1, y1, x2, y2, x3, y3⟩ : Num.Sg) := ⟨_, rfl⟩
  rw [← hPG, ← hPE] at HNo HYe ⊢
  rw [HOk.out] at HNo HYe
  rw [HVv.out] at HYe
  have HQ0 := hide hQ0
  have HQ1 := hide hQ1
  have HQ2 := hide hQ2
  have HQ3 := hide hQ3
  clear hQ0 hQ1 hQ2 hQ3 hPG hPE HOk HVv
  have HR0 := hide (sg9_row k x0 y0 x1 y1 x2 y2 x3 y3 w 44)
  have HM0 : Hid (((w.alloc (.cells #[.int .i64 k, .int .i64 x0, .int .i64 y0, .int .i64 x1, .int .i64 y1, .int .i64 x2, .int .i64 y2, .int .i64 x3, .int .i64 y3] 44)).alloc (.cells #[.int .i64 a, .int .i64 b, .int .i64 c, .int .i64 d, .int .i64 x, .int .i64 y] 39)).rowIs (w.heap.size + 1) 39 6 (mp6 a b c d x y)) := by
    have h := mp6_row a b c d x y (w.alloc (.cells #[.int .i64 k, .int .i64 x0, .int .i64 y0, .int .i64 x1, .int .i64 y1, .int .i64 x2, .int .i64 y2, .int .i64 x3, .int .i64 y3] 44)) 39
    rw [nblk_alloc] at h
    exact h
  have HZ0 : Hid ((((w.alloc (.cells #[.int .i64 k, .int .i64 x0, .int .i64 y0, .int .i64 x1, .int .i64 y1, .int .i64 x2, .int .i64 y2, .int .i64 x3, .int .i64 y3] 44)).alloc (.cells #[.int .i64 a, .int .i64 b, .int .i64 c, .int .i64 d, .int .i64 x, .int .i64 y] 39)).alloc (.cells #[.int .i64 0, .int .i64 0, .int .i64 0, .int .i64 0, .int .i64 0, .int .i64 0, .int .i64 0, .int .i64 0, .int .i64 0] 44)).rowIs (w.heap.size + 1 + 1) 44 9 (sg9 0 0 0 0 0 0 0 0 0)) := by
    have h := sg9_row 0 0 0 0 0 0 0 0 0 ((w.alloc (.cells #[.int .i64 k, .int .i64 x0, .int .i64 y0, .int .i64 x1, .int .i64 y1, .int .i64 x2, .int .i64 y2, .int .i64 x3, .int .i64 y3] 44)).alloc (.cells #[.int .i64 a, .int .i64 b, .int .i64 c, .int .i64 d, .int .i64 x, .int .i64 y] 39)) 44
    rw [nblk_alloc, nblk_alloc] at h
    exact h
  go_enter Try.func150, Try.ntmps150
  go_wp2_with fail
  refine (place_any _ _ _ _ _ _ _ _ _).mono ?_
  rw [← HQ0.out]
  rintro e w1 ⟨rfl, hb⟩
  have hz1 : w.heap.size + 1 + 1 < w1.heap.size := by have := hb.size; simp at this; omega
  have HR1 := hide (row_below ((HR0.out.alloc _).alloc _) hb (by simp; omega))
  have HM1 := hide (row_below (HM0.out.alloc _) hb (by simp))
  have HZ1 := hide (row_below HZ0.out hb (by simp))
  have HB1 : Hid (Below w.heap.size w w1) := Below.trans (by (repeat (any_goals (first | exact Below.refl _ _ | assumption | refine Below.drew ?_ | refine below_drewN ?_ _ | refine Below.setCell ?_ ?_ _ | refine Below.alloc ?_ ?_ _ | omega | (simp; done) | (simp; omega))))) (hb.mono (by simp; omega))
  have ya1 : w.heap.size < w1.heap.size := by omega
  have yb1 : w.heap.size + 1 < w1.heap.size := by omega
  have yc1 : w.heap.size + 1 + 1 < w1.heap.size := by omega
  clear hb
  obtain ⟨c0, c1, c2, c3, c4, c5, c6, c7, c8⟩ := sg9_cells HR1.out
  obtain ⟨d0, d1, d2, d3, d4, d5⟩ := mp6_cells HM1.out
  go_wp2_with fail
  clear c0 c1 c2 c3 c4 c5 c6 c7 c8 d0 d1 d2 d3 d4 d5
  refine (place_any _ _ _ _ _ _ _ _ _).mono ?_
  rw [← HQ1.out]
  rintro e w2 ⟨rfl, hb⟩
  have hz2 : w1.heap.size < w2.heap.size := by have := hb.size; simp at this; omega
  have HR2 := hide (row_below (HR1.out.alloc (.cells #[.int .i64 Q0.1, .int .i64 Q0.2.1] 41)) hb (by simp; omega))
  have HM2 := hide (row_below (HM1.out.alloc (.cells #[.int .i64 Q0.1, .int .i64 Q0.2.1] 41)) hb (by simp; omega))
  have HZ2 := hide (row_below (HZ1.out.alloc (.cells #[.int .i64 Q0.1, .int .i64 Q0.2.1] 41)) hb (by simp; omega))
  have HB2 : Hid (Below w.heap.size w w2) := HB1.out.trans (((Below.refl _ _).alloc (Nat.le_refl _) (.cells #[.int .i64 Q0.1, .int .i64 Q0.2.1] 41)).trans (hb.mono (by simp)) |>.mono (by omega))
  have HS1_2 := hide (row_below (tp2_row Q0.1 Q0.2.1 w1 41) hb (by simp))
  have ya2 : w.heap.size < w2.heap.size := by omega
  have yb2 : w.heap.size + 1 < w2.heap.size := by omega
  have yc2 : w.heap.size + 1 + 1 < w2.heap.size := by omega
  clear hb
  obtain ⟨c0, c1, c2, c3, c4, c5, c6, c7, c8⟩ := sg9_cells HR2.out
  obtain ⟨d0, d1, d2, d3, d4, d5⟩ := mp6_cells HM2.out
  go_wp2_with fail
  clear c0 c1 c2 c3 c4 c5 c6 c7 c8 d0 d1 d2 d3 d4 d5
  refine (place_any _ _ _ _ _ _ _ _ _).mono ?_
  rw [← HQ2.out]
  rintro e w3 ⟨rfl, hb⟩
  have hz3 : w2.heap.size < w3.heap.size := by have := hb.size; simp at this; omega
  have HR3 := hide (row_below (HR2.out.alloc (.cells #[.int .i64 Q1.1, .int .i64 Q1.2.1] 41)) hb (by simp; omega))
  have HM3 := hide (row_below (HM2.out.alloc (.cells #[.int .i64 Q1.1, .int .i64 Q1.2.1] 41)) hb (by simp; omega))
  have HZ3 := hide (row_below (HZ2.out.alloc (.cells #[.int .i64 Q1.1, .int .i64 Q1.2.1] 41)) hb (by simp; omega))
  have HB3 : Hid (Below w.heap.size w w3) := HB2.out.trans (((Below.refl _ _).alloc (Nat.le_refl _) (.cells #[.int .i64 Q1.1, .int .i64 Q1.2.1] 41)).trans (hb.mono (by simp)) |>.mono (by omega))
  have HS1_3 := hide (row_below (HS1_2.out.alloc (.cells #[.int .i64 Q1.1, .int .i64 Q1.2.1] 41)) hb (by simp; omega))
  have HS2_3 := hide (row_below (tp2_row Q1.1 Q1.2.1 w2 41) hb (by simp))
  have ya3 : w.heap.size < w3.heap.size := by omega
  have yb3 : w.heap.size + 1 < w3.heap.size := by omega
  have yc3 : w.heap.size + 1 + 1 < w3.heap.size := by omega
  have yd1_3 : w1.heap.size < w3.heap.size := by omega
  clear hb
  obtain ⟨c0, c1, c2, c3, c4, c5, c6, c7, c8⟩ := sg9_cells HR3.out
  obtain ⟨d0, d1, d2, d3, d4, d5⟩ := mp6_cells HM3.out
  go_wp2_with fail
  clear c0 c1 c2 c3 c4 c5 c6 c7 c8 d0 d1 d2 d3 d4 d5
  refine (place_any _ _ _ _ _ _ _ _ _).mono ?_
  rw [← HQ3.out]
  rintro e w4 ⟨rfl, hb⟩
  have hz4 : w3.heap.size < w4.heap.size := by have := hb.size; simp at this; omega
  have HR4 := hide (row_below (HR3.out.alloc (.cells #[.int .i64 Q2.1, .int .i64 Q2.2.1] 41)) hb (by simp; omega))
  have HM4 := hide (row_below (HM3.out.alloc (.cells #[.int .i64 Q2.1, .int .i64 Q2.2.1] 41)) hb (by simp; omega))
  have HZ4 := hide (row_below (HZ3.out.alloc (.cells #[.int .i64 Q2.1, .int .i64 Q2.2.1] 41)) hb (by simp; omega))
  have HB4 : Hid (Below w.heap.size w w4) := HB3.out.trans (((Below.refl _ _).alloc (Nat.le_refl _) (.cells #[.int .i64 Q2.1, .int .i64 Q2.2.1] 41)).trans (hb.mono (by simp)) |>.mono (by omega))
  have HS1_4 := hide (row_below (HS1_3.out.alloc (.cells #[.int .i64 Q2.1, .int .i64 Q2.2.1] 41)) hb (by simp; omega))
  have HS2_4 := hide (row_below (HS2_3.out.alloc (.cells #[.int .i64 Q2.1, .int .i64 Q2.2.1] 41)) hb (by simp; omega))
  have HS3_4 := hide (row_below (tp2_row Q2.1 Q2.2.1 w3 41) hb (by simp))
  have ya4 : w.heap.size < w4.heap.size := by omega
  have yb4 : w.heap.size + 1 < w4.heap.size := by omega
  have yc4 : w.heap.size + 1 + 1 < w4.heap.size := by omega
  have yd1_4 : w1.heap.size < w4.heap.size := by omega
  have yd2_4 : w2.heap.size < w4.heap.size := by omega
  clear hb
  obtain ⟨c0, c1, c2, c3, c4, c5, c6, c7, c8⟩ := sg9_cells HR4.out
  obtain ⟨r0, r1, r2, r3, r4, r5, r6, r7, r8⟩ := sg9_cells HZ4.out
  obtain ⟨z0, z1, z2, z3, z4, z5, z6, z7, z8⟩ := zero_frozen HZ4.out
  obtain ⟨s10, s11⟩ := tp2_cells HS1_4.out
  obtain ⟨s20, s21⟩ := tp2_cells HS2_4.out
  obtain ⟨s30, s31⟩ := tp2_cells HS3_4.out
  by_cases h0 : Q0.2.2 = 0
  case neg =>
    obtain ⟨rfl, rfl⟩ := HNo.out (by simp [h0])
    have t0 : (Q0.2.2 != 0) = true := by simpa using h0
    clear h0 HYe HNo
    go_wp2
    obtain ⟨wF, hwF⟩ : ∃ wF, wF = (((((((((w4.setCell ⟨w.heap.size + 1 + 1, 0, none⟩ (.int .i64 0)).setCell ⟨w.heap.size + 1 + 1, 1, none⟩ (.int .i64 0)).setCell ⟨w.heap.size + 1 + 1, 2, none⟩ (.int .i64 0)).setCell ⟨w.heap.size + 1 + 1, 3, none⟩ (.int .i64 0)).setCell ⟨w.heap.size + 1 + 1, 4, none⟩ (.int .i64 0)).setCell ⟨w.heap.size + 1 + 1, 5, none⟩ (.int .i64 0)).setCell ⟨w.heap.size + 1 + 1, 6, none⟩ (.int .i64 0)).setCell ⟨w.heap.size + 1 + 1, 7, none⟩ (.int .i64 0)).setCell ⟨w.heap.size + 1 + 1, 8, none⟩ (.int .i64 0)).alloc (.cells #[.int .i64 Q3.1, .int .i64 Q3.2.1] 41) := ⟨_, rfl⟩
    rw [← hwF]
    have hRF : wF.rowIs (w.heap.size + 1 + 1) 44 9 (sg9 0 0 0 0 0 0 0 0 0) := by rw [hwF]; exact (set9sg HZ4.out 0 0 0 0 0 0 0 0 0).alloc _
    have hp : ∀ q : Nat, w.heap.size ≤ (⟨w.heap.size + 1 + 1, q, none⟩ : Addr).block := fun q => by show w.heap.size ≤ w.heap.size + 1 + 1; omega
    have hBF : Below w.heap.size w wF := by rw [hwF]; exact (((((((((HB4.out.setCell (hp 0) _).setCell (hp 1) _).setCell (hp 2) _).setCell (hp 3) _).setCell (hp 4) _).setCell (hp 5) _).setCell (hp 6) _).setCell (hp 7) _).setCell (hp 8) _).alloc (by simp; omega) _
    obtain ⟨g0, g1, g2, g3, g4, g5, g6, g7, g8⟩ := sg9_cells hRF
    exact bodyPost_ret (v := .tuple #[.agg #[.int .i64 0, .int .i64 0, .int .i64 0, .int .i64 0, .int .i64 0, .int .i64 0, .int .i64 0, .int .i64 0, .int .i64 0], .int .i64 6]) (by simp [results, Try.results150, go_sem, g0, g1, g2, g3, g4, g5, g6, g7, g8]) rfl ⟨rfl, hBF⟩
  by_cases h1 : Q1.2.2 = 0
  case neg =>
    obtain ⟨rfl, rfl⟩ := HNo.out (by simp [h0, h1])
    have t1 : (Q1.2.2 != 0) = true := by simpa using h1
    have t0 : (Q0.2.2 != 0) = false := by simpa using h0
    clear h0 h1 HYe HNo
    go_wp2
    obtain ⟨wF, hwF⟩ : ∃ wF, wF = (((((((((w4.setCell ⟨w.heap.size + 1 + 1, 0, none⟩ (.int .i64 0)).setCell ⟨w.heap.size + 1 + 1, 1, none⟩ (.int .i64 0)).setCell ⟨w.heap.size + 1 + 1, 2, none⟩ (.int .i64 0)).setCell ⟨w.heap.size + 1 + 1, 3, none⟩ (.int .i64 0)).setCell ⟨w.heap.size + 1 + 1, 4, none⟩ (.int .i64 0)).setCell ⟨w.heap.size + 1 + 1, 5, none⟩ (.int .i64 0)).setCell ⟨w.heap.size + 1 + 1, 6, none⟩ (.int .i64 0)).setCell ⟨w.heap.size + 1 + 1, 7, none⟩ (.int .i64 0)).setCell ⟨w.heap.size + 1 + 1, 8, none⟩ (.int .i64 0)).alloc (.cells #[.int .i64 Q3.1, .int .i64 Q3.2.1] 41) := ⟨_, rfl⟩
    rw [← hwF]
    have hRF : wF.rowIs (w.heap.size + 1 + 1) 44 9 (sg9 0 0 0 0 0 0 0 0 0) := by rw [hwF]; exact (set9sg HZ4.out 0 0 0 0 0 0 0 0 0).alloc _
    have hp : ∀ q : Nat, w.heap.size ≤ (⟨w.heap.size + 1 + 1, q, none⟩ : Addr).block := fun q => by show w.heap.size ≤ w.heap.size + 1 + 1; omega
    have hBF : Below w.heap.size w wF := by rw [hwF]; exact (((((((((HB4.out.setCell (hp 0) _).setCell (hp 1) _).setCell (hp 2) _).setCell (hp 3) _).setCell (hp 4) _).setCell (hp 5) _).setCell (hp 6) _).setCell (hp 7) _).setCell (hp 8) _).alloc (by simp; omega) _
    obtain ⟨g0, g1, g2, g3, g4, g5, g6, g7, g8⟩ := sg9_cells hRF
    exact bodyPost_ret (v := .tuple #[.agg #[.int .i64 0, .int .i64 0, .int .i64 0, .int .i64 0, .int .i64 0, .int .i64 0, .int .i64 0, .int .i64 0, .int .i64 0], .int .i64 6]) (by simp [results, Try.results150, go_sem, g0, g1, g2, g3, g4, g5, g6, g7, g8]) rfl ⟨rfl, hBF⟩
  by_cases h2 : Q2.2.2 = 0
  case neg =>
    obtain ⟨rfl, rfl⟩ := HNo.out (by simp [h0, h1, h2])
    have t2 : (Q2.2.2 != 0) = true := by simpa using h2
    have t0 : (Q0.2.2 != 0) = false := by simpa using h0
    have t1 : (Q1.2.2 != 0) = false := by simpa using h1
    clear h0 h1 h2 HYe HNo
    go_wp2
    obtain ⟨wF, hwF⟩ : ∃ wF, wF = (((((((((w4.setCell ⟨w.heap.size + 1 + 1, 0, none⟩ (.int .i64 0)).setCell ⟨w.heap.size + 1 + 1, 1, none⟩ (.int .i64 0)).setCell ⟨w.heap.size + 1 + 1, 2, none⟩ (.int .i64 0)).setCell ⟨w.heap.size + 1 + 1, 3, none⟩ (.int .i64 0)).setCell ⟨w.heap.size + 1 + 1, 4, none⟩ (.int .i64 0)).setCell ⟨w.heap.size + 1 + 1, 5, none⟩ (.int .i64 0)).setCell ⟨w.heap.size + 1 + 1, 6, none⟩ (.int .i64 0)).setCell ⟨w.heap.size + 1 + 1, 7, none⟩ (.int .i64 0)).setCell ⟨w.heap.size + 1 + 1, 8, none⟩ (.int .i64 0)).alloc (.cells #[.int .i64 Q3.1, .int .i64 Q3.2.1] 41) := ⟨_, rfl⟩
    rw [← hwF]
    have hRF : wF.rowIs (w.heap.size + 1 + 1) 44 9 (sg9 0 0 0 0 0 0 0 0 0) := by rw [hwF]; exact (set9sg HZ4.out 0 0 0 0 0 0 0 0 0).alloc _
    have hp : ∀ q : Nat, w.heap.size ≤ (⟨w.heap.size + 1 + 1, q, none⟩ : Addr).block := fun q => by show w.heap.size ≤ w.heap.size + 1 + 1; omega
    have hBF : Below w.heap.size w wF := by rw [hwF]; exact (((((((((HB4.out.setCell (hp 0) _).setCell (hp 1) _).setCell (hp 2) _).setCell (hp 3) _).setCell (hp 4) _).setCell (hp 5) _).setCell (hp 6) _).setCell (hp 7) _).setCell (hp 8) _).alloc (by simp; omega) _
    obtain ⟨g0, g1, g2, g3, g4, g5, g6, g7, g8⟩ := sg9_cells hRF
    exact bodyPost_ret (v := .tuple #[.agg #[.int .i64 0, .int .i64 0, .int .i64 0, .int .i64 0, .int .i64 0, .int .i64 0, .int .i64 0, .int .i64 0, .int .i64 0], .int .i64 6]) (by simp [results, Try.results150, go_sem, g0, g1, g2, g3, g4, g5, g6, g7, g8]) rfl ⟨rfl, hBF⟩
  by_cases h3 : Q3.2.2 = 0
  case neg =>
    obtain ⟨rfl, rfl⟩ := HNo.out (by simp [h0, h1, h2, h3])
    have t3 : (Q3.2.2 != 0) = true := by simpa using h3
    have t0 : (Q0.2.2 != 0) = false := by simpa using h0
    have t1 : (Q1.2.2 != 0) = false := by simpa using h1
    have t2 : (Q2.2.2 != 0) = false := by simpa using h2
    clear h0 h1 h2 h3 HYe HNo
    go_wp2
    obtain ⟨wF, hwF⟩ : ∃ wF, wF = (((((((((w4.setCell ⟨w.heap.size + 1 + 1, 0, none⟩ (.int .i64 0)).setCell ⟨w.heap.size + 1 + 1, 1, none⟩ (.int .i64 0)).setCell ⟨w.heap.size + 1 + 1, 2, none⟩ (.int .i64 0)).setCell ⟨w.heap.size + 1 + 1, 3, none⟩ (.int .i64 0)).setCell ⟨w.heap.size + 1 + 1, 4, none⟩ (.int .i64 0)).setCell ⟨w.heap.size + 1 + 1, 5, none⟩ (.int .i64 0)).setCell ⟨w.heap.size + 1 + 1, 6, none⟩ (.int .i64 0)).setCell ⟨w.heap.size + 1 + 1, 7, none⟩ (.int .i64 0)).setCell ⟨w.heap.size + 1 + 1, 8, none⟩ (.int .i64 0)).alloc (.cells #[.int .i64 Q3.1, .int .i64 Q3.2.1] 41) := ⟨_, rfl⟩
    rw [← hwF]
    have hRF : wF.rowIs (w.heap.size + 1 + 1) 44 9 (sg9 0 0 0 0 0 0 0 0 0) := by rw [hwF]; exact (set9sg HZ4.out 0 0 0 0 0 0 0 0 0).alloc _
    have hp : ∀ q : Nat, w.heap.size ≤ (⟨w.heap.size + 1 + 1, q, none⟩ : Addr).block := fun q => by show w.heap.size ≤ w.heap.size + 1 + 1; omega
    have hBF : Below w.heap.size w wF := by rw [hwF]; exact (((((((((HB4.out.setCell (hp 0) _).setCell (hp 1) _).setCell (hp 2) _).setCell (hp 3) _).setCell (hp 4) _).setCell (hp 5) _).setCell (hp 6) _).setCell (hp 7) _).setCell (hp 8) _).alloc (by simp; omega) _
    obtain ⟨g0, g1, g2, g3, g4, g5, g6, g7, g8⟩ := sg9_cells hRF
    exact bodyPost_ret (v := .tuple #[.agg #[.int .i64 0, .int .i64 0, .int .i64 0, .int .i64 0, .int .i64 0, .int .i64 0, .int .i64 0, .int .i64 0, .int .i64 0], .int .i64 6]) (by simp [results, Try.results150, go_sem, g0, g1, g2, g3, g4, g5, g6, g7, g8]) rfl ⟨rfl, hBF⟩
  · obtain ⟨rfl, rfl⟩ := HYe.out (by simp [h0, h1, h2, h3])
    have t0 : (Q0.2.2 != 0) = false := by simpa using h0
    have t1 : (Q1.2.2 != 0) = false := by simpa using h1
    have t2 : (Q2.2.2 != 0) = false := by simpa using h2
    have t3 : (Q3.2.2 != 0) = false := by simpa using h3
    clear h0 h1 h2 h3 HYe HNo
    go_wp2
    obtain ⟨wF, hwF⟩ : ∃ wF, wF = (((((((((w4.setCell ⟨w.heap.size + 1 + 1, 0, none⟩ (.int .i64 k)).setCell ⟨w.heap.size + 1 + 1, 1, none⟩ (.int .i64 Q0.1)).setCell ⟨w.heap.size + 1 + 1, 2, none⟩ (.int .i64 Q0.2.1)).setCell ⟨w.heap.size + 1 + 1, 3, none⟩ (.int .i64 Q1.1)).setCell ⟨w.heap.size + 1 + 1, 4, none⟩ (.int .i64 Q1.2.1)).setCell ⟨w.heap.size + 1 + 1, 5, none⟩ (.int .i64 Q2.1)).setCell ⟨w.heap.size + 1 + 1, 6, none⟩ (.int .i64 Q2.2.1)).setCell ⟨w.heap.size + 1 + 1, 7, none⟩ (.int .i64 Q3.1)).setCell ⟨w.heap.size + 1 + 1, 8, none⟩ (.int .i64 Q3.2.1)).alloc (.cells #[.int .i64 Q3.1, .int .i64 Q3.2.1] 41) := ⟨_, rfl⟩
    rw [← hwF]
    have hRF : wF.rowIs (w.heap.size + 1 + 1) 44 9 (sg9 k Q0.1 Q0.2.1 Q1.1 Q1.2.1 Q2.1 Q2.2.1 Q3.1 Q3.2.1) := by rw [hwF]; exact (set9sg HZ4.out k Q0.1 Q0.2.1 Q1.1 Q1.2.1 Q2.1 Q2.2.1 Q3.1 Q3.2.1).alloc _
    have hp : ∀ q : Nat, w.heap.size ≤ (⟨w.heap.size + 1 + 1, q, none⟩ : Addr).block := fun q => by show w.heap.size ≤ w.heap.size + 1 + 1; omega
    have hBF : Below w.heap.size w wF := by rw [hwF]; exact (((((((((HB4.out.setCell (hp 0) _).setCell (hp 1) _).setCell (hp 2) _).setCell (hp 3) _).setCell (hp 4) _).setCell (hp 5) _).setCell (hp 6) _).setCell (hp 7) _).setCell (hp 8) _).alloc (by simp; omega) _
    obtain ⟨g0, g1, g2, g3, g4, g5, g6, g7, g8⟩ := sg9_cells hRF
    exact bodyPost_ret (v := .tuple #[.agg #[.int .i64 k, .int .i64 Q0.1, .int .i64 Q0.2.1, .int .i64 Q1.1, .int .i64 Q1.2.1, .int .i64 Q2.1, .int .i64 Q2.2.1, .int .i64 Q3.1, .int .i64 Q3.2.1], .int .i64 0]) (by simp [results, Try.results150, go_sem, g0, g1, g2, g3, g4, g5, g6, g7, g8]) rfl ⟨rfl, hBF⟩

set_option maxRecDepth 100000 in
set_option maxHeartbeats 4000000 in
theorem put_any (k x0 y0 x1 y1 x2 y2 x3 y3 a b c d x y : Int) (w : World) :
    Calls Try.prog 101 #[.agg #[.int .i64 k, .int .i64 x0, .int .i64 y0, .int .i64 x1, .int .i64 y1, .int .i64 x2, .int .i64 y2, .int .i64 x3, .int .i64 y3], .agg #[.int .i64 a, .int .i64 b, .int .i64 c, .int .i64 d, .int .i64 x, .int .i64 y]] w fun e w' => e = .returned (.tuple #[.agg #[.int .i64 (Num.putG (⟨a, b, c, d, x, y⟩ : Num.Mp) (⟨k, x0, y0, x1, y1, x2, y2, x3, y3⟩ : Num.Sg)).k, .int .i64 (Num.putG (⟨a, b, c, d, x, y⟩ : Num.Mp) (⟨k, x0, y0, x1, y1, x2, y2, x3, y3⟩ : Num.Sg)).x0, .int .i64 (Num.putG (⟨a, b, c, d, x, y⟩ : Num.Mp) (⟨k, x0, y0, x1, y1, x2, y2, x3, y3⟩ : Num.Sg)).y0, .int .i64 (Num.putG (⟨a, b, c, d, x, y⟩ : Num.Mp) (⟨k, x0, y0, x1, y1, x2, y2, x3, y3⟩ : Num.Sg)).x1, .int .i64 (Num.putG (⟨a, b, c, d, x, y⟩ : Num.Mp) (⟨k, x0, y0, x1, y1, x2, y2, x3, y3⟩ : Num.Sg)).y1, .int .i64 (Num.putG (⟨a, b, c, d, x, y⟩ : Num.Mp) (⟨k, x0, y0, x1, y1, x2, y2, x3, y3⟩ : Num.Sg)).x2, .int .i64 (Num.putG (⟨a, b, c, d, x, y⟩ : Num.Mp) (⟨k, x0, y0, x1, y1, x2, y2, x3, y3⟩ : Num.Sg)).y2, .int .i64 (Num.putG (⟨a, b, c, d, x, y⟩ : Num.Mp) (⟨k, x0, y0, x1, y1, x2, y2, x3, y3⟩ : Num.Sg)).x3, .int .i64 (Num.putG (⟨a, b, c, d, x, y⟩ : Num.Mp) (⟨k, x0, y0, x1, y1, x2, y2, x3, y3⟩ : Num.Sg)).y3], .int .i64 (Num.putE (⟨a, b, c, d, x, y⟩ : Num.Mp) (⟨k, x0, y0, x1, y1, x2, y2, x3, y3⟩ : Num.Sg))]) ∧ Below w.heap.size w w' := by
  obtain ⟨Q0, hQ0⟩ : ∃ Q, Q = Num.placeV a b c d x y x0 y0 := ⟨_, rfl⟩
  obtain ⟨Q1, hQ1⟩ : ∃ Q, Q = Num.placeV a b c d x y x1 y1 := ⟨_, rfl⟩
  obtain ⟨Q2, hQ2⟩ : ∃ Q, Q = Num.placeV a b c d x y x2 y2 := ⟨_, rfl⟩
  obtain ⟨Q3, hQ3⟩ : ∃ Q, Q = Num.placeV a b c d x y x3 y3 := ⟨_, rfl⟩
  have HOk : Hid (Num.putOk (⟨a, b, c, d, x, y⟩ : Num.Mp) (⟨k, x0, y0, x1, y1, x2, y2, x3, y3⟩ : Num.Sg) = (Q0.2.2 == 0 && Q1.2.2 == 0 && Q2.2.2 == 0 && Q3.2.2 == 0)) := by unfold Hid; rw [hQ0, hQ1, hQ2, hQ3]; rfl
  have HVv : Hid (Num.putV (⟨a, b, c, d, x, y⟩ : Num.Mp) (⟨k, x0, y0, x1, y1, x2, y2, x3, y3⟩ : Num.Sg) = ⟨k, Q0.1, Q0.2.1, Q1.1, Q1.2.1, Q2.1, Q2.2.1, Q3.1, Q3.2.1⟩) := by unfold Hid; rw [hQ0, hQ1, hQ2, hQ3]; rfl
  have HNo : Hid (Num.putOk (⟨a, b, c, d, x, y⟩ : Num.Mp) (⟨k, x0, y0, x1, y1, x2, y2, x3, y3⟩ : Num.Sg) = false → Num.putG (⟨a, b, c, d, x, y⟩ : Num.Mp) (⟨k, x0, y0, x1, y1, x2, y2, x3, y3⟩ : Num.Sg) = ⟨0, 0, 0, 0, 0, 0, 0, 0, 0⟩ ∧ Num.putE (⟨a, b, c, d, x, y⟩ : Num.Mp) (⟨k, x0, y0, x1, y1, x2, y2, x3, y3⟩ : Num.Sg) = 6) := fun h => by unfold Num.putG Num.putE; rw [h]; exact ⟨rfl, rfl⟩
  have HYe : Hid (Num.putOk (⟨a, b, c, d, x, y⟩ : Num.Mp) (⟨k, x0, y0, x1, y1, x2, y2, x3, y3⟩ : Num.Sg) = true → Num.putG (⟨a, b, c, d, x, y⟩ : Num.Mp) (⟨k, x0, y0, x1, y1, x2, y2, x3, y3⟩ : Num.Sg) = Num.putV (⟨a, b, c, d, x, y⟩ : Num.Mp) (⟨k, x0, y0, x1, y1, x2, y2, x3, y3⟩ : Num.Sg) ∧ Num.putE (⟨a, b, c, d, x, y⟩ : Num.Mp) (⟨k, x0, y0, x1, y1, x2, y2, x3, y3⟩ : Num.Sg) = 0) := fun h => by unfold Num.putG Num.putE; rw [h]; exact ⟨rfl, rfl⟩
  obtain ⟨PG, hPG⟩ : ∃ PG, PG = Num.putG (⟨a, b, c, d, x, y⟩ : Num.Mp) (⟨k, x0, y0, x1, y1, x2, y2, x3, y3⟩ : Num.Sg) := ⟨_, rfl⟩
  obtain ⟨PE, hPE⟩ : ∃ PE, PE = Num.putE (⟨a, b, c, d, x, y⟩ : Num.Mp) (⟨k, x0, y0, x1, y1, x2, y2, x3, y3⟩ : Num.Sg) := ⟨_, rfl⟩
  rw [← hPG, ← hPE] at HNo HYe ⊢
  rw [HOk.out] at HNo HYe
  rw [HVv.out] at HYe
  have HQ0 := hide hQ0
  have HQ1 := hide hQ1
  have HQ2 := hide hQ2
  have HQ3 := hide hQ3
  clear hQ0 hQ1 hQ2 hQ3 hPG hPE HOk HVv
  have HR0 := hide (sg9_row k x0 y0 x1 y1 x2 y2 x3 y3 w 44)
  have HM0 : Hid (((w.alloc (.cells #[.int .i64 k, .int .i64 x0, .int .i64 y0, .int .i64 x1, .int .i64 y1, .int .i64 x2, .int .i64 y2, .int .i64 x3, .int .i64 y3] 44)).alloc (.cells #[.int .i64 a, .int .i64 b, .int .i64 c, .int .i64 d, .int .i64 x, .int .i64 y] 39)).rowIs (w.heap.size + 1) 39 6 (mp6 a b c d x y)) := by
    have h := mp6_row a b c d x y (w.alloc (.cells #[.int .i64 k, .int .i64 x0, .int .i64 y0, .int .i64 x1, .int .i64 y1, .int .i64 x2, .int .i64 y2, .int .i64 x3, .int .i64 y3] 44)) 39
    rw [nblk_alloc] at h
    exact h
  have HZ0 : Hid ((((w.alloc (.cells #[.int .i64 k, .int .i64 x0, .int .i64 y0, .int .i64 x1, .int .i64 y1, .int .i64 x2, .int .i64 y2, .int .i64 x3, .int .i64 y3] 44)).alloc (.cells #[.int .i64 a, .int .i64 b, .int .i64 c, .int .i64 d, .int .i64 x, .int .i64 y] 39)).alloc (.cells #[.int .i64 0, .int .i64 0, .int .i64 0, .int .i64 0, .int .i64 0, .int .i64 0, .int .i64 0, .int .i64 0, .int .i64 0] 44)).rowIs (w.heap.size + 1 + 1) 44 9 (sg9 0 0 0 0 0 0 0 0 0)) := by
    have h := sg9_row 0 0 0 0 0 0 0 0 0 ((w.alloc (.cells #[.int .i64 k, .int .i64 x0, .int .i64 y0, .int .i64 x1, .int .i64 y1, .int .i64 x2, .int .i64 y2, .int .i64 x3, .int .i64 y3] 44)).alloc (.cells #[.int .i64 a, .int .i64 b, .int .i64 c, .int .i64 d, .int .i64 x, .int .i64 y] 39)) 44
    rw [nblk_alloc, nblk_alloc] at h
    exact h
  go_enter Try.func101, Try.ntmps101
  go_wp2_with fail
  refine (refPlace_any _ _ _ _ _ _ _ _ _).mono ?_
  rw [← HQ0.out]
  rintro e w1 ⟨rfl, hb⟩
  have hz1 : w.heap.size + 1 + 1 < w1.heap.size := by have := hb.size; simp at this; omega
  have HR1 := hide (row_below ((HR0.out.alloc _).alloc _) hb (by simp; omega))
  have HM1 := hide (row_below (HM0.out.alloc _) hb (by simp))
  have HZ1 := hide (row_below HZ0.out hb (by simp))
  have HB1 : Hid (Below w.heap.size w w1) := Below.trans (by (repeat (any_goals (first | exact Below.refl _ _ | assumption | refine Below.drew ?_ | refine below_drewN ?_ _ | refine Below.setCell ?_ ?_ _ | refine Below.alloc ?_ ?_ _ | omega | (simp; done) | (simp; omega))))) (hb.mono (by simp; omega))
  have ya1 : w.heap.size < w1.heap.size := by omega
  have yb1 : w.heap.size + 1 < w1.heap.size := by omega
  have yc1 : w.heap.size + 1 + 1 < w1.heap.size := by omega
  clear hb
  obtain ⟨c0, c1, c2, c3, c4, c5, c6, c7, c8⟩ := sg9_cells HR1.out
  obtain ⟨d0, d1, d2, d3, d4, d5⟩ := mp6_cells HM1.out
  go_wp2_with fail
  clear c0 c1 c2 c3 c4 c5 c6 c7 c8 d0 d1 d2 d3 d4 d5
  refine (refPlace_any _ _ _ _ _ _ _ _ _).mono ?_
  rw [← HQ1.out]
  rintro e w2 ⟨rfl, hb⟩
  have hz2 : w1.heap.size < w2.heap.size := by have := hb.size; simp at this; omega
  have HR2 := hide (row_below (HR1.out.alloc (.cells #[.int .i64 Q0.1, .int .i64 Q0.2.1] 41)) hb (by simp; omega))
  have HM2 := hide (row_below (HM1.out.alloc (.cells #[.int .i64 Q0.1, .int .i64 Q0.2.1] 41)) hb (by simp; omega))
  have HZ2 := hide (row_below (HZ1.out.alloc (.cells #[.int .i64 Q0.1, .int .i64 Q0.2.1] 41)) hb (by simp; omega))
  have HB2 : Hid (Below w.heap.size w w2) := HB1.out.trans (((Below.refl _ _).alloc (Nat.le_refl _) (.cells #[.int .i64 Q0.1, .int .i64 Q0.2.1] 41)).trans (hb.mono (by simp)) |>.mono (by omega))
  have HS1_2 := hide (row_below (tp2_row Q0.1 Q0.2.1 w1 41) hb (by simp))
  have ya2 : w.heap.size < w2.heap.size := by omega
  have yb2 : w.heap.size + 1 < w2.heap.size := by omega
  have yc2 : w.heap.size + 1 + 1 < w2.heap.size := by omega
  clear hb
  obtain ⟨c0, c1, c2, c3, c4, c5, c6, c7, c8⟩ := sg9_cells HR2.out
  obtain ⟨d0, d1, d2, d3, d4, d5⟩ := mp6_cells HM2.out
  go_wp2_with fail
  clear c0 c1 c2 c3 c4 c5 c6 c7 c8 d0 d1 d2 d3 d4 d5
  refine (refPlace_any _ _ _ _ _ _ _ _ _).mono ?_
  rw [← HQ2.out]
  rintro e w3 ⟨rfl, hb⟩
  have hz3 : w2.heap.size < w3.heap.size := by have := hb.size; simp at this; omega
  have HR3 := hide (row_below (HR2.out.alloc (.cells #[.int .i64 Q1.1, .int .i64 Q1.2.1] 41)) hb (by simp; omega))
  have HM3 := hide (row_below (HM2.out.alloc (.cells #[.int .i64 Q1.1, .int .i64 Q1.2.1] 41)) hb (by simp; omega))
  have HZ3 := hide (row_below (HZ2.out.alloc (.cells #[.int .i64 Q1.1, .int .i64 Q1.2.1] 41)) hb (by simp; omega))
  have HB3 : Hid (Below w.heap.size w w3) := HB2.out.trans (((Below.refl _ _).alloc (Nat.le_refl _) (.cells #[.int .i64 Q1.1, .int .i64 Q1.2.1] 41)).trans (hb.mono (by simp)) |>.mono (by omega))
  have HS1_3 := hide (row_below (HS1_2.out.alloc (.cells #[.int .i64 Q1.1, .int .i64 Q1.2.1] 41)) hb (by simp; omega))
  have HS2_3 := hide (row_below (tp2_row Q1.1 Q1.2.1 w2 41) hb (by simp))
  have ya3 : w.heap.size < w3.heap.size := by omega
  have yb3 : w.heap.size + 1 < w3.heap.size := by omega
  have yc3 : w.heap.size + 1 + 1 < w3.heap.size := by omega
  have yd1_3 : w1.heap.size < w3.heap.size := by omega
  clear hb
  obtain ⟨c0, c1, c2, c3, c4, c5, c6, c7, c8⟩ := sg9_cells HR3.out
  obtain ⟨d0, d1, d2, d3, d4, d5⟩ := mp6_cells HM3.out
  go_wp2_with fail
  clear c0 c1 c2 c3 c4 c5 c6 c7 c8 d0 d1 d2 d3 d4 d5
  refine (refPlace_any _ _ _ _ _ _ _ _ _).mono ?_
  rw [← HQ3.out]
  rintro e w4 ⟨rfl, hb⟩
  have hz4 : w3.heap.size < w4.heap.size := by have := hb.size; simp at this; omega
  have HR4 := hide (row_below (HR3.out.alloc (.cells #[.int .i64 Q2.1, .int .i64 Q2.2.1] 41)) hb (by simp; omega))
  have HM4 := hide (row_below (HM3.out.alloc (.cells #[.int .i64 Q2.1, .int .i64 Q2.2.1] 41)) hb (by simp; omega))
  have HZ4 := hide (row_below (HZ3.out.alloc (.cells #[.int .i64 Q2.1, .int .i64 Q2.2.1] 41)) hb (by simp; omega))
  have HB4 : Hid (Below w.heap.size w w4) := HB3.out.trans (((Below.refl _ _).alloc (Nat.le_refl _) (.cells #[.int .i64 Q2.1, .int .i64 Q2.2.1] 41)).trans (hb.mono (by simp)) |>.mono (by omega))
  have HS1_4 := hide (row_below (HS1_3.out.alloc (.cells #[.int .i64 Q2.1, .int .i64 Q2.2.1] 41)) hb (by simp; omega))
  have HS2_4 := hide (row_below (HS2_3.out.alloc (.cells #[.int .i64 Q2.1, .int .i64 Q2.2.1] 41)) hb (by simp; omega))
  have HS3_4 := hide (row_below (tp2_row Q2.1 Q2.2.1 w3 41) hb (by simp))
  have ya4 : w.heap.size < w4.heap.size := by omega
  have yb4 : w.heap.size + 1 < w4.heap.size := by omega
  have yc4 : w.heap.size + 1 + 1 < w4.heap.size := by omega
  have yd1_4 : w1.heap.size < w4.heap.size := by omega
  have yd2_4 : w2.heap.size < w4.heap.size := by omega
  clear hb
  obtain ⟨c0, c1, c2, c3, c4, c5, c6, c7, c8⟩ := sg9_cells HR4.out
  obtain ⟨r0, r1, r2, r3, r4, r5, r6, r7, r8⟩ := sg9_cells HZ4.out
  obtain ⟨z0, z1, z2, z3, z4, z5, z6, z7, z8⟩ := zero_frozen HZ4.out
  obtain ⟨s10, s11⟩ := tp2_cells HS1_4.out
  obtain ⟨s20, s21⟩ := tp2_cells HS2_4.out
  obtain ⟨s30, s31⟩ := tp2_cells HS3_4.out
  by_cases h0 : Q0.2.2 = 0
  case neg =>
    obtain ⟨rfl, rfl⟩ := HNo.out (by simp [h0])
    have t0 : (Q0.2.2 != 0) = true := by simpa using h0
    clear h0 HYe HNo
    go_wp2
    obtain ⟨wF, hwF⟩ : ∃ wF, wF = (((((((((w4.setCell ⟨w.heap.size + 1 + 1, 0, none⟩ (.int .i64 0)).setCell ⟨w.heap.size + 1 + 1, 1, none⟩ (.int .i64 0)).setCell ⟨w.heap.size + 1 + 1, 2, none⟩ (.int .i64 0)).setCell ⟨w.heap.size + 1 + 1, 3, none⟩ (.int .i64 0)).setCell ⟨w.heap.size + 1 + 1, 4, none⟩ (.int .i64 0)).setCell ⟨w.heap.size + 1 + 1, 5, none⟩ (.int .i64 0)).setCell ⟨w.heap.size + 1 + 1, 6, none⟩ (.int .i64 0)).setCell ⟨w.heap.size + 1 + 1, 7, none⟩ (.int .i64 0)).setCell ⟨w.heap.size + 1 + 1, 8, none⟩ (.int .i64 0)).alloc (.cells #[.int .i64 Q3.1, .int .i64 Q3.2.1] 41) := ⟨_, rfl⟩
    rw [← hwF]
    have hRF : wF.rowIs (w.heap.size + 1 + 1) 44 9 (sg9 0 0 0 0 0 0 0 0 0) := by rw [hwF]; exact (set9sg HZ4.out 0 0 0 0 0 0 0 0 0).alloc _
    have hp : ∀ q : Nat, w.heap.size ≤ (⟨w.heap.size + 1 + 1, q, none⟩ : Addr).block := fun q => by show w.heap.size ≤ w.heap.size + 1 + 1; omega
    have hBF : Below w.heap.size w wF := by rw [hwF]; exact (((((((((HB4.out.setCell (hp 0) _).setCell (hp 1) _).setCell (hp 2) _).setCell (hp 3) _).setCell (hp 4) _).setCell (hp 5) _).setCell (hp 6) _).setCell (hp 7) _).setCell (hp 8) _).alloc (by simp; omega) _
    obtain ⟨g0, g1, g2, g3, g4, g5, g6, g7, g8⟩ := sg9_cells hRF
    exact bodyPost_ret (v := .tuple #[.agg #[.int .i64 0, .int .i64 0, .int .i64 0, .int .i64 0, .int .i64 0, .int .i64 0, .int .i64 0, .int .i64 0, .int .i64 0], .int .i64 6]) (by simp [results, Try.results101, go_sem, g0, g1, g2, g3, g4, g5, g6, g7, g8]) rfl ⟨rfl, hBF⟩
  by_cases h1 : Q1.2.2 = 0
  case neg =>
    obtain ⟨rfl, rfl⟩ := HNo.out (by simp [h0, h1])
    have t1 : (Q1.2.2 != 0) = true := by simpa using h1
    have t0 : (Q0.2.2 != 0) = false := by simpa using h0
    clear h0 h1 HYe HNo
    go_wp2
    obtain ⟨wF, hwF⟩ : ∃ wF, wF = (((((((((w4.setCell ⟨w.heap.size + 1 + 1, 0, none⟩ (.int .i64 0)).setCell ⟨w.heap.size + 1 + 1, 1, none⟩ (.int .i64 0)).setCell ⟨w.heap.size + 1 + 1, 2, none⟩ (.int .i64 0)).setCell ⟨w.heap.size + 1 + 1, 3, none⟩ (.int .i64 0)).setCell ⟨w.heap.size + 1 + 1, 4, none⟩ (.int .i64 0)).setCell ⟨w.heap.size + 1 + 1, 5, none⟩ (.int .i64 0)).setCell ⟨w.heap.size + 1 + 1, 6, none⟩ (.int .i64 0)).setCell ⟨w.heap.size + 1 + 1, 7, none⟩ (.int .i64 0)).setCell ⟨w.heap.size + 1 + 1, 8, none⟩ (.int .i64 0)).alloc (.cells #[.int .i64 Q3.1, .int .i64 Q3.2.1] 41) := ⟨_, rfl⟩
    rw [← hwF]
    have hRF : wF.rowIs (w.heap.size + 1 + 1) 44 9 (sg9 0 0 0 0 0 0 0 0 0) := by rw [hwF]; exact (set9sg HZ4.out 0 0 0 0 0 0 0 0 0).alloc _
    have hp : ∀ q : Nat, w.heap.size ≤ (⟨w.heap.size + 1 + 1, q, none⟩ : Addr).block := fun q => by show w.heap.size ≤ w.heap.size + 1 + 1; omega
    have hBF : Below w.heap.size w wF := by rw [hwF]; exact (((((((((HB4.out.setCell (hp 0) _).setCell (hp 1) _).setCell (hp 2) _).setCell (hp 3) _).setCell (hp 4) _).setCell (hp 5) _).setCell (hp 6) _).setCell (hp 7) _).setCell (hp 8) _).alloc (by simp; omega) _
    obtain ⟨g0, g1, g2, g3, g4, g5, g6, g7, g8⟩ := sg9_cells hRF
    exact bodyPost_ret (v := .tuple #[.agg #[.int .i64 0, .int .i64 0, .int .i64 0, .int .i64 0, .int .i64 0, .int .i64 0, .int .i64 0, .int .i64 0, .int .i64 0], .int .i64 6]) (by simp [results, Try.results101, go_sem, g0, g1, g2, g3, g4, g5, g6, g7, g8]) rfl ⟨rfl, hBF⟩
  by_cases h2 : Q2.2.2 = 0
  case neg =>
    obtain ⟨rfl, rfl⟩ := HNo.out (by simp [h0, h1, h2])
    have t2 : (Q2.2.2 != 0) = true := by simpa using h2
    have t0 : (Q0.2.2 != 0) = false := by simpa using h0
    have t1 : (Q1.2.2 != 0) = false := by simpa using h1
    clear h0 h1 h2 HYe HNo
    go_wp2
    obtain ⟨wF, hwF⟩ : ∃ wF, wF = (((((((((w4.setCell ⟨w.heap.size + 1 + 1, 0, none⟩ (.int .i64 0)).setCell ⟨w.heap.size + 1 + 1, 1, none⟩ (.int .i64 0)).setCell ⟨w.heap.size + 1 + 1, 2, none⟩ (.int .i64 0)).setCell ⟨w.heap.size + 1 + 1, 3, none⟩ (.int .i64 0)).setCell ⟨w.heap.size + 1 + 1, 4, none⟩ (.int .i64 0)).setCell ⟨w.heap.size + 1 + 1, 5, none⟩ (.int .i64 0)).setCell ⟨w.heap.size + 1 + 1, 6, none⟩ (.int .i64 0)).setCell ⟨w.heap.size + 1 + 1, 7, none⟩ (.int .i64 0)).setCell ⟨w.heap.size + 1 + 1, 8, none⟩ (.int .i64 0)).alloc (.cells #[.int .i64 Q3.1, .int .i64 Q3.2.1] 41) := ⟨_, rfl⟩
    rw [← hwF]
    have hRF : wF.rowIs (w.heap.size + 1 + 1) 44 9 (sg9 0 0 0 0 0 0 0 0 0) := by rw [hwF]; exact (set9sg HZ4.out 0 0 0 0 0 0 0 0 0).alloc _
    have hp : ∀ q : Nat, w.heap.size ≤ (⟨w.heap.size + 1 + 1, q, none⟩ : Addr).block := fun q => by show w.heap.size ≤ w.heap.size + 1 + 1; omega
    have hBF : Below w.heap.size w wF := by rw [hwF]; exact (((((((((HB4.out.setCell (hp 0) _).setCell (hp 1) _).setCell (hp 2) _).setCell (hp 3) _).setCell (hp 4) _).setCell (hp 5) _).setCell (hp 6) _).setCell (hp 7) _).setCell (hp 8) _).alloc (by simp; omega) _
    obtain ⟨g0, g1, g2, g3, g4, g5, g6, g7, g8⟩ := sg9_cells hRF
    exact bodyPost_ret (v := .tuple #[.agg #[.int .i64 0, .int .i64 0, .int .i64 0, .int .i64 0, .int .i64 0, .int .i64 0, .int .i64 0, .int .i64 0, .int .i64 0], .int .i64 6]) (by simp [results, Try.results101, go_sem, g0, g1, g2, g3, g4, g5, g6, g7, g8]) rfl ⟨rfl, hBF⟩
  by_cases h3 : Q3.2.2 = 0
  case neg =>
    obtain ⟨rfl, rfl⟩ := HNo.out (by simp [h0, h1, h2, h3])
    have t3 : (Q3.2.2 != 0) = true := by simpa using h3
    have t0 : (Q0.2.2 != 0) = false := by simpa using h0
    have t1 : (Q1.2.2 != 0) = false := by simpa using h1
    have t2 : (Q2.2.2 != 0) = false := by simpa using h2
    clear h0 h1 h2 h3 HYe HNo
    go_wp2
    obtain ⟨wF, hwF⟩ : ∃ wF, wF = (((((((((w4.setCell ⟨w.heap.size + 1 + 1, 0, none⟩ (.int .i64 0)).setCell ⟨w.heap.size + 1 + 1, 1, none⟩ (.int .i64 0)).setCell ⟨w.heap.size + 1 + 1, 2, none⟩ (.int .i64 0)).setCell ⟨w.heap.size + 1 + 1, 3, none⟩ (.int .i64 0)).setCell ⟨w.heap.size + 1 + 1, 4, none⟩ (.int .i64 0)).setCell ⟨w.heap.size + 1 + 1, 5, none⟩ (.int .i64 0)).setCell ⟨w.heap.size + 1 + 1, 6, none⟩ (.int .i64 0)).setCell ⟨w.heap.size + 1 + 1, 7, none⟩ (.int .i64 0)).setCell ⟨w.heap.size + 1 + 1, 8, none⟩ (.int .i64 0)).alloc (.cells #[.int .i64 Q3.1, .int .i64 Q3.2.1] 41) := ⟨_, rfl⟩
    rw [← hwF]
    have hRF : wF.rowIs (w.heap.size + 1 + 1) 44 9 (sg9 0 0 0 0 0 0 0 0 0) := by rw [hwF]; exact (set9sg HZ4.out 0 0 0 0 0 0 0 0 0).alloc _
    have hp : ∀ q : Nat, w.heap.size ≤ (⟨w.heap.size + 1 + 1, q, none⟩ : Addr).block := fun q => by show w.heap.size ≤ w.heap.size + 1 + 1; omega
    have hBF : Below w.heap.size w wF := by rw [hwF]; exact (((((((((HB4.out.setCell (hp 0) _).setCell (hp 1) _).setCell (hp 2) _).setCell (hp 3) _).setCell (hp 4) _).setCell (hp 5) _).setCell (hp 6) _).setCell (hp 7) _).setCell (hp 8) _).alloc (by simp; omega) _
    obtain ⟨g0, g1, g2, g3, g4, g5, g6, g7, g8⟩ := sg9_cells hRF
    exact bodyPost_ret (v := .tuple #[.agg #[.int .i64 0, .int .i64 0, .int .i64 0, .int .i64 0, .int .i64 0, .int .i64 0, .int .i64 0, .int .i64 0, .int .i64 0], .int .i64 6]) (by simp [results, Try.results101, go_sem, g0, g1, g2, g3, g4, g5, g6, g7, g8]) rfl ⟨rfl, hBF⟩
  · obtain ⟨rfl, rfl⟩ := HYe.out (by simp [h0, h1, h2, h3])
    have t0 : (Q0.2.2 != 0) = false := by simpa using h0
    have t1 : (Q1.2.2 != 0) = false := by simpa using h1
    have t2 : (Q2.2.2 != 0) = false := by simpa using h2
    have t3 : (Q3.2.2 != 0) = false := by simpa using h3
    clear h0 h1 h2 h3 HYe HNo
    go_wp2
    obtain ⟨wF, hwF⟩ : ∃ wF, wF = (((((((((w4.setCell ⟨w.heap.size + 1 + 1, 0, none⟩ (.int .i64 k)).setCell ⟨w.heap.size + 1 + 1, 1, none⟩ (.int .i64 Q0.1)).setCell ⟨w.heap.size + 1 + 1, 2, none⟩ (.int .i64 Q0.2.1)).setCell ⟨w.heap.size + 1 + 1, 3, none⟩ (.int .i64 Q1.1)).setCell ⟨w.heap.size + 1 + 1, 4, none⟩ (.int .i64 Q1.2.1)).setCell ⟨w.heap.size + 1 + 1, 5, none⟩ (.int .i64 Q2.1)).setCell ⟨w.heap.size + 1 + 1, 6, none⟩ (.int .i64 Q2.2.1)).setCell ⟨w.heap.size + 1 + 1, 7, none⟩ (.int .i64 Q3.1)).setCell ⟨w.heap.size + 1 + 1, 8, none⟩ (.int .i64 Q3.2.1)).alloc (.cells #[.int .i64 Q3.1, .int .i64 Q3.2.1] 41) := ⟨_, rfl⟩
    rw [← hwF]
    have hRF : wF.rowIs (w.heap.size + 1 + 1) 44 9 (sg9 k Q0.1 Q0.2.1 Q1.1 Q1.2.1 Q2.1 Q2.2.1 Q3.1 Q3.2.1) := by rw [hwF]; exact (set9sg HZ4.out k Q0.1 Q0.2.1 Q1.1 Q1.2.1 Q2.1 Q2.2.1 Q3.1 Q3.2.1).alloc _
    have hp : ∀ q : Nat, w.heap.size ≤ (⟨w.heap.size + 1 + 1, q, none⟩ : Addr).block := fun q => by show w.heap.size ≤ w.heap.size + 1 + 1; omega
    have hBF : Below w.heap.size w wF := by rw [hwF]; exact (((((((((HB4.out.setCell (hp 0) _).setCell (hp 1) _).setCell (hp 2) _).setCell (hp 3) _).setCell (hp 4) _).setCell (hp 5) _).setCell (hp 6) _).setCell (hp 7) _).setCell (hp 8) _).alloc (by simp; omega) _
    obtain ⟨g0, g1, g2, g3, g4, g5, g6, g7, g8⟩ := sg9_cells hRF
    exact bodyPost_ret (v := .tuple #[.agg #[.int .i64 k, .int .i64 Q0.1, .int .i64 Q0.2.1, .int .i64 Q1.1, .int .i64 Q1.2.1, .int .i64 Q2.1, .int .i64 Q2.2.1, .int .i64 Q3.1, .int .i64 Q3.2.1], .int .i64 0]) (by simp [results, Try.results101, go_sem, g0, g1, g2, g3, g4, g5, g6, g7, g8]) rfl ⟨rfl, hBF⟩

end Go.Proofs.Ytkhcjkmifddlbaa

/- Chk -/
namespace Go.Proofs.Ytkhcjkmifddlbaa
open Go.RowKit

set_option maxHeartbeats 400000 in
theorem mayStand_any (a k b : Int) (w : World) :
    Calls Try.prog 144 #[.int .i64 a, .int .i64 k, .int .i64 b] w fun e w' => e = .returned (.bool (Num.mayB a k b)) ∧ w' = w := by
  go_enter Try.func144, Try.ntmps144
  go_wp2
  all_goals
    go_ret
    refine ⟨ret_bool ?_, rfl⟩
    simp_all [Num.mayB]

set_option maxHeartbeats 400000 in
theorem firstFar_any (a : Option Addr) (n c : Nat) (X Y K : Nat → Int) (w : World) (hn : n ≤ 4294967296) (hr : RingAt w a n X Y K) :
    Calls Try.prog 117 #[.slice a n c] w fun e w' => e = .returned (.int .i64 (Num.farI X Y n)) ∧ Below w.heap.size w w' := by
  go_enter Try.func117, Try.ntmps117
  go_wp2
  go_loopw [7] (fun i wr => ∃ k : Nat, k ≤ n ∧ i = .int .i64 k ∧ Below w.heap.size w wr ∧ ∀ j, j < k → Num.farB X Y j = false) (fun i _ => n - (intOf i).toNat)
  case atStart => exact ⟨0, by omega, rfl, Below.refl _ _, by omega⟩
  case round =>
    obtain ⟨k, hk, rfl, hb, hno⟩ := hrel
    have hsz := hb.size
    have HN := hide hno
    clear hno
    by_cases hlt : k < n
    · rcases hr.below hb with h | ⟨b, off, rfl, hc⟩
      · omega
      · obtain ⟨c0, c1, c2⟩ := hc k hlt
        clear hc hr
        cases hx : Num.wi (X k) 4096
        · have hf : Num.farB X Y k = true := by simp [Num.farB, hx]
          have HF := hide hf
          clear hf
          go_wp2_with (go_at_call 122; refine (within_any _ _ _ (by omega) (by omega)).mono ?_; rintro e w' ⟨rfl, rfl⟩)
          go_ret
          exact ⟨ret_int (Num.firstI_hit _ _ _ hlt HF.out HN.out).symm, by (repeat (any_goals (first | exact Below.refl _ _ | assumption | refine Below.drew ?_ | refine below_drewN ?_ _ | refine Below.setCell ?_ ?_ _ | refine Below.alloc ?_ ?_ _ | omega | (simp; done) | (simp; omega))))⟩
        · cases hy : Num.wi (Y k) 4096
          · have hf : Num.farB X Y k = true := by simp [Num.farB, hy]
            have HF := hide hf
            clear hf
            go_wp2_with (go_at_call 122; refine (within_any _ _ _ (by omega) (by omega)).mono ?_; rintro e w' ⟨rfl, rfl⟩)
            go_ret
            exact ⟨ret_int (Num.firstI_hit _ _ _ hlt HF.out HN.out).symm, by (repeat (any_goals (first | exact Below.refl _ _ | assumption | refine Below.drew ?_ | refine below_drewN ?_ _ | refine Below.setCell ?_ ?_ _ | refine Below.alloc ?_ ?_ _ | omega | (simp; done) | (simp; omega))))⟩
          · have hf : Num.farB X Y k = false := by simp [Num.farB, hx, hy]
            have HF := hide hf
            clear hf
            go_wp2_with (go_at_call 122; refine (within_any _ _ _ (by omega) (by omega)).mono ?_; rintro e w' ⟨rfl, rfl⟩)
            go_roundw
            case rel =>
              refine ⟨k + 1, by omega, by go_num, by (repeat (any_goals (first | exact Below.refl _ _ | assumption | refine Below.drew ?_ | refine below_drewN ?_ _ | refine Below.setCell ?_ ?_ _ | refine Below.alloc ?_ ?_ _ | omega | (simp; done) | (simp; omega)))), fun j hj => ?_⟩
              by_cases ej : j = k
              · subst ej; exact HF.out
              · exact HN.out j (by omega)
            case measure => simp [intOf]; omega
    · go_wp2
      go_ret
      have e : k = n := by omega
      subst e
      exact ⟨ret_int (Num.firstI_none _ _ HN.out).symm, hb⟩

set_option maxHeartbeats 400000 in
theorem shapeFault_any (a : Option Addr) (n c : Nat) (X Y K : Nat → Int) (w : World) (hn : n ≤ 4294967296) (hr : RingAt w a n X Y K) :
    Calls Try.prog 116 #[.slice a n c] w fun e w' => e = .returned (.int .i64 (Num.shapeI K n)) ∧ Below w.heap.size w w' := by
  by_cases h2 : n < 2
  · have e : Num.shapeI K n = n := by unfold Num.shapeI; rw [if_pos h2]
    rw [e]
    clear e
    go_enter Try.func116, Try.ntmps116
    go_wp2_with fail
    go_ret
    exact ⟨rfl, Below.refl _ _⟩
  · have e : Num.shapeI K n = Num.firstI (Num.badB K n) n := by unfold Num.shapeI; rw [if_neg h2]
    rw [e]
    clear e
    rcases hr with h | ⟨b, off, rfl, hc⟩
    · omega
    obtain ⟨c0, c1, c2⟩ := hc (n - 1) (by omega)
    have hlt0 : b < w.heap.size := World.block_lt_of_cell? w _ c0
    have HC := hide hc
    clear hc
    go_enter Try.func116, Try.ntmps116
    go_wp2_with fail
    go_loopw [20] (fun i wr => ∃ k : Nat, k ≤ n ∧ i = .int .i64 k ∧ Below w.heap.size w wr ∧ w.heap.size < wr.heap.size ∧ (∃ px py, wr.cell? ⟨w.heap.size, 0, none⟩ = some (.int .i64 px) ∧ wr.cell? ⟨w.heap.size, 1, none⟩ = some (.int .i64 py)) ∧ wr.cell? ⟨w.heap.size, 2, none⟩ = some (.int .i64 (Num.prevK K n k)) ∧ wr.frozen? ⟨w.heap.size, 0, none⟩ = false ∧ wr.frozen? ⟨w.heap.size, 1, none⟩ = false ∧ wr.frozen? ⟨w.heap.size, 2, none⟩ = false ∧ ∀ j, j < k → Num.badB K n j = false) (fun i _ => n - (intOf i).toNat)
    case atStart =>
      refine ⟨0, by omega, rfl, by (repeat (any_goals (first | exact Below.refl _ _ | assumption | refine Below.drew ?_ | refine below_drewN ?_ _ | refine Below.setCell ?_ ?_ _ | refine Below.alloc ?_ ?_ _ | omega | (simp; done) | (simp; omega)))), by simp, ⟨X (n - 1), Y (n - 1), ?_, ?_⟩, ?_, ?_, ?_, ?_, by omega⟩
      all_goals (first | (go_simp; done) | (simp [Num.prevK]; done))
    case round =>
      obtain ⟨k, hk, rfl, hb, hsz, ⟨px, py, q0, q1⟩, q2, z0, z1, z2, hno⟩ := hrel
      have HN := hide hno
      clear hno
      by_cases hlt : k < n
      · have hc : ∀ k, k < n → wr.cell? ⟨b, off + k * 3, none⟩ = some (.int .i64 (X k)) ∧ wr.cell? ⟨b, off + k * 3 + 1, none⟩ = some (.int .i64 (Y k)) ∧ wr.cell? ⟨b, off + k * 3 + 2, none⟩ = some (.int .i64 (K k)) := by
          intro k hk
          obtain ⟨c0, c1, c2⟩ := HC.out k hk
          exact ⟨(hb.cell (p := ⟨b, _, none⟩) hlt0).trans c0, (hb.cell (p := ⟨b, _, none⟩) hlt0).trans c1, (hb.cell (p := ⟨b, _, none⟩) hlt0).trans c2⟩
        obtain ⟨d0, d1, d2⟩ := hc k hlt
        obtain ⟨e0, e1, e2⟩ := hc 0 (by omega)
        simp only [Nat.zero_mul, Nat.add_zero] at e0 e1 e2
        have hpn : Num.prevK K n (k + 1) = K k := by simp [Num.prevK]
        have HP := hide hpn
        have hbw : b < wr.heap.size := by omega
        clear hpn
        by_cases hl2 : k + 1 < n
        · obtain ⟨f0, f1, f2⟩ := hc (k + 1) hl2
          clear hc c0 c1 c2
          have hnx : Num.nextK K n k = K (k + 1) := by unfold Num.nextK; rw [if_pos hl2]
          have hbad : Num.badB K n k = !Num.mayB (Num.prevK K n k) (K k) (K (k + 1)) := by unfold Num.badB; rw [hnx]
          have HBad := hide hbad
          clear hbad hnx
          go_wp2_with fail
          refine (mayStand_any _ _ _ _).mono ?_
          rintro e w' ⟨rfl, rfl⟩
          cases hm : Num.mayB (Num.prevK K n k) (K k) (K (k + 1))
          · go_wp2
            go_ret
            exact ⟨ret_int (Num.firstI_hit _ _ _ hlt (by rw [HBad.out, hm]; rfl) HN.out).symm, by (repeat (any_goals (first | exact Below.refl _ _ | assumption | refine Below.drew ?_ | refine below_drewN ?_ _ | refine Below.setCell ?_ ?_ _ | refine Below.alloc ?_ ?_ _ | omega | (simp; done) | (simp; omega))))⟩
          · go_wp2
            go_roundw
            case rel =>
              refine ⟨k + 1, by omega, by go_num, by (repeat (any_goals (first | exact Below.refl _ _ | assumption | refine Below.drew ?_ | refine below_drewN ?_ _ | refine Below.setCell ?_ ?_ _ | refine Below.alloc ?_ ?_ _ | omega | (simp; done) | (simp; omega)))), by simp; omega, ⟨X k, Y k, ?_, ?_⟩, ?_, ?_, ?_, ?_, fun j hj => ?_⟩
              case refine_7 =>
                by_cases ej : j = k
                · subst ej; rw [HBad.out, hm]; rfl
                · exact HN.out j (by omega)
              all_goals (try rw [HP.out])
              all_goals go_simp
            case measure => simp [intOf]; omega
        · clear hc c0 c1 c2
          have hnx : Num.nextK K n k = K 0 := by unfold Num.nextK; rw [if_neg hl2]
          have hbad : Num.badB K n k = !Num.mayB (Num.prevK K n k) (K k) (K 0) := by unfold Num.badB; rw [hnx]
          have HBad := hide hbad
          clear hbad hnx
          go_wp2_with fail
          refine (mayStand_any _ _ _ _).mono ?_
          rintro e w' ⟨rfl, rfl⟩
          cases hm : Num.mayB (Num.prevK K n k) (K k) (K 0)
          · go_wp2
            go_ret
            exact ⟨ret_int (Num.firstI_hit _ _ _ hlt (by rw [HBad.out, hm]; rfl) HN.out).symm, by (repeat (any_goals (first | exact Below.refl _ _ | assumption | refine Below.drew ?_ | refine below_drewN ?_ _ | refine Below.setCell ?_ ?_ _ | refine Below.alloc ?_ ?_ _ | omega | (simp; done) | (simp; omega))))⟩
          · go_wp2
            go_roundw
            case rel =>
              refine ⟨k + 1, by omega, by go_num, by (repeat (any_goals (first | exact Below.refl _ _ | assumption | refine Below.drew ?_ | refine below_drewN ?_ _ | refine Below.setCell ?_ ?_ _ | refine Below.alloc ?_ ?_ _ | omega | (simp; done) | (simp; omega)))), by simp; omega, ⟨X k, Y k, ?_, ?_⟩, ?_, ?_, ?_, ?_, fun j hj => ?_⟩
              case refine_7 =>
                by_cases ej : j = k
                · subst ej; rw [HBad.out, hm]; rfl
                · exact HN.out j (by omega)
              all_goals (try rw [HP.out])
              all_goals go_simp
            case measure => simp [intOf]; omega
      · go_wp2
        go_ret
        have e : k = n := by omega
        subst e
        exact ⟨ret_int (Num.firstI_none _ _ HN.out).symm, hb⟩
end Go.Proofs.Ytkhcjkmifddlbaa

/- ChkB -/
namespace Go.Proofs.Ytkhcjkmifddlbaa
open Go.RowKit

theorem many_of_sum {N : Nat} {n : Nat → Nat} {k : Nat} (hk : k ≤ N) (h : 200 < Num.sumN n k) : Num.manyB N n = true := by
  have := Num.sumN_mono n hk
  simp [Num.manyB]; omega

set_option maxHeartbeats 400000 in
theorem tooMany_any (a : Option Addr) (N c : Nat) (A : Nat → Option Addr) (C n : Nat → Nat) (X Y K : Nat → Nat → Int) (w : World) (hN : N ≤ 4294967296) (hn : ∀ i, i < N → n i ≤ 4294967296) (ho : OutAt w a N A C n X Y K) :
    Calls Try.prog 115 #[.slice a N c] w fun e w' => e = .returned (.bool (Num.manyB N n)) ∧ w' = w := by
  have hout := ho.1
  clear ho
  by_cases h16 : 16 < N
  · have e : Num.manyB N n = true := by simp [Num.manyB, h16]
    rw [e]
    clear e hn
    go_enter Try.func115, Try.ntmps115
    go_wp2_with fail
    go_ret
    exact ⟨rfl, rfl⟩
  · have h16' : N ≤ 16 := by omega
    have HN := hide hn
    clear hn
    go_enter Try.func115, Try.ntmps115
    go_wp2_with fail
    go_loop [3, 11] (fun l i => ∃ k : Nat, k ≤ N ∧ i = .int .i64 k ∧ l = .int .i64 (200 - (Num.sumN n k : Int)) ∧ Num.sumN n k ≤ 200) (fun _ i => N - (intOf i).toNat)
    case atStart => exact ⟨0, by omega, rfl, by simp [Num.sumN], by simp [Num.sumN]⟩
    case round =>
      obtain ⟨k, hk, rfl, rfl, hs⟩ := hrel
      by_cases hlt : k < N
      · rcases hout with h | ⟨b, off, rfl, hc⟩
        · omega
        have ci := hc k hlt
        have hnk := HN.out k hlt
        clear hc
        have hsum : Num.sumN n (k + 1) = Num.sumN n k + n k := rfl
        have HS := hide hsum
        clear hsum
        by_cases hov : 200 - (Num.sumN n k : Int) < (n k : Int)
        · go_wp2
          go_ret
          exact ⟨ret_bool (many_of_sum (k := k + 1) (by omega) (by have := HS.out; omega)).symm, rfl⟩
        · go_wp2
          go_round
          case rel => exact ⟨k + 1, by omega, by go_num, by rw [HS.out]; go_num, by rw [HS.out]; omega⟩
          case measure => simp [intOf]; omega
      · go_wp2
        go_ret
        have e : k = N := by omega
        subst e
        exact ⟨ret_bool (by simp [Num.manyB]; omega), rfl⟩

set_option maxHeartbeats 400000 in
theorem check_any (a : Option Addr) (N c : Nat) (A : Nat → Option Addr) (C n : Nat → Nat) (X Y K : Nat → Nat → Int) (w : World) (hN : N ≤ 4294967296) (hn : ∀ i, i < N → n i ≤ 4294967296) (ho : OutAt w a N A C n X Y K) :
    Calls Try.prog 83 #[.slice a N c] w fun e w' =>
      e = .returned (.tuple #[.int .i64 (Num.chkV N n X Y K).1, .int .i64 (Num.chkV N n X Y K).2.1, .int .i64 (Num.chkV N n X Y K).2.2]) ∧ Below w.heap.size w w' := by
  have HN := hide hn
  have HO := hide ho
  clear hn ho
  cases hm : Num.manyB N n
  · go_enter Try.func83, Try.ntmps83
    go_wp2_with fail
    refine (tooMany_any _ _ _ A C n X Y K _ hN HN.out HO.out).mono ?_
    rintro e w' ⟨rfl, hw⟩
    rw [hm, hw]
    clear hw
    go_wp2_with fail
    go_loopw [15] (fun i wr => ∃ k : Nat, k ≤ N ∧ i = .int .i64 k ∧ Below w.heap.size w wr ∧ ∀ j, j < k → Num.shapeAt n K j = false) (fun i _ => N - (intOf i).toNat)
    case atStart => exact ⟨0, by omega, rfl, Below.refl _ _, by omega⟩
    case round =>
      obtain ⟨k, hk, rfl, hb, hno⟩ := hrel
      have hsz := hb.size
      have HNo := hide hno
      clear hno
      have HO2 := hide (HO.out.below hb)
      by_cases hlt : k < N
      · rcases HO2.out.1 with h | ⟨b, off, rfl, hc⟩
        · omega
        have ci := hc k hlt
        clear hc
        go_wp2_with fail
        refine (shapeFault_any _ _ _ _ _ _ _ (HN.out k hlt) (HO2.out.2 k hlt)).mono ?_
        rintro e w1 ⟨rfl, hb1⟩
        have hb2 : Below w.heap.size w w1 := hb.trans (hb1.mono hsz)
        clear hb1
        cases hs : Num.shapeAt n K k
        · have hs' : Num.shapeI (K k) (n k) = -1 := by simpa [Num.shapeAt] using hs
          rw [hs']
          have HS := hide hs
          clear hs hs'
          go_wp2
          go_roundw
          case rel =>
            refine ⟨k + 1, by omega, by go_num, hb2, fun j hj => ?_⟩
            by_cases ej : j = k
            · subst ej; exact HS.out
            · exact HNo.out j (by omega)
          case measure => simp [intOf]; omega
        · have hs' : (Num.shapeI (K k) (n k) != -1) = true := by simpa [Num.shapeAt] using hs
          have hv := Num.chk_shape N n X Y K hm k hlt hs HNo.out
          have HV := hide hv
          clear hs hv
          go_wp2
          go_ret3
          rw [HV.out]
          exact ⟨rfl, hb2⟩
      · have e : k = N := by omega
        subst e
        go_wp2_with fail
        go_loopw [29] (fun i wr' => ∃ j : Nat, j ≤ k ∧ i = .int .i64 j ∧ Below w.heap.size w wr' ∧ ∀ q, q < j → Num.farAt n X Y q = false) (fun i _ => k - (intOf i).toNat)
        case atStart => exact ⟨0, by omega, rfl, hb, by omega⟩
        case round =>
          obtain ⟨j, hj, rfl, hb', hno'⟩ := hrel
          have hsz' := hb'.size
          have HNo' := hide hno'
          clear hno'
          have HO3 := hide (HO.out.below hb')
          by_cases hlt' : j < k
          · rcases HO3.out.1 with h | ⟨b, off, rfl, hc⟩
            · omega
            have ci := hc j hlt'
            clear hc
            go_wp2_with fail
            refine (firstFar_any _ _ _ _ _ _ _ (HN.out j hlt') (HO3.out.2 j hlt')).mono ?_
            rintro e w1 ⟨rfl, hb1⟩
            have hb2 : Below w.heap.size w w1 := hb'.trans (hb1.mono hsz')
            clear hb1
            cases hs : Num.farAt n X Y j
            · have hs' : Num.farI (X j) (Y j) (n j) = -1 := by simpa [Num.farAt] using hs
              rw [hs']
              have HS := hide hs
              clear hs hs'
              go_wp2
              go_roundw
              case rel =>
                refine ⟨j + 1, by omega, by go_num, hb2, fun q hq => ?_⟩
                by_cases ej : q = j
                · subst ej; exact HS.out
                · exact HNo'.out q (by omega)
              case measure => simp [intOf]; omega
            · have hs' : (Num.farI (X j) (Y j) (n j) != -1) = true := by simpa [Num.farAt] using hs
              have hv := Num.chk_far k n X Y K hm HNo.out j hlt' hs HNo'.out
              have HV := hide hv
              clear hs hv
              go_wp2
              go_ret3
              rw [HV.out]
              exact ⟨rfl, hb2⟩
          · have e : j = k := by omega
            subst e
            go_wp2
            go_ret3
            rw [Num.chk_ok j n X Y K hm HNo.out HNo'.out]
            exact ⟨rfl, hb'⟩
  · rw [Num.chk_many N n X Y K hm]
    go_enter Try.func83, Try.ntmps83
    go_wp2_with fail
    refine (tooMany_any _ _ _ A C n X Y K _ hN HN.out HO.out).mono ?_
    rintro e w' ⟨rfl, hw⟩
    rw [hm, hw]
    clear hw
    go_wp2
    go_ret3
    exact ⟨rfl, Below.refl _ _⟩

set_option maxHeartbeats 400000 in
theorem glyphCheck_any (a : Option Addr) (N c : Nat) (A : Nat → Option Addr) (C n : Nat → Nat) (X Y K : Nat → Nat → Int) (w : World) (hN : N ≤ 4294967296) (hn : ∀ i, i < N → n i ≤ 4294967296) (ho : OutAt w a N A C n X Y K) :
    Calls Try.prog 45 #[.slice a N c] w fun e w' =>
      e = .returned (.tuple #[.int .i64 (Num.chkV N n X Y K).1, .int .i64 (Num.chkV N n X Y K).2.1, .int .i64 (Num.chkV N n X Y K).2.2]) ∧ Below w.heap.size w w' := by
  have HN := hide hn
  have HO := hide ho
  clear hn ho
  go_enter Try.func45, Try.ntmps45
  go_wp2_with fail
  refine (check_any _ _ _ A C n X Y K _ hN HN.out HO.out).mono ?_
  rintro e w1 ⟨rfl, hb⟩
  go_wp2
  go_ret3
  exact ⟨rfl, hb⟩
end Go.Proofs.Ytkhcjkmifddlbaa

/- RefChk -/
namespace Go.Proofs.Ytkhcjkmifddlbaa
open Go.RowKit

set_option maxHeartbeats 400000 in
theorem at_any (a : Option Addr) (n c : Nat) (X Y K : Nat → Int) (i : Int) (w : World) (h0 : 0 ≤ i) (h1 : i ≤ 1099511627776) (hp : 0 < n) (hn : n ≤ 4294967296) (hr : RingAt w a n X Y K) :
    Calls Try.prog 145 #[.slice a n c, .int .i64 i] w fun e w' => e = .returned (.agg #[.int .i64 (X (i.toNat % n)), .int .i64 (Y (i.toNat % n)), .int .i64 (K (i.toNat % n))]) ∧ Below w.heap.size w w' := by
  obtain ⟨j, rfl⟩ := Int.eq_ofNat_of_zero_le h0
  rw [Int.toNat_natCast]
  rcases hr with h | ⟨b, off, rfl, hc⟩
  · omega
  have hlt : j % n < n := Nat.mod_lt _ hp
  obtain ⟨c0, c1, c2⟩ := hc (j % n) hlt
  have hbw : b < w.heap.size := World.block_lt_of_cell? w _ c0
  clear hc
  obtain ⟨m, hm⟩ : ∃ m, m = j % n := ⟨_, rfl⟩
  rw [← hm] at c0 c1 c2 hlt ⊢
  have e : (j : Int) % (n : Int) = (m : Int) := by rw [hm]; simp
  clear hm
  have hn0 : ¬ (n : Int) = 0 := by omega
  have g1 : (m : Int) < (n : Int) := by omega
  go_enter Try.func145, Try.ntmps145
  go_wp2
  refine bodyPost_ret (v := .agg #[.int .i64 (X m), .int .i64 (Y m), .int .i64 (K m)]) (by simp [results, Try.results145, go_sem]) rfl ⟨rfl, ?_⟩
  (repeat (any_goals (first | exact Below.refl _ _ | assumption | refine Below.drew ?_ | refine below_drewN ?_ _ | refine Below.setCell ?_ ?_ _ | refine Below.alloc ?_ ?_ _ | omega | (simp; done) | (simp; omega))))

set_option maxHeartbeats 400000 in
theorem refMayStand_any (a : Option Addr) (n c : Nat) (X Y K : Nat → Int) (i : Nat) (w : World) (hi : i < n) (hn : n ≤ 4294967296) (hr : RingAt w a n X Y K) :
    Calls Try.prog 118 #[.slice a n c, .int .i64 i] w fun e w' => e = .returned (.bool (!Num.badB K n i)) ∧ Below w.heap.size w w' := by
  have hbad : (!Num.badB K n i) = Num.mayB (K ((i + n - 1) % n)) (K i) (K ((i + 1) % n)) := by
    rw [Num.prevK_mod K n i hi, Num.nextK_mod K n i hi]; simp [Num.badB]
  rw [hbad]
  clear hbad
  have HR := hide hr
  clear hr
  rcases HR.out with h | ⟨b, off, rfl, hc⟩
  · omega
  obtain ⟨_, _, c2⟩ := hc i hi
  have hbw : b < w.heap.size := World.block_lt_of_cell? w _ c2
  clear hc
  have g1 : (i : Int) < (n : Int) := by omega
  by_cases h2 : K i = 2
  · rw [h2] at c2 ⊢
    go_enter Try.func118, Try.ntmps118
    go_wp2_with fail
    refine (at_any _ _ _ X Y K _ _ (by omega) (by omega) (by omega) hn HR.out).mono ?_
    rw [show ((i : Int) + (n : Int) - 1).toNat = i + n - 1 by omega]
    rintro e w1 ⟨rfl, hb⟩
    have HR1 := hide (HR.out.below hb)
    have hz : w.heap.size ≤ w1.heap.size := hb.size
    go_wp2_with fail
    refine (at_any _ _ _ X Y K _ _ (by omega) (by omega) (by omega) hn (HR1.out.below (by (repeat (any_goals (first | exact Below.refl _ _ | assumption | refine Below.drew ?_ | refine below_drewN ?_ _ | refine Below.setCell ?_ ?_ _ | refine Below.alloc ?_ ?_ _ | omega | (simp; done) | (simp; omega))))))).mono ?_
    rw [show ((i : Int) + 1).toNat = i + 1 by omega]
    rintro e w2 ⟨rfl, hb2⟩
    obtain ⟨hc2, hfz2⟩ := bcell hb2
    have hz2 : w1.heap.size < w2.heap.size := by have := hb2.size; simp at this; omega
    have q2 : w2.cell? ⟨w1.heap.size, 2, none⟩ = some (.int .i64 (K ((i + n - 1) % n))) := by rw [hc2 _ _ (by simp)]; go_simp
    have hb3 : Below w.heap.size w w2 := Below.trans (by (repeat (any_goals (first | exact Below.refl _ _ | assumption | refine Below.drew ?_ | refine below_drewN ?_ _ | refine Below.setCell ?_ ?_ _ | refine Below.alloc ?_ ?_ _ | omega | (simp; done) | (simp; omega))))) (hb2.mono (by simp; omega))
    clear hb2 hc2 hfz2
    go_wp2
    all_goals
      go_ret
      refine ⟨ret_bool ?_, by (repeat (any_goals (first | exact Below.refl _ _ | assumption | refine Below.drew ?_ | refine below_drewN ?_ _ | refine Below.setCell ?_ ?_ _ | refine Below.alloc ?_ ?_ _ | omega | (simp; done) | (simp; omega))))⟩
      simp_all [Num.mayB]
  · have hne : (K i != 2) = true := by simpa using h2
    have e : Num.mayB (K ((i + n - 1) % n)) (K i) (K ((i + 1) % n)) = (K i == 0 || K i == 1) := by simp [Num.mayB, h2]
    rw [e]
    clear e
    go_enter Try.func118, Try.ntmps118
    go_wp2
    all_goals
      go_ret
      refine ⟨ret_bool ?_, by (repeat (any_goals (first | exact Below.refl _ _ | assumption | refine Below.drew ?_ | refine below_drewN ?_ _ | refine Below.setCell ?_ ?_ _ | refine Below.alloc ?_ ?_ _ | omega | (simp; done) | (simp; omega))))⟩
      simp_all

set_option maxHeartbeats 400000 in
theorem refFar_any (x y k : Int) (w : World) :
    Calls Try.prog 85 #[.agg #[.int .i64 x, .int .i64 y, .int .i64 k]] w fun e w' => e = .returned (.bool (!(Num.wi x 4096 && Num.wi y 4096))) ∧ Below w.heap.size w w' := by
  go_enter Try.func85, Try.ntmps85
  go_wp2
  all_goals
    go_ret
    refine ⟨ret_bool ?_, by (repeat (any_goals (first | exact Below.refl _ _ | assumption | refine Below.drew ?_ | refine below_drewN ?_ _ | refine Below.setCell ?_ ?_ _ | refine Below.alloc ?_ ?_ _ | omega | (simp; done) | (simp; omega))))⟩
    rw [Bool.eq_iff_iff]
    simp [Num.wi]
    omega

set_option maxHeartbeats 400000 in
theorem refShape_any (a : Option Addr) (n c : Nat) (X Y K : Nat → Int) (w : World) (hn : n ≤ 4294967296) (hr : RingAt w a n X Y K) :
    Calls Try.prog 84 #[.slice a n c] w fun e w' => e = .returned (.int .i64 (Num.shapeI K n)) ∧ Below w.heap.size w w' := by
  have HR := hide hr
  clear hr
  by_cases h2 : n < 2
  · have e : Num.shapeI K n = n := by unfold Num.shapeI; rw [if_pos h2]
    rw [e]
    clear e
    go_enter Try.func84, Try.ntmps84
    go_wp2_with fail
    go_ret
    exact ⟨rfl, Below.refl _ _⟩
  · have e : Num.shapeI K n = Num.firstI (Num.badB K n) n := by unfold Num.shapeI; rw [if_neg h2]
    rw [e]
    clear e
    go_enter Try.func84, Try.ntmps84
    go_wp2_with fail
    go_loopw [3] (fun i wr => ∃ k : Nat, k ≤ n ∧ i = .int .i64 k ∧ Below w.heap.size w wr ∧ ∀ j, j < k → Num.badB K n j = false) (fun i _ => n - (intOf i).toNat)
    case atStart => exact ⟨0, by omega, rfl, Below.refl _ _, by omega⟩
    case round =>
      obtain ⟨k, hk, rfl, hb, hno⟩ := hrel
      have hsz := hb.size
      have HN := hide hno
      clear hno
      by_cases hlt : k < n
      · go_wp2_with fail
        refine (refMayStand_any _ _ _ _ _ _ k _ hlt hn (HR.out.below hb)).mono ?_
        rintro e w1 ⟨rfl, hb1⟩
        have hb2 : Below w.heap.size w w1 := hb.trans (hb1.mono hsz)
        clear hb1
        cases hs : Num.badB K n k
        · have HS := hide hs
          clear hs
          go_wp2
          go_roundw
          case rel =>
            refine ⟨k + 1, by omega, by go_num, hb2, fun j hj => ?_⟩
            by_cases ej : j = k
            · subst ej; exact HS.out
            · exact HN.out j (by omega)
          case measure => simp [intOf]; omega
        · have HS := hide hs
          clear hs
          go_wp2
          go_ret
          exact ⟨ret_int (Num.firstI_hit _ _ _ hlt HS.out HN.out).symm, hb2⟩
      · have e : k = n := by omega
        subst e
        go_wp2
        go_ret
        exact ⟨ret_int (Num.firstI_none _ _ HN.out).symm, hb⟩
end Go.Proofs.Ytkhcjkmifddlbaa

/- RefSeg -/
namespace Go.Proofs.Ytkhcjkmifddlbaa
open Go.RowKit

def thereB (K : Nat → Int) (n t : Nat) : Bool := if t % 2 = 0 then true else (K (t / 2 % n) == 1 && K ((t / 2 + 1) % n) == 1)
theorem stp_there {X Y K : Nat → Int} {n t : Nat} : Num.stp X Y K n t = if thereB K n t = true then some (Num.stv X Y K n t) else none := by
  unfold Num.stp thereB Num.stv
  by_cases h : t % 2 = 0
  · simp [h]
  · simp only [if_neg h]
    by_cases h2 : K (t / 2 % n) = 1 ∧ K ((t / 2 + 1) % n) = 1
    · rw [if_pos h2, if_pos (by simp [h2])]
    · rw [if_neg h2, if_neg (by simpa using h2)]

set_option maxRecDepth 100000 in
set_option maxHeartbeats 2000000 in
theorem stop_any (a : Option Addr) (n c t : Nat) (X Y K : Nat → Int) (w : World) (hp : 0 < n) (hn : n ≤ 2097152) (ht : t ≤ 16777216) (hX : ∀ i, i < n → -4096 ≤ X i ∧ X i ≤ 4096) (hY : ∀ i, i < n → -4096 ≤ Y i ∧ Y i ≤ 4096) (hr : RingAt w a n X Y K) :
    Calls Try.prog 147 #[.slice a n c, .int .i64 t] w fun e w' => e = .returned (.tuple #[.agg #[.int .i64 (Num.stv X Y K n t).1, .int .i64 (Num.stv X Y K n t).2.1], .int .i64 (Num.stv X Y K n t).2.2, .bool (thereB K n t)]) ∧ Below w.heap.size w w' := by
  have HR := hide hr
  have i1 : t / 2 % n < n := Nat.mod_lt _ hp
  have i2 : (t / 2 + 1) % n < n := Nat.mod_lt _ hp
  obtain ⟨bX, bX'⟩ := hX _ i1
  obtain ⟨bY, bY'⟩ := hY _ i1
  obtain ⟨cX, cX'⟩ := hX _ i2
  obtain ⟨cY, cY'⟩ := hY _ i2
  clear hr hX hY
  by_cases hev : t % 2 = 0
  · have e1 : Num.stv X Y K n t = (2 * X (t / 2 % n), 2 * Y (t / 2 % n), K (t / 2 % n)) := by unfold Num.stv; rw [if_pos hev]
    have e2 : thereB K n t = true := by unfold thereB; rw [if_pos hev]
    rw [e1, e2]
    clear e1 e2
    obtain ⟨p0, h0⟩ : ∃ p0, p0 = X (t / 2 % n) := ⟨_, rfl⟩
    obtain ⟨p1, h1⟩ : ∃ p1, p1 = Y (t / 2 % n) := ⟨_, rfl⟩
    obtain ⟨p2, h2⟩ : ∃ p2, p2 = K (t / 2 % n) := ⟨_, rfl⟩
    rw [← h0, ← h1, ← h2]
    rw [← h0] at bX bX'
    rw [← h1] at bY bY'
    have H0 := hide h0
    have H1 := hide h1
    have H2 := hide h2
    clear h0 h1 h2
    have hev1 : ((t : Int) % 2 == 0) = true := by simp; omega
    go_enter Try.func147, Try.ntmps147
    go_wp2_with fail
    refine (at_any _ _ _ X Y K _ _ (by omega) (by omega) hp (by omega) (HR.out.below (by (repeat (any_goals (first | exact Below.refl _ _ | assumption | refine Below.drew ?_ | refine below_drewN ?_ _ | refine Below.setCell ?_ ?_ _ | refine Below.alloc ?_ ?_ _ | omega | (simp; done) | (simp; omega))))))).mono ?_
    rw [show ((t : Int) / 2).toNat = t / 2 by omega]
    rw [← H0.out, ← H1.out, ← H2.out]
    rintro e w1 ⟨rfl, hb⟩
    obtain ⟨hc, hfz⟩ := bcell hb
    have q0 : w1.cell? ⟨w.heap.size, 0, none⟩ = some (.int .i64 0) := by rw [hc _ _ (by simp)]; go_simp
    have q1 : w1.cell? ⟨w.heap.size, 1, none⟩ = some (.int .i64 0) := by rw [hc _ _ (by simp)]; go_simp
    have z0 : w1.frozen? ⟨w.heap.size, 0, none⟩ = false := by rw [hfz _ _ (by simp)]; go_simp
    have z1 : w1.frozen? ⟨w.heap.size, 1, none⟩ = false := by rw [hfz _ _ (by simp)]; go_simp
    have hz : w.heap.size < w1.heap.size := by have := hb.size; simp at this; omega
    have hb0 : Below w.heap.size w w1 := Below.trans (by (repeat (any_goals (first | exact Below.refl _ _ | assumption | refine Below.drew ?_ | refine below_drewN ?_ _ | refine Below.setCell ?_ ?_ _ | refine Below.alloc ?_ ?_ _ | omega | (simp; done) | (simp; omega))))) (hb.mono (by simp))
    have HB := hide hb0
    clear hb hc hfz hb0
    have m1 := wrap_ok (2 * p0) (by omega) (by omega)
    have m2 := wrap_ok (2 * p1) (by omega) (by omega)
    go_wp2_with fail
    go_region
    go_wp2
    have := HB.out
    refine bodyPost_ret (v := .tuple #[.agg #[.int .i64 (2 * p0), .int .i64 (2 * p1)], .int .i64 p2, .bool true]) (by simp [results, Try.results147, go_sem, q0, q1, hz]) rfl ⟨rfl, ?_⟩
    (repeat (any_goals (first | exact Below.refl _ _ | assumption | refine Below.drew ?_ | refine below_drewN ?_ _ | refine Below.setCell ?_ ?_ _ | refine Below.alloc ?_ ?_ _ | omega | (simp; done) | (simp; omega))))
  · have e1 : Num.stv X Y K n t = (X (t / 2 % n) + X ((t / 2 + 1) % n), Y (t / 2 % n) + Y ((t / 2 + 1) % n), 0) := by unfold Num.stv; rw [if_neg hev]
    have e2 : thereB K n t = (K (t / 2 % n) == 1 && K ((t / 2 + 1) % n) == 1) := by unfold thereB; rw [if_neg hev]
    rw [e1, e2]
    clear e1 e2
    obtain ⟨p0, h0⟩ : ∃ p0, p0 = X (t / 2 % n) := ⟨_, rfl⟩
    obtain ⟨p1, h1⟩ : ∃ p1, p1 = Y (t / 2 % n) := ⟨_, rfl⟩
    obtain ⟨p2, h2⟩ : ∃ p2, p2 = K (t / 2 % n) := ⟨_, rfl⟩
    rw [← h0, ← h1, ← h2]
    rw [← h0] at bX bX'
    rw [← h1] at bY bY'
    have H0 := hide h0
    have H1 := hide h1
    have H2 := hide h2
    clear h0 h1 h2
    obtain ⟨r0, h0⟩ : ∃ r0, r0 = X ((t / 2 + 1) % n) := ⟨_, rfl⟩
    obtain ⟨r1, h1⟩ : ∃ r1, r1 = Y ((t / 2 + 1) % n) := ⟨_, rfl⟩
    obtain ⟨r2, h2⟩ : ∃ r2, r2 = K ((t / 2 + 1) % n) := ⟨_, rfl⟩
    rw [← h0, ← h1, ← h2]
    rw [← h0] at cX cX'
    rw [← h1] at cY cY'
    have G0 := hide h0
    have G1 := hide h1
    have G2 := hide h2
    clear h0 h1 h2
    have hev1 : ((t : Int) % 2 == 0) = false := by simp; omega
    go_enter Try.func147, Try.ntmps147
    go_wp2_with fail
    refine (at_any _ _ _ X Y K _ _ (by omega) (by omega) hp (by omega) (HR.out.below (by (repeat (any_goals (first | exact Below.refl _ _ | assumption | refine Below.drew ?_ | refine below_drewN ?_ _ | refine Below.setCell ?_ ?_ _ | refine Below.alloc ?_ ?_ _ | omega | (simp; done) | (simp; omega))))))).mono ?_
    rw [show ((t : Int) / 2).toNat = t / 2 by omega]
    rw [← H0.out, ← H1.out, ← H2.out]
    rintro e w1 ⟨rfl, hb⟩
    obtain ⟨hc, hfz⟩ := bcell hb
    have q0 : w1.cell? ⟨w.heap.size, 0, none⟩ = some (.int .i64 0) := by rw [hc _ _ (by simp)]; go_simp
    have q1 : w1.cell? ⟨w.heap.size, 1, none⟩ = some (.int .i64 0) := by rw [hc _ _ (by simp)]; go_simp
    have z0 : w1.frozen? ⟨w.heap.size, 0, none⟩ = false := by rw [hfz _ _ (by simp)]; go_simp
    have z1 : w1.frozen? ⟨w.heap.size, 1, none⟩ = false := by rw [hfz _ _ (by simp)]; go_simp
    have hz : w.heap.size < w1.heap.size := by have := hb.size; simp at this; omega
    have hb0 : Below w.heap.size w w1 := Below.trans (by (repeat (any_goals (first | exact Below.refl _ _ | assumption | refine Below.drew ?_ | refine below_drewN ?_ _ | refine Below.setCell ?_ ?_ _ | refine Below.alloc ?_ ?_ _ | omega | (simp; done) | (simp; omega))))) (hb.mono (by simp))
    have HB := hide hb0
    clear hb hc hfz hb0
    go_wp2_with fail
    refine (at_any _ _ _ X Y K _ _ (by omega) (by omega) hp (by omega) (HR.out.below (by have := HB.out; (repeat (any_goals (first | exact Below.refl _ _ | assumption | refine Below.drew ?_ | refine below_drewN ?_ _ | refine Below.setCell ?_ ?_ _ | refine Below.alloc ?_ ?_ _ | omega | (simp; done) | (simp; omega))))))).mono ?_
    rw [show ((t : Int) / 2 + 1).toNat = t / 2 + 1 by omega]
    rw [← G0.out, ← G1.out, ← G2.out]
    rintro e w2 ⟨rfl, hb⟩
    obtain ⟨hc, hfz⟩ := bcell hb
    have o0 : w2.cell? ⟨w.heap.size, 0, none⟩ = some (.int .i64 0) := by rw [hc _ _ (by simp; omega)]; go_simp
    have o1 : w2.cell? ⟨w.heap.size, 1, none⟩ = some (.int .i64 0) := by rw [hc _ _ (by simp; omega)]; go_simp
    have y0 : w2.frozen? ⟨w.heap.size, 0, none⟩ = false := by rw [hfz _ _ (by simp; omega)]; go_simp
    have y1 : w2.frozen? ⟨w.heap.size, 1, none⟩ = false := by rw [hfz _ _ (by simp; omega)]; go_simp
    have d0 : w2.cell? ⟨w1.heap.size, 0, none⟩ = some (.int .i64 p0) := by rw [hc _ _ (by simp)]; go_simp
    have d1 : w2.cell? ⟨w1.heap.size, 1, none⟩ = some (.int .i64 p1) := by rw [hc _ _ (by simp)]; go_simp
    have d2 : w2.cell? ⟨w1.heap.size, 2, none⟩ = some (.int .i64 p2) := by rw [hc _ _ (by simp)]; go_simp
    have hz2 : w1.heap.size < w2.heap.size := by have := hb.size; simp at this; omega
    have hz3 : w.heap.size < w2.heap.size := by omega
    have hb0 : Below w.heap.size w w2 := Below.trans (by have := HB.out; (repeat (any_goals (first | exact Below.refl _ _ | assumption | refine Below.drew ?_ | refine below_drewN ?_ _ | refine Below.setCell ?_ ?_ _ | refine Below.alloc ?_ ?_ _ | omega | (simp; done) | (simp; omega))))) (hb.mono (by simp; omega))
    have HB2 := hide hb0
    clear hb hc hfz hb0 q0 q1 z0 z1 HB
    have m1 := wrap_ok (p0 + r0) (by omega) (by omega)
    have m2 := wrap_ok (p1 + r1) (by omega) (by omega)
    have fin : ∀ (bb : Bool), (p2 == 1 && r2 == 1) = bb → True := fun _ _ => trivial
    clear fin
    cases hk : (p2 == 1)
    · go_wp2_with fail
      go_region
      go_wp2
      have := HB2.out
      refine bodyPost_ret (v := .tuple #[.agg #[.int .i64 (p0 + r0), .int .i64 (p1 + r1)], .int .i64 0, .bool false]) (by simp [results, Try.results147, go_sem, o0, o1, hz3]) rfl ⟨by simp [hk], ?_⟩
      (repeat (any_goals (first | exact Below.refl _ _ | assumption | refine Below.drew ?_ | refine below_drewN ?_ _ | refine Below.setCell ?_ ?_ _ | refine Below.alloc ?_ ?_ _ | omega | (simp; done) | (simp; omega))))
    · cases hk2 : (r2 == 1)
      · go_wp2_with fail
        go_region
        go_wp2
        have := HB2.out
        refine bodyPost_ret (v := .tuple #[.agg #[.int .i64 (p0 + r0), .int .i64 (p1 + r1)], .int .i64 0, .bool false]) (by simp [results, Try.results147, go_sem, o0, o1, hz3]) rfl ⟨by simp [hk, hk2], ?_⟩
        (repeat (any_goals (first | exact Below.refl _ _ | assumption | refine Below.drew ?_ | refine below_drewN ?_ _ | refine Below.setCell ?_ ?_ _ | refine Below.alloc ?_ ?_ _ | omega | (simp; done) | (simp; omega))))
      · go_wp2_with fail
        go_region
        go_wp2
        have := HB2.out
        refine bodyPost_ret (v := .tuple #[.agg #[.int .i64 (p0 + r0), .int .i64 (p1 + r1)], .int .i64 0, .bool true]) (by simp [results, Try.results147, go_sem, o0, o1, hz3]) rfl ⟨by simp [hk, hk2], ?_⟩
        (repeat (any_goals (first | exact Below.refl _ _ | assumption | refine Below.drew ?_ | refine below_drewN ?_ _ | refine Below.setCell ?_ ?_ _ | refine Below.alloc ?_ ?_ _ | omega | (simp; done) | (simp; omega))))
end Go.Proofs.Ytkhcjkmifddlbaa

/- HeldB -/
namespace Go.Proofs.Ytkhcjkmifddlbaa
open Go.RowKit Go.Deep

set_option maxHeartbeats 400000 in
theorem mark_any (h : Nat) (s : HS) (w : World) (H : HeldInv w h s) (hn : s.n + 1 ≤ 1099511627776) :
    Calls Try.prog 87 #[.pointer (some ⟨h, 2, none⟩)] w fun e w' => e = .returned (.int .i64 (s.n + 1)) ∧ w' = w.setCell ⟨h, 2, none⟩ (.int .i64 (s.n + 1)) := by
  have c2 : w.cell? ⟨h, 2, none⟩ = some (.int .i64 s.n) := by rw [H.wd.cell (by omega)]; rfl
  have z2 := H.wd.frozen 2
  have l0 : 0 ≤ s.n := by have := H.lo; omega
  clear H
  go_enter Try.func87, Try.ntmps87
  go_wp2
  go_ret
  exact ⟨rfl, rfl⟩

set_option maxHeartbeats 400000 in
theorem markPoint_any (n : Int) (w : World) (h0 : 0 ≤ n) (h1 : n ≤ 1099511627776) :
    Calls Try.prog 88 #[.int .i64 n] w fun e w' => e = .returned (.agg #[.int .i64 (2199023255552 + n), .int .i64 (-7), .int .i64 9]) ∧ w' = w.alloc (.cells #[.int .i64 (2199023255552 + n), .int .i64 (-7), .int .i64 9] 133) := by
  go_enter Try.func88, Try.ntmps88
  go_wp2
  exact bodyPost_ret (v := .agg #[.int .i64 (2199023255552 + n), .int .i64 (-7), .int .i64 9]) (by simp [results, Try.results88, go_sem]) rfl ⟨rfl, rfl⟩

set_option maxHeartbeats 400000 in
theorem markSpot_any (n : Int) (w : World) (h0 : 0 ≤ n) (h1 : n ≤ 1099511627776) :
    Calls Try.prog 91 #[.int .i64 n] w fun e w' => e = .returned (.agg #[.int .i64 (2199023255552 + n), .int .i64 (-7)]) ∧ w' = w.alloc (.cells #[.int .i64 (2199023255552 + n), .int .i64 (-7)] 41) := by
  go_enter Try.func91, Try.ntmps91
  go_wp2
  exact bodyPost_ret (v := .agg #[.int .i64 (2199023255552 + n), .int .i64 (-7)]) (by simp [results, Try.results91, go_sem]) rfl ⟨rfl, rfl⟩

/-- A segment that is a mark. -/
def segMark (n : Int) : Value := .agg #[.int .i64 9, .int .i64 (2199023255552 + n), .int .i64 (-7), .int .i64 (2199023255552 + n), .int .i64 (-7), .int .i64 (2199023255552 + n), .int .i64 (-7), .int .i64 (2199023255552 + n), .int .i64 (-7)]

set_option maxHeartbeats 400000 in
theorem markSegment_any (n : Int) (w : World) (h0 : 0 ≤ n) (h1 : n ≤ 1099511627776) :
    Calls Try.prog 54 #[.int .i64 n] w fun e w' => e = .returned (segMark n) ∧ Below w.heap.size w w' := by
  go_enter Try.func54, Try.ntmps54
  go_wp2_with fail
  refine (markSpot_any _ _ h0 h1).mono ?_
  rintro e w1 ⟨rfl, rfl⟩
  go_wp2
  refine bodyPost_ret (v := segMark n) (by simp [results, Try.results54, go_sem, segMark]) rfl ⟨rfl, ?_⟩
  (repeat (any_goals (first | exact Below.refl _ _ | assumption | refine Below.drew ?_ | refine below_drewN ?_ _ | refine Below.setCell ?_ ?_ _ | refine Below.alloc ?_ ?_ _ | omega | (simp; done) | (simp; omega))))
theorem mkB_eq (n i q : Int) : IntKind.u8.wrap (IntKind.i64.wrap (n + IntKind.i64.wrap (i * q))) = IntKind.u8.wrap (n + i * q) := by
  rw [IntKind.wrap_u8, IntKind.wrap_u8, IntKind.wrap_i64, IntKind.wrap_i64]
  omega

set_option maxHeartbeats 400000 in
theorem markByte_any (n : Int) (i : Nat) (w : World) (h0 : 0 ≤ n) (h1 : n ≤ 1099511627776) :
    Calls Try.prog 55 #[.int .i64 n, .int .i64 i] w fun e w' => e = .returned (mkB n i) ∧ w' = w := by
  go_enter Try.func55, Try.ntmps55
  go_wp2
  go_ret
  refine ⟨?_, rfl⟩
  unfold mkB
  rw [← mkB_eq, IntKind.wrap_u8, IntKind.wrap_i64, IntKind.wrap_i64]
  show Ending.returned (.int .u8 (wrap64 (n + wrap64 ((i : Int) * (1 + n / 256))) % 256)) = _
  unfold wrap64
  rfl
end Go.Proofs.Ytkhcjkmifddlbaa

/- RingS -/
namespace Go.Proofs.Ytkhcjkmifddlbaa
open Go.RowKit Go.Deep

/-- A segment as a value, and its cells. -/
def sgC (g : Num.Sg) : List Value := [.int .i64 g.k, .int .i64 g.x0, .int .i64 g.y0, .int .i64 g.x1, .int .i64 g.y1, .int .i64 g.x2, .int .i64 g.y2, .int .i64 g.x3, .int .i64 g.y3]
def sgF (g : Num.Sg) (q : Nat) : Value := (sgC g)[q]?.getD undef

set_option maxHeartbeats 400000 in
theorem spot_any (x y k : Int) (w : World) :
    Calls Try.prog 161 #[.agg #[.int .i64 x, .int .i64 y, .int .i64 k]] w fun e w' => e = .returned (.agg #[.int .i64 x, .int .i64 y]) ∧ w' = (w.alloc (.cells #[.int .i64 x, .int .i64 y, .int .i64 k] 133)).alloc (.cells #[.int .i64 x, .int .i64 y] 41) := by
  go_enter Try.func161, Try.ntmps161
  go_wp2
  exact bodyPost_ret (v := .agg #[.int .i64 x, .int .i64 y]) (by simp [results, Try.results161, go_sem]) rfl ⟨rfl, rfl⟩

set_option maxRecDepth 100000 in
set_option maxHeartbeats 1000000 in
theorem withControl_any (g : Num.Sg) (p : Int × Int × Int) (w : World) :
    Calls Try.prog 162 #[.agg #[.int .i64 g.k, .int .i64 g.x0, .int .i64 g.y0, .int .i64 g.x1, .int .i64 g.y1, .int .i64 g.x2, .int .i64 g.y2, .int .i64 g.x3, .int .i64 g.y3], .agg #[.int .i64 p.1, .int .i64 p.2.1, .int .i64 p.2.2]] w fun e w' => e = .returned (.agg #[.int .i64 (Num.addP g p).k, .int .i64 (Num.addP g p).x0, .int .i64 (Num.addP g p).y0, .int .i64 (Num.addP g p).x1, .int .i64 (Num.addP g p).y1, .int .i64 (Num.addP g p).x2, .int .i64 (Num.addP g p).y2, .int .i64 (Num.addP g p).x3, .int .i64 (Num.addP g p).y3]) ∧ Below w.heap.size w w' := by
  obtain ⟨k, x0, y0, x1, y1, x2, y2, x3, y3⟩ := g
  obtain ⟨px, py, pk⟩ := p
  by_cases h0 : k = 0
  · have e : Num.addP ⟨k, x0, y0, x1, y1, x2, y2, x3, y3⟩ (px, py, pk) = ⟨pk, x0, y0, px, py, x2, y2, x3, y3⟩ := by simp [Num.addP, h0]
    rw [e]
    clear e
    have hb : (k == 0) = true := by simp [h0]
    clear h0
    go_enter Try.func162, Try.ntmps162
    go_wp2_with (go_at_call 161; refine (spot_any _ _ _ _).mono ?_; rintro e w' ⟨rfl, rfl⟩)
    refine bodyPost_ret (v := .agg #[.int .i64 pk, .int .i64 x0, .int .i64 y0, .int .i64 px, .int .i64 py, .int .i64 x2, .int .i64 y2, .int .i64 x3, .int .i64 y3]) (by simp [results, Try.results162, go_sem]) rfl ⟨rfl, ?_⟩
    (repeat (any_goals (first | exact Below.refl _ _ | assumption | refine Below.drew ?_ | refine below_drewN ?_ _ | refine Below.setCell ?_ ?_ _ | refine Below.alloc ?_ ?_ _ | omega | (simp; done) | (simp; omega))))
  · have e : Num.addP ⟨k, x0, y0, x1, y1, x2, y2, x3, y3⟩ (px, py, pk) = ⟨k, x0, y0, x1, y1, px, py, x3, y3⟩ := by simp [Num.addP, h0]
    rw [e]
    clear e
    have hb : (k == 0) = false := by simp [h0]
    clear h0
    go_enter Try.func162, Try.ntmps162
    go_wp2_with (go_at_call 161; refine (spot_any _ _ _ _).mono ?_; rintro e w' ⟨rfl, rfl⟩)
    refine bodyPost_ret (v := .agg #[.int .i64 k, .int .i64 x0, .int .i64 y0, .int .i64 x1, .int .i64 y1, .int .i64 px, .int .i64 py, .int .i64 x3, .int .i64 y3]) (by simp [results, Try.results162, go_sem]) rfl ⟨rfl, ?_⟩
    (repeat (any_goals (first | exact Below.refl _ _ | assumption | refine Below.drew ?_ | refine below_drewN ?_ _ | refine Below.setCell ?_ ?_ _ | refine Below.alloc ?_ ?_ _ | omega | (simp; done) | (simp; omega))))

set_option maxHeartbeats 400000 in
theorem firstOn_any (a : Option Addr) (n c : Nat) (X Y K : Nat → Int) (w : World) (hn : n ≤ 4294967296) (hr : RingAt w a n X Y K) :
    Calls Try.prog 160 #[.slice a n c] w fun e w' => e = .returned (.int .i64 (Num.firstI (fun j => K j == 0) n)) ∧ Below w.heap.size w w' := by
  have HR := hide hr
  clear hr
  go_enter Try.func160, Try.ntmps160
  go_wp2_with fail
  go_loopw [7] (fun i wr => ∃ k : Nat, k ≤ n ∧ i = .int .i64 k ∧ Below w.heap.size w wr ∧ ∀ j, j < k → (K j == 0) = false) (fun i _ => n - (intOf i).toNat)
  case atStart => exact ⟨0, by omega, rfl, Below.refl _ _, by omega⟩
  case round =>
    obtain ⟨k, hk, rfl, hb, hno⟩ := hrel
    have hsz := hb.size
    have HN := hide hno
    clear hno
    by_cases hlt : k < n
    · rcases HR.out.below hb with h | ⟨b, off, rfl, hc⟩
      · omega
      obtain ⟨c0, c1, c2⟩ := hc k hlt
      clear hc
      cases hz : (K k == 0)
      · go_wp2
        go_roundw
        case rel =>
          refine ⟨k + 1, by omega, by go_num, by (repeat (any_goals (first | exact Below.refl _ _ | assumption | refine Below.drew ?_ | refine below_drewN ?_ _ | refine Below.setCell ?_ ?_ _ | refine Below.alloc ?_ ?_ _ | omega | (simp; done) | (simp; omega)))), fun j hj => ?_⟩
          by_cases ej : j = k
          · subst ej; exact hz
          · exact HN.out j (by omega)
        case measure => simp [intOf]; omega
      · go_wp2
        go_ret
        exact ⟨ret_int (Num.firstI_hit _ _ _ hlt hz HN.out).symm, by (repeat (any_goals (first | exact Below.refl _ _ | assumption | refine Below.drew ?_ | refine below_drewN ?_ _ | refine Below.setCell ?_ ?_ _ | refine Below.alloc ?_ ?_ _ | omega | (simp; done) | (simp; omega))))⟩
    · go_wp2
      go_ret
      have e : k = n := by omega
      subst e
      exact ⟨ret_int (Num.firstI_none _ _ HN.out).symm, hb⟩
end Go.Proofs.Ytkhcjkmifddlbaa
