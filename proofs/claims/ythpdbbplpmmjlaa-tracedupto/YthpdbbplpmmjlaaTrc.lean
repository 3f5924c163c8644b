/- Segments that are placed: the program's way, and the document's. -/
import Derived.Test.YthpdbbplpmmjlaaCrvP
import Derived.Test.YthpdbbplpmmjlaaPlaceB
import Derived.Test.YthpdbbplpmmjlaaTraceV
namespace Go.Proofs.Ythpdbbplpmmjlaa
open Go.RowKit Go.Deep

/-- The cells of a map; of a spot. -/
def mp6 (a b c d x y : Int) (q : Nat) : Value := [Value.int .i64 a, .int .i64 b, .int .i64 c, .int .i64 d, .int .i64 x, .int .i64 y][q]?.getD undef
theorem mp6_row (a b c d x y : Int) (w : World) (t : TypeId) : (w.alloc (.cells #[.int .i64 a, .int .i64 b, .int .i64 c, .int .i64 d, .int .i64 x, .int .i64 y] t)).rowIs w.heap.size t 6 (mp6 a b c d x y) := by
  refine World.rowIs_alloc w #[.int .i64 a, .int .i64 b, .int .i64 c, .int .i64 d, .int .i64 x, .int .i64 y] t (mp6 a b c d x y) (fun i hi => ?_)
  have hi : i < 6 := hi
  rcases (show i = 0 ∨ i = 1 ∨ i = 2 ∨ i = 3 ∨ i = 4 ∨ i = 5 by omega) with rfl | rfl | rfl | rfl | rfl | rfl <;> rfl
theorem mp6_cells {a b c d x y : Int} {w : World} {p : Nat} {t : TypeId} (h : w.rowIs p t 6 (mp6 a b c d x y)) :
    w.cell? ⟨p, 0, none⟩ = some (.int .i64 a) ∧ w.cell? ⟨p, 1, none⟩ = some (.int .i64 b) ∧ w.cell? ⟨p, 2, none⟩ = some (.int .i64 c) ∧ w.cell? ⟨p, 3, none⟩ = some (.int .i64 d) ∧ w.cell? ⟨p, 4, none⟩ = some (.int .i64 x) ∧ w.cell? ⟨p, 5, none⟩ = some (.int .i64 y) :=
  ⟨h.cell (i := 0) (by omega), h.cell (i := 1) (by omega), h.cell (i := 2) (by omega), h.cell (i := 3) (by omega), h.cell (i := 4) (by omega), h.cell (i := 5) (by omega)⟩
def tp2 (x y : Int) (q : Nat) : Value := [Value.int .i64 x, .int .i64 y][q]?.getD undef
theorem tp2_row (x y : Int) (w : World) (t : TypeId) : (w.alloc (.cells #[.int .i64 x, .int .i64 y] t)).rowIs w.heap.size t 2 (tp2 x y) := by
  refine World.rowIs_alloc w #[.int .i64 x, .int .i64 y] t (tp2 x y) (fun i hi => ?_)
  have hi : i < 2 := hi
  rcases (show i = 0 ∨ i = 1 by omega) with rfl | rfl <;> rfl
theorem tp2_cells {x y : Int} {w : World} {b : Nat} {t : TypeId} (h : w.rowIs b t 2 (tp2 x y)) : w.cell? ⟨b, 0, none⟩ = some (.int .i64 x) ∧ w.cell? ⟨b, 1, none⟩ = some (.int .i64 y) :=
  ⟨h.cell (i := 0) (by omega), h.cell (i := 1) (by omega)⟩
theorem set9sg {w : World} {b : Nat} {t : TypeId} {f : Nat → Value} (h : w.rowIs b t 9 f) (v0 v1 v2 v3 v4 v5 v6 v7 v8 : Int) :
    (((((((((w.setCell ⟨b, 0, none⟩ (.int .i64 v0)).setCell ⟨b, 1, none⟩ (.int .i64 v1)).setCell ⟨b, 2, none⟩ (.int .i64 v2)).setCell ⟨b, 3, none⟩ (.int .i64 v3)).setCell ⟨b, 4, none⟩ (.int .i64 v4)).setCell ⟨b, 5, none⟩ (.int .i64 v5)).setCell ⟨b, 6, none⟩ (.int .i64 v6)).setCell ⟨b, 7, none⟩ (.int .i64 v7)).setCell ⟨b, 8, none⟩ (.int .i64 v8)).rowIs b t 9 (sg9 v0 v1 v2 v3 v4 v5 v6 v7 v8) := by
  refine (((((((((h.set 0 _).set 1 _).set 2 _).set 3 _).set 4 _).set 5 _).set 6 _).set 7 _).set 8 _).congr fun q hq => ?_
  rcases (show q = 0 ∨ q = 1 ∨ q = 2 ∨ q = 3 ∨ q = 4 ∨ q = 5 ∨ q = 6 ∨ q = 7 ∨ q = 8 by omega) with rfl | rfl | rfl | rfl | rfl | rfl | rfl | rfl | rfl <;> rfl
theorem zero_frozen {w : World} {b : Nat} {t : TypeId} {f : Nat → Value} (h : w.rowIs b t 9 f) : w.frozen? ⟨b, 0, none⟩ = false ∧ w.frozen? ⟨b, 1, none⟩ = false ∧ w.frozen? ⟨b, 2, none⟩ = false ∧ w.frozen? ⟨b, 3, none⟩ = false ∧ w.frozen? ⟨b, 4, none⟩ = false ∧ w.frozen? ⟨b, 5, none⟩ = false ∧ w.frozen? ⟨b, 6, none⟩ = false ∧ w.frozen? ⟨b, 7, none⟩ = false ∧ w.frozen? ⟨b, 8, none⟩ = false :=
  ⟨h.frozen 0, h.frozen 1, h.frozen 2, h.frozen 3, h.frozen 4, h.frozen 5, h.frozen 6, h.frozen 7, h.frozen 8⟩

set_option maxRecDepth 100000 in
set_option maxHeartbeats 4000000 in
theorem segPut_any (k x0 y0 x1 y1 x2 y2 x3 y3 a b c d x y : Int) (w : World) :
    Calls Try.prog 103 #[.agg #[.int .i64 k, .int .i64 x0, .int .i64 y0, .int .i64 x1, .int .i64 y1, .int .i64 x2, .int .i64 y2, .int .i64 x3, .int .i64 y3], .agg #[.int .i64 a, .int .i64 b, .int .i64 c, .int .i64 d, .int .i64 x, .int .i64 y]] w fun e w' => e = .returned (.tuple #[.agg #[.int .i64 (Num.putG (⟨a, b, c, d, x, y⟩ : Num.Mp) (⟨k, x0, y0, x1, y1, x2, y2, x3, y3⟩ : Num.Sg)).k, .int .i64 (Num.putG (⟨a, b, c, d, x, y⟩ : Num.Mp) (⟨k, x0, y0, x1, y1, x2, y2, x3, y3⟩ : Num.Sg)).x0, .int .i64 (Num.putG (⟨a, b, c, d, x, y⟩ : Num.Mp) (⟨k, x0, y0, x1, y1, x2, y2, x3, y3⟩ : Num.Sg)).y0, .int .i64 (Num.putG (⟨a, b, c, d, x, y⟩ : Num.Mp) (⟨k, x0, y0, x1, y1, x2, y2, x3, y3⟩ : Num.Sg)).x1, .int .i64 (Num.putG (⟨a, b, c, d, x, y⟩ : Num.Mp) (⟨k, x0, y0, x1, y1, x2, y2, x3, y3⟩ : Num.Sg)).y1, .int .i64 (Num.putG (⟨a, b, c, d, x, y⟩ : Num.Mp) (⟨k, x0, y0, x1, y1, x2, y2, x3, y3⟩ : Num.Sg)).x2, .int .i64 (Num.putG (⟨a, b, c, d, x, y⟩ : Num.Mp) (⟨k, x0, y0, x1, y1, x2, y2, x3, y3⟩ : Num.Sg)).y2, .int .i64 (Num.putG (⟨a, b, c, d, x, y⟩ : Num.Mp) (⟨k, x0, y0, x1, y1, x2, y2, x3, y3⟩ : Num.Sg)).x3, .int .i64 (Num.putG (⟨a, b, c, d, x, y⟩ : Num.Mp) (⟨k, x0, y0, x1, y1, x2, y2, x3, y3⟩ : Num.Sg)).y3], .int .i64 (Num.putE (⟨a, b, c, d, x, y⟩ : Num.Mp) (⟨k, x0, y0, x1, y1, x2, y2, x3, y3⟩ : Num.Sg))]) ∧ Below w.heap.size w w' := by
  obtain ⟨Q0, hQ0⟩ : ∃ Q, Q = Num.placeV a b c d x y x0 y0 := ⟨_, rfl⟩
  obtain ⟨Q1, hQ1⟩ : ∃ Q, Q = Num.placeV a b c d x y x1 y1 := ⟨_, rfl⟩
  obtain ⟨Q2, hQ2⟩ : ∃ Q, Q = Num.placeV a b c d x y x2 y2 := ⟨_, rfl⟩
  obtain ⟨Q3, hQ3⟩ : ∃ Q, Q = Num.placeV a b c d x y x3 y3 := ⟨_, rfl⟩
  have HOk : Hid (Num.putOk (⟨a, b, c, d, x, y⟩ : Num.Mp) (⟨k, x0, y0, x1, y1, x2, y2, x3, y3⟩ : Num.Sg) = (Q0.2.2 == 0 && Q1.2.2 == 0 && Q2.2.2 == 0 && Q3.2.2 == 0)) := by unfold Hid; rw [hQ0, hQ1, hQ2, hQ3]; rfl
  have HVv : Hid (Num.putV (⟨a, b, c, d, x, y⟩ : Num.Mp) (⟨k, x0, y0, x1, y1, x2, y2, x3, y3⟩ : Num.Sg) = ⟨k, Q0.1, Q0.2.1, Q1.1, Q1.2.1, Q2.1, Q2.2.1, Q3.1, Q3.2.1⟩) := by unfold Hid; rw [hQ0, hQ1, hQ2, hQ3]; rfl
  have HNo : Hid (Num.putOk (⟨a, b, c, d, x, y⟩ : Num.Mp) (⟨k, x0, y0, x1, y1, x2, y2, x3, y3⟩ : Num.Sg) = false → Num.putG (⟨a, b, c, d, x, y⟩ : Num.Mp) (⟨k, x0, y0, x1, y1, x2, y2, x3, y3⟩ : Num.Sg) = ⟨0, 0, 0, 0, 0, 0, 0, 0, 0⟩ ∧ Num.putE (⟨a, b, c, d, x, y⟩ : Num.Mp) (⟨k, x0, y0, x1, y1, x2, y2, x3, y3⟩ : Num.Sg) = 6) := fun h => by unfold Num.putG Num.putE; rw [h]; exact ⟨rfl, rfl⟩
  have HYe : Hid (Num.putOk (⟨a, b, c, d, x, y⟩ : Num.Mp) (⟨k, x0, y0, x1, y1, x2, y2, x3, y3⟩ : Num.Sg) = true → Num.putG (⟨a, b, c, d, x, y⟩ : Num.Mp) (⟨k, x0, y0, x1, y1, x2, y2, x3, y3⟩ : Num.Sg) = Num.putV (⟨a, b, c, d, x, y⟩ : Num.Mp) (⟨k, x0, y0, x1, y1, x2, y2, x3, y3⟩ : Num.Sg) ∧ Num.putE (⟨a, b, c, d, x, y⟩ : Num.Mp) (⟨k, x0, y0, x1, y1, x2, y2, x3, y3⟩ : Num.Sg) = 0) := fun h => by unfold Num.putG Num.putE; rw [h]; exact ⟨rfl, rfl⟩
  obtain ⟨PG, hPG⟩ : ∃ PG, PG = Num.putG (⟨a, b, c, d, x, y⟩ : Num.Mp) (⟨k, x0, y0, x1, y1, x2, y2, x3, y3⟩ : Num.Sg) := ⟨_, rfl⟩
  obtain ⟨PE, hPE⟩ : ∃ PE, PE = Num.putE (⟨a, b, c, d, x, y⟩ : Num.Mp) (⟨k, x0, y0, x1, y1, x2, y2, x3, y3⟩ : Num.Sg) := ⟨_, rfl⟩
  rw [← hPG, ← hPE] at HNo HYe ⊢
  rw [HOk.out] at HNo HYe
  rw [HVv.out] at HYe
  have HQ0 := hide hQ0
  have HQ1 := hide hQ1
  have HQ2 := hide hQ2
  have HQ3 := hide hQ3
  clear hQ0 hQ1 hQ2 hQ3 hPG hPE HOk HVv
  have HR0 := hide (sg9_row k x0 y0 x1 y1 x2 y2 x3 y3 w 44)
  have HM0 : Hid (((w.alloc (.cells #[.int .i64 k, .int .i64 x0, .int .i64 y0, .int .i64 x1, .int .i64 y1, .int .i64 x2, .int .i64 y2, .int .i64 x3, .int .i64 y3] 44)).alloc (.cells #[.int .i64 a, .int .i64 b, .int .i64 c, .int .i64 d, .int .i64 x, .int .i64 y] 39)).rowIs (w.heap.size + 1) 39 6 (mp6 a b c d x y)) := by
    have h := mp6_row a b c d x y (w.alloc (.cells #[.int .i64 k, .int .i64 x0, .int .i64 y0, .int .i64 x1, .int .i64 y1, .int .i64 x2, .int .i64 y2, .int .i64 x3, .int .i64 y3] 44)) 39
    rw [nblk_alloc] at h
    exact h
  have HZ0 : Hid ((((w.alloc (.cells #[.int .i64 k, .int .i64 x0, .int .i64 y0, .int .i64 x1, .int .i64 y1, .int .i64 x2, .int .i64 y2, .int .i64 x3, .int .i64 y3] 44)).alloc (.cells #[.int .i64 a, .int .i64 b, .int .i64 c, .int .i64 d, .int .i64 x, .int .i64 y] 39)).alloc (.cells #[.int .i64 0, .int .i64 0, .int .i64 0, .int .i64 0, .int .i64 0, .int .i64 0, .int .i64 0, .int .i64 0, .int .i64 0] 44)).rowIs (w.heap.size + 1 + 1) 44 9 (sg9 0 0 0 0 0 0 0 0 0)) := by
    have h := sg9_row 0 0 0 0 0 0 0 0 0 ((w.alloc (.cells #[.int .i64 k, .int .i64 x0, .int .i64 y0, .int .i64 x1, .int .i64 y1, .int .i64 x2, .int .i64 y2, .int .i64 x3, .int .i64 y3] 44)).alloc (.cells #[.int .i64 a, .int .i64 b, .int .i64 c, .int .i64 d, .int .i64 x, .int .i64 y] 39)) 44
    rw [nblk_alloc, nblk_alloc] at h
    exact h
  go_enter Try.func103, Try.ntmps103
  go_wp2_with fail
  refine (place_any _ _ _ _ _ _ _ _ _).mono ?_
  rw [← HQ0.out]
  rintro e w1 ⟨rfl, hb⟩
  have hz1 : w.heap.size + 1 + 1 < w1.heap.size := by have := hb.size; simp at this; omega
  have HR1 := hide (row_below ((HR0.out.alloc _).alloc _) hb (by simp; omega))
  have HM1 := hide (row_below (HM0.out.alloc _) hb (by simp))
  have HZ1 := hide (row_below HZ0.out hb (by simp))
  have HB1 : Hid (Below w.heap.size w w1) := Below.trans (by (repeat (any_goals (first | exact Below.refl _ _ | assumption | refine Below.drew ?_ | refine below_drewN ?_ _ | refine Below.setCell ?_ ?_ _ | refine Below.alloc ?_ ?_ _ | omega | (simp; done) | (simp; omega))))) (hb.mono (by simp; omega))
  have ya1 : w.heap.size < w1.heap.size := by omega
  have yb1 : w.heap.size + 1 < w1.heap.size := by omega
  have yc1 : w.heap.size + 1 + 1 < w1.heap.size := by omega
  clear hb
  obtain ⟨c0, c1, c2, c3, c4, c5, c6, c7, c8⟩ := sg9_cells HR1.out
  obtain ⟨d0, d1, d2, d3, d4, d5⟩ := mp6_cells HM1.out
  go_wp2_with fail
  clear c0 c1 c2 c3 c4 c5 c6 c7 c8 d0 d1 d2 d3 d4 d5
  refine (place_any _ _ _ _ _ _ _ _ _).mono ?_
  rw [← HQ1.out]
  rintro e w2 ⟨rfl, hb⟩
  have hz2 : w1.heap.size < w2.heap.size := by have := hb.size; simp at this; omega
  have HR2 := hide (row_below (HR1.out.alloc (.cells #[.int .i64 Q0.1, .int .i64 Q0.2.1] 41)) hb (by simp; omega))
  have HM2 := hide (row_below (HM1.out.alloc (.cells #[.int .i64 Q0.1, .int .i64 Q0.2.1] 41)) hb (by simp; omega))
  have HZ2 := hide (row_below (HZ1.out.alloc (.cells #[.int .i64 Q0.1, .int .i64 Q0.2.1] 41)) hb (by simp; omega))
  have HB2 : Hid (Below w.heap.size w w2) := HB1.out.trans (((Below.refl _ _).alloc (Nat.le_refl _) (.cells #[.int .i64 Q0.1, .int .i64 Q0.2.1] 41)).trans (hb.mono (by simp)) |>.mono (by omega))
  have HS1_2 := hide (row_below (tp2_row Q0.1 Q0.2.1 w1 41) hb (by simp))
  have ya2 : w.heap.size < w2.heap.size := by omega
  have yb2 : w.heap.size + 1 < w2.heap.size := by omega
  have yc2 : w.heap.size + 1 + 1 < w2.heap.size := by omega
  clear hb
  obtain ⟨c0, c1, c2, c3, c4, c5, c6, c7, c8⟩ := sg9_cells HR2.out
  obtain ⟨d0, d1, d2, d3, d4, d5⟩ := mp6_cells HM2.out
  go_wp2_with fail
  clear c0 c1 c2 c3 c4 c5 c6 c7 c8 d0 d1 d2 d3 d4 d5
  refine (place_any _ _ _ _ _ _ _ _ _).mono ?_
  rw [← HQ2.out]
  rintro e w3 ⟨rfl, hb⟩
  have hz3 : w2.heap.size < w3.heap.size := by have := hb.size; simp at this; omega
  have HR3 := hide (row_below (HR2.out.alloc (.cells #[.int .i64 Q1.1, .int .i64 Q1.2.1] 41)) hb (by simp; omega))
  have HM3 := hide (row_below (HM2.out.alloc (.cells #[.int .i64 Q1.1, .int .i64 Q1.2.1] 41)) hb (by simp; omega))
  have HZ3 := hide (row_below (HZ2.out.alloc (.cells #[.int .i64 Q1.1, .int .i64 Q1.2.1] 41)) hb (by simp; omega))
  have HB3 : Hid (Below w.heap.size w w3) := HB2.out.trans (((Below.refl _ _).alloc (Nat.le_refl _) (.cells #[.int .i64 Q1.1, .int .i64 Q1.2.1] 41)).trans (hb.mono (by simp)) |>.mono (by omega))
  have HS1_3 := hide (row_below (HS1_2.out.alloc (.cells #[.int .i64 Q1.1, .int .i64 Q1.2.1] 41)) hb (by simp; omega))
  have HS2_3 := hide (row_below (tp2_row Q1.1 Q1.2.1 w2 41) hb (by simp))
  have ya3 : w.heap.size < w3.heap.size := by omega
  have yb3 : w.heap.size + 1 < w3.heap.size := by omega
  have yc3 : w.heap.size + 1 + 1 < w3.heap.size := by omega
  have yd1_3 : w1.heap.size < w3.heap.size := by omega
  clear hb
  obtain ⟨c0, c1, c2, c3, c4, c5, c6, c7, c8⟩ := sg9_cells HR3.out
  obtain ⟨d0, d1, d2, d3, d4, d5⟩ := mp6_cells HM3.out
  go_wp2_with fail
  clear c0 c1 c2 c3 c4 c5 c6 c7 c8 d0 d1 d2 d3 d4 d5
  refine (place_any _ _ _ _ _ _ _ _ _).mono ?_
  rw [← HQ3.out]
  rintro e w4 ⟨rfl, hb⟩
  have hz4 : w3.heap.size < w4.heap.size := by have := hb.size; simp at this; omega
  have HR4 := hide (row_below (HR3.out.alloc (.cells #[.int .i64 Q2.1, .int .i64 Q2.2.1] 41)) hb (by simp; omega))
  have HM4 := hide (row_below (HM3.out.alloc (.cells #[.int .i64 Q2.1, .int .i64 Q2.2.1] 41)) hb (by simp; omega))
  have HZ4 := hide (row_below (HZ3.out.alloc (.cells #[.int .i64 Q2.1, .int .i64 Q2.2.1] 41)) hb (by simp; omega))
  have HB4 : Hid (Below w.heap.size w w4) := HB3.out.trans (((Below.refl _ _).alloc (Nat.le_refl _) (.cells #[.int .i64 Q2.1, .int .i64 Q2.2.1] 41)).trans (hb.mono (by simp)) |>.mono (by omega))
  have HS1_4 := hide (row_below (HS1_3.out.alloc (.cells #[.int .i64 Q2.1, .int .i64 Q2.2.1] 41)) hb (by simp; omega))
  have HS2_4 := hide (row_below (HS2_3.out.alloc (.cells #[.int .i64 Q2.1, .int .i64 Q2.2.1] 41)) hb (by simp; omega))
  have HS3_4 := hide (row_below (tp2_row Q2.1 Q2.2.1 w3 41) hb (by simp))
  have ya4 : w.heap.size < w4.heap.size := by omega
  have yb4 : w.heap.size + 1 < w4.heap.size := by omega
  have yc4 : w.heap.size + 1 + 1 < w4.heap.size := by omega
  have yd1_4 : w1.heap.size < w4.heap.size := by omega
  have yd2_4 : w2.heap.size < w4.heap.size := by omega
  clear hb
  obtain ⟨c0, c1, c2, c3, c4, c5, c6, c7, c8⟩ := sg9_cells HR4.out
  obtain ⟨r0, r1, r2, r3, r4, r5, r6, r7, r8⟩ := sg9_cells HZ4.out
  obtain ⟨z0, z1, z2, z3, z4, z5, z6, z7, z8⟩ := zero_frozen HZ4.out
  obtain ⟨s10, s11⟩ := tp2_cells HS1_4.out
  obtain ⟨s20, s21⟩ := tp2_cells HS2_4.out
  obtain ⟨s30, s31⟩ := tp2_cells HS3_4.out
  by_cases h0 : Q0.2.2 = 0
  case neg =>
    obtain ⟨rfl, rfl⟩ := HNo.out (by simp [h0])
    have t0 : (Q0.2.2 != 0) = true := by simpa using h0
    clear h0 HYe HNo
    go_wp2
    obtain ⟨wF, hwF⟩ : ∃ wF, wF = (((((((((w4.setCell ⟨w.heap.size + 1 + 1, 0, none⟩ (.int .i64 0)).setCell ⟨w.heap.size + 1 + 1, 1, none⟩ (.int .i64 0)).setCell ⟨w.heap.size + 1 + 1, 2, none⟩ (.int .i64 0)).setCell ⟨w.heap.size + 1 + 1, 3, none⟩ (.int .i64 0)).setCell ⟨w.heap.size + 1 + 1, 4, none⟩ (.int .i64 0)).setCell ⟨w.heap.size + 1 + 1, 5, none⟩ (.int .i64 0)).setCell ⟨w.heap.size + 1 + 1, 6, none⟩ (.int .i64 0)).setCell ⟨w.heap.size + 1 + 1, 7, none⟩ (.int .i64 0)).setCell ⟨w.heap.size + 1 + 1, 8, none⟩ (.int .i64 0)).alloc (.cells #[.int .i64 Q3.1, .int .i64 Q3.2.1] 41) := ⟨_, rfl⟩
    rw [← hwF]
    have hRF : wF.rowIs (w.heap.size + 1 + 1) 44 9 (sg9 0 0 0 0 0 0 0 0 0) := by rw [hwF]; exact (set9sg HZ4.out 0 0 0 0 0 0 0 0 0).alloc _
    have hp : ∀ q : Nat, w.heap.size ≤ (⟨w.heap.size + 1 + 1, q, none⟩ : Addr).block := fun q => by show w.heap.size ≤ w.heap.size + 1 + 1; omega
    have hBF : Below w.heap.size w wF := by rw [hwF]; exact (((((((((HB4.out.setCell (hp 0) _).setCell (hp 1) _).setCell (hp 2) _).setCell (hp 3) _).setCell (hp 4) _).setCell (hp 5) _).setCell (hp 6) _).setCell (hp 7) _).setCell (hp 8) _).alloc (by simp; omega) _
    obtain ⟨g0, g1, g2, g3, g4, g5, g6, g7, g8⟩ := sg9_cells hRF
    exact bodyPost_ret (v := .tuple #[.agg #[.int .i64 0, .int .i64 0, .int .i64 0, .int .i64 0, .int .i64 0, .int .i64 0, .int .i64 0, .int .i64 0, .int .i64 0], .int .i64 6]) (by simp [results, Try.results103, go_sem, g0, g1, g2, g3, g4, g5, g6, g7, g8]) rfl ⟨rfl, hBF⟩
  by_cases h1 : Q1.2.2 = 0
  case neg =>
    obtain ⟨rfl, rfl⟩ := HNo.out (by simp [h0, h1])
    have t1 : (Q1.2.2 != 0) = true := by simpa using h1
    have t0 : (Q0.2.2 != 0) = false := by simpa using h0
    clear h0 h1 HYe HNo
    go_wp2
    obtain ⟨wF, hwF⟩ : ∃ wF, wF = (((((((((w4.setCell ⟨w.heap.size + 1 + 1, 0, none⟩ (.int .i64 0)).setCell ⟨w.heap.size + 1 + 1, 1, none⟩ (.int .i64 0)).setCell ⟨w.heap.size + 1 + 1, 2, none⟩ (.int .i64 0)).setCell ⟨w.heap.size + 1 + 1, 3, none⟩ (.int .i64 0)).setCell ⟨w.heap.size + 1 + 1, 4, none⟩ (.int .i64 0)).setCell ⟨w.heap.size + 1 + 1, 5, none⟩ (.int .i64 0)).setCell ⟨w.heap.size + 1 + 1, 6, none⟩ (.int .i64 0)).setCell ⟨w.heap.size + 1 + 1, 7, none⟩ (.int .i64 0)).setCell ⟨w.heap.size + 1 + 1, 8, none⟩ (.int .i64 0)).alloc (.cells #[.int .i64 Q3.1, .int .i64 Q3.2.1] 41) := ⟨_, rfl⟩
    rw [← hwF]
    have hRF : wF.rowIs (w.heap.size + 1 + 1) 44 9 (sg9 0 0 0 0 0 0 0 0 0) := by rw [hwF]; exact (set9sg HZ4.out 0 0 0 0 0 0 0 0 0).alloc _
    have hp : ∀ q : Nat, w.heap.size ≤ (⟨w.heap.size + 1 + 1, q, none⟩ : Addr).block := fun q => by show w.heap.size ≤ w.heap.size + 1 + 1; omega
    have hBF : Below w.heap.size w wF := by rw [hwF]; exact (((((((((HB4.out.setCell (hp 0) _).setCell (hp 1) _).setCell (hp 2) _).setCell (hp 3) _).setCell (hp 4) _).setCell (hp 5) _).setCell (hp 6) _).setCell (hp 7) _).setCell (hp 8) _).alloc (by simp; omega) _
    obtain ⟨g0, g1, g2, g3, g4, g5, g6, g7, g8⟩ := sg9_cells hRF
    exact bodyPost_ret (v := .tuple #[.agg #[.int .i64 0, .int .i64 0, .int .i64 0, .int .i64 0, .int .i64 0, .int .i64 0, .int .i64 0, .int .i64 0, .int .i64 0], .int .i64 6]) (by simp [results, Try.results103, go_sem, g0, g1, g2, g3, g4, g5, g6, g7, g8]) rfl ⟨rfl, hBF⟩
  by_cases h2 : Q2.2.2 = 0
  case neg =>
    obtain ⟨rfl, rfl⟩ := HNo.out (by simp [h0, h1, h2])
    have t2 : (Q2.2.2 != 0) = true := by simpa using h2
    have t0 : (Q0.2.2 != 0) = false := by simpa using h0
    have t1 : (Q1.2.2 != 0) = false := by simpa using h1
    clear h0 h1 h2 HYe HNo
    go_wp2
    obtain ⟨wF, hwF⟩ : ∃ wF, wF = (((((((((w4.setCell ⟨w.heap.size + 1 + 1, 0, none⟩ (.int .i64 0)).setCell ⟨w.heap.size + 1 + 1, 1, none⟩ (.int .i64 0)).setCell ⟨w.heap.size + 1 + 1, 2, none⟩ (.int .i64 0)).setCell ⟨w.heap.size + 1 + 1, 3, none⟩ (.int .i64 0)).setCell ⟨w.heap.size + 1 + 1, 4, none⟩ (.int .i64 0)).setCell ⟨w.heap.size + 1 + 1, 5, none⟩ (.int .i64 0)).setCell ⟨w.heap.size + 1 + 1, 6, none⟩ (.int .i64 0)).setCell ⟨w.heap.size + 1 + 1, 7, none⟩ (.int .i64 0)).setCell ⟨w.heap.size + 1 + 1, 8, none⟩ (.int .i64 0)).alloc (.cells #[.int .i64 Q3.1, .int .i64 Q3.2.1] 41) := ⟨_, rfl⟩
    rw [← hwF]
    have hRF : wF.rowIs (w.heap.size + 1 + 1) 44 9 (sg9 0 0 0 0 0 0 0 0 0) := by rw [hwF]; exact (set9sg HZ4.out 0 0 0 0 0 0 0 0 0).alloc _
    have hp : ∀ q : Nat, w.heap.size ≤ (⟨w.heap.size + 1 + 1, q, none⟩ : Addr).block := fun q => by show w.heap.size ≤ w.heap.size + 1 + 1; omega
    have hBF : Below w.heap.size w wF := by rw [hwF]; exact (((((((((HB4.out.setCell (hp 0) _).setCell (hp 1) _).setCell (hp 2) _).setCell (hp 3) _).setCell (hp 4) _).setCell (hp 5) _).setCell (hp 6) _).setCell (hp 7) _).setCell (hp 8) _).alloc (by simp; omega) _
    obtain ⟨g0, g1, g2, g3, g4, g5, g6, g7, g8⟩ := sg9_cells hRF
    exact bodyPost_ret (v := .tuple #[.agg #[.int .i64 0, .int .i64 0, .int .i64 0, .int .i64 0, .int .i64 0, .int .i64 0, .int .i64 0, .int .i64 0, .int .i64 0], .int .i64 6]) (by simp [results, Try.results103, go_sem, g0, g1, g2, g3, g4, g5, g6, g7, g8]) rfl ⟨rfl, hBF⟩
  by_cases h3 : Q3.2.2 = 0
  case neg =>
    obtain ⟨rfl, rfl⟩ := HNo.out (by simp [h0, h1, h2, h3])
    have t3 : (Q3.2.2 != 0) = true := by simpa using h3
    have t0 : (Q0.2.2 != 0) = false := by simpa using h0
    have t1 : (Q1.2.2 != 0) = false := by simpa using h1
    have t2 : (Q2.2.2 != 0) = false := by simpa using h2
    clear h0 h1 h2 h3 HYe HNo
    go_wp2
    obtain ⟨wF, hwF⟩ : ∃ wF, wF = (((((((((w4.setCell ⟨w.heap.size + 1 + 1, 0, none⟩ (.int .i64 0)).setCell ⟨w.heap.size + 1 + 1, 1, none⟩ (.int .i64 0)).setCell ⟨w.heap.size + 1 + 1, 2, none⟩ (.int .i64 0)).setCell ⟨w.heap.size + 1 + 1, 3, none⟩ (.int .i64 0)).setCell ⟨w.heap.size + 1 + 1, 4, none⟩ (.int .i64 0)).setCell ⟨w.heap.size + 1 + 1, 5, none⟩ (.int .i64 0)).setCell ⟨w.heap.size + 1 + 1, 6, none⟩ (.int .i64 0)).setCell ⟨w.heap.size + 1 + 1, 7, none⟩ (.int .i64 0)).setCell ⟨w.heap.size + 1 + 1, 8, none⟩ (.int .i64 0)).alloc (.cells #[.int .i64 Q3.1, .int .i64 Q3.2.1] 41) := ⟨_, rfl⟩
    rw [← hwF]
    have hRF : wF.rowIs (w.heap.size + 1 + 1) 44 9 (sg9 0 0 0 0 0 0 0 0 0) := by rw [hwF]; exact (set9sg HZ4.out 0 0 0 0 0 0 0 0 0).alloc _
    have hp : ∀ q : Nat, w.heap.size ≤ (⟨w.heap.size + 1 + 1, q, none⟩ : Addr).block := fun q => by show w.heap.size ≤ w.heap.size + 1 + 1; omega
    have hBF : Below w.heap.size w wF := by rw [hwF]; exact (((((((((HB4.out.setCell (hp 0) _).setCell (hp 1) _).setCell (hp 2) _).setCell (hp 3) _).setCell (hp 4) _).setCell (hp 5) _).setCell (hp 6) _).setCell (hp 7) _).setCell (hp 8) _).alloc (by simp; omega) _
    obtain ⟨g0, g1, g2, g3, g4, g5, g6, g7, g8⟩ := sg9_cells hRF
    exact bodyPost_ret (v := .tuple #[.agg #[.int .i64 0, .int .i64 0, .int .i64 0, .int .i64 0, .int .i64 0, .int .i64 0, .int .i64 0, .int .i64 0, .int .i64 0], .int .i64 6]) (by simp [results, Try.results103, go_sem, g0, g1, g2, g3, g4, g5, g6, g7, g8]) rfl ⟨rfl, hBF⟩
  · obtain ⟨rfl, rfl⟩ := HYe.out (by simp [h0, h1, h2, h3])
    have t0 : (Q0.2.2 != 0) = false := by simpa using h0
    have t1 : (Q1.2.2 != 0) = false := by simpa using h1
    have t2 : (Q2.2.2 != 0) = false := by simpa using h2
    have t3 : (Q3.2.2 != 0) = false := by simpa using h3
    clear h0 h1 h2 h3 HYe HNo
    go_wp2
    obtain ⟨wF, hwF⟩ : ∃ wF, wF = (((((((((w4.setCell ⟨w.heap.size + 1 + 1, 0, none⟩ (.int .i64 k)).setCell ⟨w.heap.size + 1 + 1, 1, none⟩ (.int .i64 Q0.1)).setCell ⟨w.heap.size + 1 + 1, 2, none⟩ (.int .i64 Q0.2.1)).setCell ⟨w.heap.size + 1 + 1, 3, none⟩ (.int .i64 Q1.1)).setCell ⟨w.heap.size + 1 + 1, 4, none⟩ (.int .i64 Q1.2.1)).setCell ⟨w.heap.size + 1 + 1, 5, none⟩ (.int .i64 Q2.1)).setCell ⟨w.heap.size + 1 + 1, 6, none⟩ (.int .i64 Q2.2.1)).setCell ⟨w.heap.size + 1 + 1, 7, none⟩ (.int .i64 Q3.1)).setCell ⟨w.heap.size + 1 + 1, 8, none⟩ (.int .i64 Q3.2.1)).alloc (.cells #[.int .i64 Q3.1, .int .i64 Q3.2.1] 41) := ⟨_, rfl⟩
    rw [← hwF]
    have hRF : wF.rowIs (w.heap.size + 1 + 1) 44 9 (sg9 k Q0.1 Q0.2.1 Q1.1 Q1.2.1 Q2.1 Q2.2.1 Q3.1 Q3.2.1) := by rw [hwF]; exact (set9sg HZ4.out k Q0.1 Q0.2.1 Q1.1 Q1.2.1 Q2.1 Q2.2.1 Q3.1 Q3.2.1).alloc _
    have hp : ∀ q : Nat, w.heap.size ≤ (⟨w.heap.size + 1 + 1, q, none⟩ : Addr).block := fun q => by show w.heap.size ≤ w.heap.size + 1 + 1; omega
    have hBF : Below w.heap.size w wF := by rw [hwF]; exact (((((((((HB4.out.setCell (hp 0) _).setCell (hp 1) _).setCell (hp 2) _).setCell (hp 3) _).setCell (hp 4) _).setCell (hp 5) _).setCell (hp 6) _).setCell (hp 7) _).setCell (hp 8) _).alloc (by simp; omega) _
    obtain ⟨g0, g1, g2, g3, g4, g5, g6, g7, g8⟩ := sg9_cells hRF
    exact bodyPost_ret (v := .tuple #[.agg #[.int .i64 k, .int .i64 Q0.1, .int .i64 Q0.2.1, .int .i64 Q1.1, .int .i64 Q1.2.1, .int .i64 Q2.1, .int .i64 Q2.2.1, .int .i64 Q3.1, .int .i64 Q3.2.1], .int .i64 0]) (by simp [results, Try.results103, go_sem, g0, g1, g2, g3, g4, g5, g6, g7, g8]) rfl ⟨rfl, hBF⟩

set_option maxRecDepth 100000 in
set_option maxHeartbeats 4000000 in
theorem put_any (k x0 y0 x1 y1 x2 y2 x3 y3 a b c d x y : Int) (w : World) :
    Calls Try.prog 67 #[.agg #[.int .i64 k, .int .i64 x0, .int .i64 y0, .int .i64 x1, .int .i64 y1, .int .i64 x2, .int .i64 y2, .int .i64 x3, .int .i64 y3], .agg #[.int .i64 a, .int .i64 b, .int .i64 c, .int .i64 d, .int .i64 x, .int .i64 y]] w fun e w' => e = .returned (.tuple #[.agg #[.int .i64 (Num.putG (⟨a, b, c, d, x, y⟩ : Num.Mp) (⟨k, x0, y0, x1, y1, x2, y2, x3, y3⟩ : Num.Sg)).k, .int .i64 (Num.putG (⟨a, b, c, d, x, y⟩ : Num.Mp) (⟨k, x0, y0, x1, y1, x2, y2, x3, y3⟩ : Num.Sg)).x0, .int .i64 (Num.putG (⟨a, b, c, d, x, y⟩ : Num.Mp) (⟨k, x0, y0, x1, y1, x2, y2, x3, y3⟩ : Num.Sg)).y0, .int .i64 (Num.putG (⟨a, b, c, d, x, y⟩ : Num.Mp) (⟨k, x0, y0, x1, y1, x2, y2, x3, y3⟩ : Num.Sg)).x1, .int .i64 (Num.putG (⟨a, b, c, d, x, y⟩ : Num.Mp) (⟨k, x0, y0, x1, y1, x2, y2, x3, y3⟩ : Num.Sg)).y1, .int .i64 (Num.putG (⟨a, b, c, d, x, y⟩ : Num.Mp) (⟨k, x0, y0, x1, y1, x2, y2, x3, y3⟩ : Num.Sg)).x2, .int .i64 (Num.putG (⟨a, b, c, d, x, y⟩ : Num.Mp) (⟨k, x0, y0, x1, y1, x2, y2, x3, y3⟩ : Num.Sg)).y2, .int .i64 (Num.putG (⟨a, b, c, d, x, y⟩ : Num.Mp) (⟨k, x0, y0, x1, y1, x2, y2, x3, y3⟩ : Num.Sg)).x3, .int .i64 (Num.putG (⟨a, b, c, d, x, y⟩ : Num.Mp) (⟨k, x0, y0, x1, y1, x2, y2, x3, y3⟩ : Num.Sg)).y3], .int .i64 (Num.putE (⟨a, b, c, d, x, y⟩ : Num.Mp) (⟨k, x0, y0, x1, y1, x2, y2, x3, y3⟩ : Num.Sg))]) ∧ Below w.heap.size w w' := by
  obtain ⟨Q0, hQ0⟩ : ∃ Q, Q = Num.placeV a b c d x y x0 y0 := ⟨_, rfl⟩
  obtain ⟨Q1, hQ1⟩ : ∃ Q, Q = Num.placeV a b c d x y x1 y1 := ⟨_, rfl⟩
  obtain ⟨Q2, hQ2⟩ : ∃ Q, Q = Num.placeV a b c d x y x2 y2 := ⟨_, rfl⟩
  obtain ⟨Q3, hQ3⟩ : ∃ Q, Q = Num.placeV a b c d x y x3 y3 := ⟨_, rfl⟩
  have HOk : Hid (Num.putOk (⟨a, b, c, d, x, y⟩ : Num.Mp) (⟨k, x0, y0, x1, y1, x2, y2, x3, y3⟩ : Num.Sg) = (Q0.2.2 == 0 && Q1.2.2 == 0 && Q2.2.2 == 0 && Q3.2.2 == 0)) := by unfold Hid; rw [hQ0, hQ1, hQ2, hQ3]; rfl
  have HVv : Hid (Num.putV (⟨a, b, c, d, x, y⟩ : Num.Mp) (⟨k, x0, y0, x1, y1, x2, y2, x3, y3⟩ : Num.Sg) = ⟨k, Q0.1, Q0.2.1, Q1.1, Q1.2.1, Q2.1, Q2.2.1, Q3.1, Q3.2.1⟩) := by unfold Hid; rw [hQ0, hQ1, hQ2, hQ3]; rfl
  have HNo : Hid (Num.putOk (⟨a, b, c, d, x, y⟩ : Num.Mp) (⟨k, x0, y0, x1, y1, x2, y2, x3, y3⟩ : Num.Sg) = false → Num.putG (⟨a, b, c, d, x, y⟩ : Num.Mp) (⟨k, x0, y0, x1, y1, x2, y2, x3, y3⟩ : Num.Sg) = ⟨0, 0, 0, 0, 0, 0, 0, 0, 0⟩ ∧ Num.putE (⟨a, b, c, d, x, y⟩ : Num.Mp) (⟨k, x0, y0, x1, y1, x2, y2, x3, y3⟩ : Num.Sg) = 6) := fun h => by unfold Num.putG Num.putE; rw [h]; exact ⟨rfl, rfl⟩
  have HYe : Hid (Num.putOk (⟨a, b, c, d, x, y⟩ : Num.Mp) (⟨k, x0, y0, x1, y1, x2, y2, x3, y3⟩ : Num.Sg) = true → Num.putG (⟨a, b, c, d, x, y⟩ : Num.Mp) (⟨k, x0, y0, x1, y1, x2, y2, x3, y3⟩ : Num.Sg) = Num.putV (⟨a, b, c, d, x, y⟩ : Num.Mp) (⟨k, x0, y0, x1, y1, x2, y2, x3, y3⟩ : Num.Sg) ∧ Num.putE (⟨a, b, c, d, x, y⟩ : Num.Mp) (⟨k, x0, y0, x1, y1, x2, y2, x3, y3⟩ : Num.Sg) = 0) := fun h => by unfold Num.putG Num.putE; rw [h]; exact ⟨rfl, rfl⟩
  obtain ⟨PG, hPG⟩ : ∃ PG, PG = Num.putG (⟨a, b, c, d, x, y⟩ : Num.Mp) (⟨k, x0, y0, x1, y1, x2, y2, x3, y3⟩ : Num.Sg) := ⟨_, rfl⟩
  obtain ⟨PE, hPE⟩ : ∃ PE, PE = Num.putE (⟨a, b, c, d, x, y⟩ : Num.Mp) (⟨k, x0, y0, x1, y1, x2, y2, x3, y3⟩ : Num.Sg) := ⟨_, rfl⟩
  rw [← hPG, ← hPE] at HNo HYe ⊢
  rw [HOk.out] at HNo HYe
  rw [HVv.out] at HYe
  have HQ0 := hide hQ0
  have HQ1 := hide hQ1
  have HQ2 := hide hQ2
  have HQ3 := hide hQ3
  clear hQ0 hQ1 hQ2 hQ3 hPG hPE HOk HVv
  have HR0 := hide (sg9_row k x0 y0 x1 y1 x2 y2 x3 y3 w 44)
  have HM0 : Hid (((w.alloc (.cells #[.int .i64 k, .int .i64 x0, .int .i64 y0, .int .i64 x1, .int .i64 y1, .int .i64 x2, .int .i64 y2, .int .i64 x3, .int .i64 y3] 44)).alloc (.cells #[.int .i64 a, .int .i64 b, .int .i64 c, .int .i64 d, .int .i64 x, .int .i64 y] 39)).rowIs (w.heap.size + 1) 39 6 (mp6 a b c d x y)) := by
    have h := mp6_row a b c d x y (w.alloc (.cells #[.int .i64 k, .int .i64 x0, .int .i64 y0, .int .i64 x1, .int .i64 y1, .int .i64 x2, .int .i64 y2, .int .i64 x3, .int .i64 y3] 44)) 39
    rw [nblk_alloc] at h
    exact h
  have HZ0 : Hid ((((w.alloc (.cells #[.int .i64 k, .int .i64 x0, .int .i64 y0, .int .i64 x1, .int .i64 y1, .int .i64 x2, .int .i64 y2, .int .i64 x3, .int .i64 y3] 44)).alloc (.cells #[.int .i64 a, .int .i64 b, .int .i64 c, .int .i64 d, .int .i64 x, .int .i64 y] 39)).alloc (.cells #[.int .i64 0, .int .i64 0, .int .i64 0, .int .i64 0, .int .i64 0, .int .i64 0, .int .i64 0, .int .i64 0, .int .i64 0] 44)).rowIs (w.heap.size + 1 + 1) 44 9 (sg9 0 0 0 0 0 0 0 0 0)) := by
    have h := sg9_row 0 0 0 0 0 0 0 0 0 ((w.alloc (.cells #[.int .i64 k, .int .i64 x0, .int .i64 y0, .int .i64 x1, .int .i64 y1, .int .i64 x2, .int .i64 y2, .int .i64 x3, .int .i64 y3] 44)).alloc (.cells #[.int .i64 a, .int .i64 b, .int .i64 c, .int .i64 d, .int .i64 x, .int .i64 y] 39)) 44
    rw [nblk_alloc, nblk_alloc] at h
    exact h
  go_enter Try.func67, Try.ntmps67
  go_wp2_with fail
  refine (refPlace_any _ _ _ _ _ _ _ _ _).mono ?_
  rw [← HQ0.out]
  rintro e w1 ⟨rfl, hb⟩
  have hz1 : w.heap.size + 1 + 1 < w1.heap.size := by have := hb.size; simp at this; omega
  have HR1 := hide (row_below ((HR0.out.alloc _).alloc _) hb (by simp; omega))
  have HM1 := hide (row_below (HM0.out.alloc _) hb (by simp))
  have HZ1 := hide (row_below HZ0.out hb (by simp))
  have HB1 : Hid (Below w.heap.size w w1) := Below.trans (by (repeat (any_goals (first | exact Below.refl _ _ | assumption | refine Below.drew ?_ | refine below_drewN ?_ _ | refine Below.setCell ?_ ?_ _ | refine Below.alloc ?_ ?_ _ | omega | (simp; done) | (simp; omega))))) (hb.mono (by simp; omega))
  have ya1 : w.heap.size < w1.heap.size := by omega
  have yb1 : w.heap.size + 1 < w1.heap.size := by omega
  have yc1 : w.heap.size + 1 + 1 < w1.heap.size := by omega
  clear hb
  obtain ⟨c0, c1, c2, c3, c4, c5, c6, c7, c8⟩ := sg9_cells HR1.out
  obtain ⟨d0, d1, d2, d3, d4, d5⟩ := mp6_cells HM1.out
  go_wp2_with fail
  clear c0 c1 c2 c3 c4 c5 c6 c7 c8 d0 d1 d2 d3 d4 d5
  refine (refPlace_any _ _ _ _ _ _ _ _ _).mono ?_
  rw [← HQ1.out]
  rintro e w2 ⟨rfl, hb⟩
  have hz2 : w1.heap.size < w2.heap.size := by have := hb.size; simp at this; omega
  have HR2 := hide (row_below (HR1.out.alloc (.cells #[.int .i64 Q0.1, .int .i64 Q0.2.1] 41)) hb (by simp; omega))
  have HM2 := hide (row_below (HM1.out.alloc (.cells #[.int .i64 Q0.1, .int .i64 Q0.2.1] 41)) hb (by simp; omega))
  have HZ2 := hide (row_below (HZ1.out.alloc (.cells #[.int .i64 Q0.1, .int .i64 Q0.2.1] 41)) hb (by simp; omega))
  have HB2 : Hid (Below w.heap.size w w2) := HB1.out.trans (((Below.refl _ _).alloc (Nat.le_refl _) (.cells #[.int .i64 Q0.1, .int .i64 Q0.2.1] 41)).trans (hb.mono (by simp)) |>.mono (by omega))
  have HS1_2 := hide (row_below (tp2_row Q0.1 Q0.2.1 w1 41) hb (by simp))
  have ya2 : w.heap.size < w2.heap.size := by omega
  have yb2 : w.heap.size + 1 < w2.heap.size := by omega
  have yc2 : w.heap.size + 1 + 1 < w2.heap.size := by omega
  clear hb
  obtain ⟨c0, c1, c2, c3, c4, c5, c6, c7, c8⟩ := sg9_cells HR2.out
  obtain ⟨d0, d1, d2, d3, d4, d5⟩ := mp6_cells HM2.out
  go_wp2_with fail
  clear c0 c1 c2 c3 c4 c5 c6 c7 c8 d0 d1 d2 d3 d4 d5
  refine (refPlace_any _ _ _ _ _ _ _ _ _).mono ?_
  rw [← HQ2.out]
  rintro e w3 ⟨rfl, hb⟩
  have hz3 : w2.heap.size < w3.heap.size := by have := hb.size; simp at this; omega
  have HR3 := hide (row_below (HR2.out.alloc (.cells #[.int .i64 Q1.1, .int .i64 Q1.2.1] 41)) hb (by simp; omega))
  have HM3 := hide (row_below (HM2.out.alloc (.cells #[.int .i64 Q1.1, .int .i64 Q1.2.1] 41)) hb (by simp; omega))
  have HZ3 := hide (row_below (HZ2.out.alloc (.cells #[.int .i64 Q1.1, .int .i64 Q1.2.1] 41)) hb (by simp; omega))
  have HB3 : Hid (Below w.heap.size w w3) := HB2.out.trans (((Below.refl _ _).alloc (Nat.le_refl _) (.cells #[.int .i64 Q1.1, .int .i64 Q1.2.1] 41)).trans (hb.mono (by simp)) |>.mono (by omega))
  have HS1_3 := hide (row_below (HS1_2.out.alloc (.cells #[.int .i64 Q1.1, .int .i64 Q1.2.1] 41)) hb (by simp; omega))
  have HS2_3 := hide (row_below (tp2_row Q1.1 Q1.2.1 w2 41) hb (by simp))
  have ya3 : w.heap.size < w3.heap.size := by omega
  have yb3 : w.heap.size + 1 < w3.heap.size := by omega
  have yc3 : w.heap.size + 1 + 1 < w3.heap.size := by omega
  have yd1_3 : w1.heap.size < w3.heap.size := by omega
  clear hb
  obtain ⟨c0, c1, c2, c3, c4, c5, c6, c7, c8⟩ := sg9_cells HR3.out
  obtain ⟨d0, d1, d2, d3, d4, d5⟩ := mp6_cells HM3.out
  go_wp2_with fail
  clear c0 c1 c2 c3 c4 c5 c6 c7 c8 d0 d1 d2 d3 d4 d5
  refine (refPlace_any _ _ _ _ _ _ _ _ _).mono ?_
  rw [← HQ3.out]
  rintro e w4 ⟨rfl, hb⟩
  have hz4 : w3.heap.size < w4.heap.size := by have := hb.size; simp at this; omega
  have HR4 := hide (row_below (HR3.out.alloc (.cells #[.int .i64 Q2.1, .int .i64 Q2.2.1] 41)) hb (by simp; omega))
  have HM4 := hide (row_below (HM3.out.alloc (.cells #[.int .i64 Q2.1, .int .i64 Q2.2.1] 41)) hb (by simp; omega))
  have HZ4 := hide (row_below (HZ3.out.alloc (.cells #[.int .i64 Q2.1, .int .i64 Q2.2.1] 41)) hb (by simp; omega))
  have HB4 : Hid (Below w.heap.size w w4) := HB3.out.trans (((Below.refl _ _).alloc (Nat.le_refl _) (.cells #[.int .i64 Q2.1, .int .i64 Q2.2.1] 41)).trans (hb.mono (by simp)) |>.mono (by omega))
  have HS1_4 := hide (row_below (HS1_3.out.alloc (.cells #[.int .i64 Q2.1, .int .i64 Q2.2.1] 41)) hb (by simp; omega))
  have HS2_4 := hide (row_below (HS2_3.out.alloc (.cells #[.int .i64 Q2.1, .int .i64 Q2.2.1] 41)) hb (by simp; omega))
  have HS3_4 := hide (row_below (tp2_row Q2.1 Q2.2.1 w3 41) hb (by simp))
  have ya4 : w.heap.size < w4.heap.size := by omega
  have yb4 : w.heap.size + 1 < w4.heap.size := by omega
  have yc4 : w.heap.size + 1 + 1 < w4.heap.size := by omega
  have yd1_4 : w1.heap.size < w4.heap.size := by omega
  have yd2_4 : w2.heap.size < w4.heap.size := by omega
  clear hb
  obtain ⟨c0, c1, c2, c3, c4, c5, c6, c7, c8⟩ := sg9_cells HR4.out
  obtain ⟨r0, r1, r2, r3, r4, r5, r6, r7, r8⟩ := sg9_cells HZ4.out
  obtain ⟨z0, z1, z2, z3, z4, z5, z6, z7, z8⟩ := zero_frozen HZ4.out
  obtain ⟨s10, s11⟩ := tp2_cells HS1_4.out
  obtain ⟨s20, s21⟩ := tp2_cells HS2_4.out
  obtain ⟨s30, s31⟩ := tp2_cells HS3_4.out
  by_cases h0 : Q0.2.2 = 0
  case neg =>
    obtain ⟨rfl, rfl⟩ := HNo.out (by simp [h0])
    have t0 : (Q0.2.2 != 0) = true := by simpa using h0
    clear h0 HYe HNo
    go_wp2
    obtain ⟨wF, hwF⟩ : ∃ wF, wF = (((((((((w4.setCell ⟨w.heap.size + 1 + 1, 0, none⟩ (.int .i64 0)).setCell ⟨w.heap.size + 1 + 1, 1, none⟩ (.int .i64 0)).setCell ⟨w.heap.size + 1 + 1, 2, none⟩ (.int .i64 0)).setCell ⟨w.heap.size + 1 + 1, 3, none⟩ (.int .i64 0)).setCell ⟨w.heap.size + 1 + 1, 4, none⟩ (.int .i64 0)).setCell ⟨w.heap.size + 1 + 1, 5, none⟩ (.int .i64 0)).setCell ⟨w.heap.size + 1 + 1, 6, none⟩ (.int .i64 0)).setCell ⟨w.heap.size + 1 + 1, 7, none⟩ (.int .i64 0)).setCell ⟨w.heap.size + 1 + 1, 8, none⟩ (.int .i64 0)).alloc (.cells #[.int .i64 Q3.1, .int .i64 Q3.2.1] 41) := ⟨_, rfl⟩
    rw [← hwF]
    have hRF : wF.rowIs (w.heap.size + 1 + 1) 44 9 (sg9 0 0 0 0 0 0 0 0 0) := by rw [hwF]; exact (set9sg HZ4.out 0 0 0 0 0 0 0 0 0).alloc _
    have hp : ∀ q : Nat, w.heap.size ≤ (⟨w.heap.size + 1 + 1, q, none⟩ : Addr).block := fun q => by show w.heap.size ≤ w.heap.size + 1 + 1; omega
    have hBF : Below w.heap.size w wF := by rw [hwF]; exact (((((((((HB4.out.setCell (hp 0) _).setCell (hp 1) _).setCell (hp 2) _).setCell (hp 3) _).setCell (hp 4) _).setCell (hp 5) _).setCell (hp 6) _).setCell (hp 7) _).setCell (hp 8) _).alloc (by simp; omega) _
    obtain ⟨g0, g1, g2, g3, g4, g5, g6, g7, g8⟩ := sg9_cells hRF
    exact bodyPost_ret (v := .tuple #[.agg #[.int .i64 0, .int .i64 0, .int .i64 0, .int .i64 0, .int .i64 0, .int .i64 0, .int .i64 0, .int .i64 0, .int .i64 0], .int .i64 6]) (by simp [results, Try.results67, go_sem, g0, g1, g2, g3, g4, g5, g6, g7, g8]) rfl ⟨rfl, hBF⟩
  by_cases h1 : Q1.2.2 = 0
  case neg =>
    obtain ⟨rfl, rfl⟩ := HNo.out (by simp [h0, h1])
    have t1 : (Q1.2.2 != 0) = true := by simpa using h1
    have t0 : (Q0.2.2 != 0) = false := by simpa using h0
    clear h0 h1 HYe HNo
    go_wp2
    obtain ⟨wF, hwF⟩ : ∃ wF, wF = (((((((((w4.setCell ⟨w.heap.size + 1 + 1, 0, none⟩ (.int .i64 0)).setCell ⟨w.heap.size + 1 + 1, 1, none⟩ (.int .i64 0)).setCell ⟨w.heap.size + 1 + 1, 2, none⟩ (.int .i64 0)).setCell ⟨w.heap.size + 1 + 1, 3, none⟩ (.int .i64 0)).setCell ⟨w.heap.size + 1 + 1, 4, none⟩ (.int .i64 0)).setCell ⟨w.heap.size + 1 + 1, 5, none⟩ (.int .i64 0)).setCell ⟨w.heap.size + 1 + 1, 6, none⟩ (.int .i64 0)).setCell ⟨w.heap.size + 1 + 1, 7, none⟩ (.int .i64 0)).setCell ⟨w.heap.size + 1 + 1, 8, none⟩ (.int .i64 0)).alloc (.cells #[.int .i64 Q3.1, .int .i64 Q3.2.1] 41) := ⟨_, rfl⟩
    rw [← hwF]
    have hRF : wF.rowIs (w.heap.size + 1 + 1) 44 9 (sg9 0 0 0 0 0 0 0 0 0) := by rw [hwF]; exact (set9sg HZ4.out 0 0 0 0 0 0 0 0 0).alloc _
    have hp : ∀ q : Nat, w.heap.size ≤ (⟨w.heap.size + 1 + 1, q, none⟩ : Addr).block := fun q => by show w.heap.size ≤ w.heap.size + 1 + 1; omega
    have hBF : Below w.heap.size w wF := by rw [hwF]; exact (((((((((HB4.out.setCell (hp 0) _).setCell (hp 1) _).setCell (hp 2) _).setCell (hp 3) _).setCell (hp 4) _).setCell (hp 5) _).setCell (hp 6) _).setCell (hp 7) _).setCell (hp 8) _).alloc (by simp; omega) _
    obtain ⟨g0, g1, g2, g3, g4, g5, g6, g7, g8⟩ := sg9_cells hRF
    exact bodyPost_ret (v := .tuple #[.agg #[.int .i64 0, .int .i64 0, .int .i64 0, .int .i64 0, .int .i64 0, .int .i64 0, .int .i64 0, .int .i64 0, .int .i64 0], .int .i64 6]) (by simp [results, Try.results67, go_sem, g0, g1, g2, g3, g4, g5, g6, g7, g8]) rfl ⟨rfl, hBF⟩
  by_cases h2 : Q2.2.2 = 0
  case neg =>
    obtain ⟨rfl, rfl⟩ := HNo.out (by simp [h0, h1, h2])
    have t2 : (Q2.2.2 != 0) = true := by simpa using h2
    have t0 : (Q0.2.2 != 0) = false := by simpa using h0
    have t1 : (Q1.2.2 != 0) = false := by simpa using h1
    clear h0 h1 h2 HYe HNo
    go_wp2
    obtain ⟨wF, hwF⟩ : ∃ wF, wF = (((((((((w4.setCell ⟨w.heap.size + 1 + 1, 0, none⟩ (.int .i64 0)).setCell ⟨w.heap.size + 1 + 1, 1, none⟩ (.int .i64 0)).setCell ⟨w.heap.size + 1 + 1, 2, none⟩ (.int .i64 0)).setCell ⟨w.heap.size + 1 + 1, 3, none⟩ (.int .i64 0)).setCell ⟨w.heap.size + 1 + 1, 4, none⟩ (.int .i64 0)).setCell ⟨w.heap.size + 1 + 1, 5, none⟩ (.int .i64 0)).setCell ⟨w.heap.size + 1 + 1, 6, none⟩ (.int .i64 0)).setCell ⟨w.heap.size + 1 + 1, 7, none⟩ (.int .i64 0)).setCell ⟨w.heap.size + 1 + 1, 8, none⟩ (.int .i64 0)).alloc (.cells #[.int .i64 Q3.1, .int .i64 Q3.2.1] 41) := ⟨_, rfl⟩
    rw [← hwF]
    have hRF : wF.rowIs (w.heap.size + 1 + 1) 44 9 (sg9 0 0 0 0 0 0 0 0 0) := by rw [hwF]; exact (set9sg HZ4.out 0 0 0 0 0 0 0 0 0).alloc _
    have hp : ∀ q : Nat, w.heap.size ≤ (⟨w.heap.size + 1 + 1, q, none⟩ : Addr).block := fun q => by show w.heap.size ≤ w.heap.size + 1 + 1; omega
    have hBF : Below w.heap.size w wF := by rw [hwF]; exact (((((((((HB4.out.setCell (hp 0) _).setCell (hp 1) _).setCell (hp 2) _).setCell (hp 3) _).setCell (hp 4) _).setCell (hp 5) _).setCell (hp 6) _).setCell (hp 7) _).setCell (hp 8) _).alloc (by simp; omega) _
    obtain ⟨g0, g1, g2, g3, g4, g5, g6, g7, g8⟩ := sg9_cells hRF
    exact bodyPost_ret (v := .tuple #[.agg #[.int .i64 0, .int .i64 0, .int .i64 0, .int .i64 0, .int .i64 0, .int .i64 0, .int .i64 0, .int .i64 0, .int .i64 0], .int .i64 6]) (by simp [results, Try.results67, go_sem, g0, g1, g2, g3, g4, g5, g6, g7, g8]) rfl ⟨rfl, hBF⟩
  by_cases h3 : Q3.2.2 = 0
  case neg =>
    obtain ⟨rfl, rfl⟩ := HNo.out (by simp [h0, h1, h2, h3])
    have t3 : (Q3.2.2 != 0) = true := by simpa using h3
    have t0 : (Q0.2.2 != 0) = false := by simpa using h0
    have t1 : (Q1.2.2 != 0) = false := by simpa using h1
    have t2 : (Q2.2.2 != 0) = false := by simpa using h2
    clear h0 h1 h2 h3 HYe HNo
    go_wp2
    obtain ⟨wF, hwF⟩ : ∃ wF, wF = (((((((((w4.setCell ⟨w.heap.size + 1 + 1, 0, none⟩ (.int .i64 0)).setCell ⟨w.heap.size + 1 + 1, 1, none⟩ (.int .i64 0)).setCell ⟨w.heap.size + 1 + 1, 2, none⟩ (.int .i64 0)).setCell ⟨w.heap.size + 1 + 1, 3, none⟩ (.int .i64 0)).setCell ⟨w.heap.size + 1 + 1, 4, none⟩ (.int .i64 0)).setCell ⟨w.heap.size + 1 + 1, 5, none⟩ (.int .i64 0)).setCell ⟨w.heap.size + 1 + 1, 6, none⟩ (.int .i64 0)).setCell ⟨w.heap.size + 1 + 1, 7, none⟩ (.int .i64 0)).setCell ⟨w.heap.size + 1 + 1, 8, none⟩ (.int .i64 0)).alloc (.cells #[.int .i64 Q3.1, .int .i64 Q3.2.1] 41) := ⟨_, rfl⟩
    rw [← hwF]
    have hRF : wF.rowIs (w.heap.size + 1 + 1) 44 9 (sg9 0 0 0 0 0 0 0 0 0) := by rw [hwF]; exact (set9sg HZ4.out 0 0 0 0 0 0 0 0 0).alloc _
    have hp : ∀ q : Nat, w.heap.size ≤ (⟨w.heap.size + 1 + 1, q, none⟩ : Addr).block := fun q => by show w.heap.size ≤ w.heap.size + 1 + 1; omega
    have hBF : Below w.heap.size w wF := by rw [hwF]; exact (((((((((HB4.out.setCell (hp 0) _).setCell (hp 1) _).setCell (hp 2) _).setCell (hp 3) _).setCell (hp 4) _).setCell (hp 5) _).setCell (hp 6) _).setCell (hp 7) _).setCell (hp 8) _).alloc (by simp; omega) _
    obtain ⟨g0, g1, g2, g3, g4, g5, g6, g7, g8⟩ := sg9_cells hRF
    exact bodyPost_ret (v := .tuple #[.agg #[.int .i64 0, .int .i64 0, .int .i64 0, .int .i64 0, .int .i64 0, .int .i64 0, .int .i64 0, .int .i64 0, .int .i64 0], .int .i64 6]) (by simp [results, Try.results67, go_sem, g0, g1, g2, g3, g4, g5, g6, g7, g8]) rfl ⟨rfl, hBF⟩
  · obtain ⟨rfl, rfl⟩ := HYe.out (by simp [h0, h1, h2, h3])
    have t0 : (Q0.2.2 != 0) = false := by simpa using h0
    have t1 : (Q1.2.2 != 0) = false := by simpa using h1
    have t2 : (Q2.2.2 != 0) = false := by simpa using h2
    have t3 : (Q3.2.2 != 0) = false := by simpa using h3
    clear h0 h1 h2 h3 HYe HNo
    go_wp2
    obtain ⟨wF, hwF⟩ : ∃ wF, wF = (((((((((w4.setCell ⟨w.heap.size + 1 + 1, 0, none⟩ (.int .i64 k)).setCell ⟨w.heap.size + 1 + 1, 1, none⟩ (.int .i64 Q0.1)).setCell ⟨w.heap.size + 1 + 1, 2, none⟩ (.int .i64 Q0.2.1)).setCell ⟨w.heap.size + 1 + 1, 3, none⟩ (.int .i64 Q1.1)).setCell ⟨w.heap.size + 1 + 1, 4, none⟩ (.int .i64 Q1.2.1)).setCell ⟨w.heap.size + 1 + 1, 5, none⟩ (.int .i64 Q2.1)).setCell ⟨w.heap.size + 1 + 1, 6, none⟩ (.int .i64 Q2.2.1)).setCell ⟨w.heap.size + 1 + 1, 7, none⟩ (.int .i64 Q3.1)).setCell ⟨w.heap.size + 1 + 1, 8, none⟩ (.int .i64 Q3.2.1)).alloc (.cells #[.int .i64 Q3.1, .int .i64 Q3.2.1] 41) := ⟨_, rfl⟩
    rw [← hwF]
    have hRF : wF.rowIs (w.heap.size + 1 + 1) 44 9 (sg9 k Q0.1 Q0.2.1 Q1.1 Q1.2.1 Q2.1 Q2.2.1 Q3.1 Q3.2.1) := by rw [hwF]; exact (set9sg HZ4.out k Q0.1 Q0.2.1 Q1.1 Q1.2.1 Q2.1 Q2.2.1 Q3.1 Q3.2.1).alloc _
    have hp : ∀ q : Nat, w.heap.size ≤ (⟨w.heap.size + 1 + 1, q, none⟩ : Addr).block := fun q => by show w.heap.size ≤ w.heap.size + 1 + 1; omega
    have hBF : Below w.heap.size w wF := by rw [hwF]; exact (((((((((HB4.out.setCell (hp 0) _).setCell (hp 1) _).setCell (hp 2) _).setCell (hp 3) _).setCell (hp 4) _).setCell (hp 5) _).setCell (hp 6) _).setCell (hp 7) _).setCell (hp 8) _).alloc (by simp; omega) _
    obtain ⟨g0, g1, g2, g3, g4, g5, g6, g7, g8⟩ := sg9_cells hRF
    exact bodyPost_ret (v := .tuple #[.agg #[.int .i64 k, .int .i64 Q0.1, .int .i64 Q0.2.1, .int .i64 Q1.1, .int .i64 Q1.2.1, .int .i64 Q2.1, .int .i64 Q2.2.1, .int .i64 Q3.1, .int .i64 Q3.2.1], .int .i64 0]) (by simp [results, Try.results67, go_sem, g0, g1, g2, g3, g4, g5, g6, g7, g8]) rfl ⟨rfl, hBF⟩

end Go.Proofs.Ythpdbbplpmmjlaa
