/- The document's Curve: what it calls. -/
import Derived.Test.YtkhcjkmifddlbaaCrv
namespace Go.Proofs.Ytkhcjkmifddlbaa
open Go.RowKit

set_option maxHeartbeats 400000 in
theorem apart_any (n : Int) (w : World) (h1 : -1000000 ≤ n) (h2 : n ≤ 1000000) :
    Calls Try.prog 149 #[.int .i64 n] w fun e w' => e = .returned (.int .i64 (Num.sz n)) ∧ w' = w := by
  by_cases a : n < 0
  · go_enter Try.func149, Try.ntmps149
    go_wp2
    go_ret
    exact ⟨ret_int (by unfold Num.sz; rw [if_pos (by omega)]), rfl⟩
  · go_enter Try.func149, Try.ntmps149
    go_wp2
    go_ret
    exact ⟨ret_int (by unfold Num.sz; rw [if_neg (by omega)]), rfl⟩

set_option maxHeartbeats 400000 in
theorem most_any (a b : Int) (w : World) :
    Calls Try.prog 128 #[.int .i64 a, .int .i64 b] w fun e w' => e = .returned (.int .i64 (Num.gr a b)) ∧ w' = w := by
  by_cases h : b < a
  · go_enter Try.func128, Try.ntmps128
    go_wp2
    go_ret
    exact ⟨ret_int (by unfold Num.gr; rw [if_pos (by omega)]), rfl⟩
  · go_enter Try.func128, Try.ntmps128
    go_wp2
    go_ret
    exact ⟨ret_int (by unfold Num.gr; rw [if_neg (by omega)]), rfl⟩

set_option maxHeartbeats 400000 in
theorem second_any (ax ay bx b2 cx cy : Int) (w : World) (h1 : -16384 ≤ ax ∧ ax ≤ 16384) (h2 : -16384 ≤ ay ∧ ay ≤ 16384) (h3 : -16384 ≤ bx ∧ bx ≤ 16384) (h4 : -16384 ≤ b2 ∧ b2 ≤ 16384) (h5 : -16384 ≤ cx ∧ cx ≤ 16384) (h6 : -16384 ≤ cy ∧ cy ≤ 16384) :
    Calls Try.prog 126 #[.agg #[.int .i64 ax, .int .i64 ay], .agg #[.int .i64 bx, .int .i64 b2], .agg #[.int .i64 cx, .int .i64 cy]] w fun e w' => e = .returned (.int .i64 (Num.bendV ax ay bx b2 cx cy)) ∧ Below w.heap.size w w' := by
  have HE : Hid (Num.bendV ax ay bx b2 cx cy = Num.gr (Num.sz (ax + cx - 2 * bx)) (Num.sz (ay + cy - 2 * b2))) := by
    unfold Hid Num.bendV
    rw [show ax - 2 * bx + cx = ax + cx - 2 * bx by omega, show ay - 2 * b2 + cy = ay + cy - 2 * b2 by omega]
  go_enter Try.func126, Try.ntmps126
  go_wp2_with (first | (go_at_call 149; refine (apart_any _ _ (by omega) (by omega)).mono ?_; rintro e w' ⟨rfl, rfl⟩) | (go_at_call 128; refine (most_any _ _ _).mono ?_; rintro e w' ⟨rfl, rfl⟩))
  go_ret
  exact ⟨ret_int HE.out.symm, by (repeat (any_goals (first | exact Below.refl _ _ | assumption | refine Below.drew ?_ | refine below_drewN ?_ _ | refine Below.setCell ?_ ?_ _ | refine Below.alloc ?_ ?_ _ | omega | (simp; done) | (simp; omega))))⟩

set_option maxHeartbeats 400000 in
theorem steps_any (d : Int) (w : World) (h : d ≤ 196608) :
    Calls Try.prog 127 #[.int .i64 d] w fun e w' => e = .returned (.int .i64 (Num.stepsV d)) ∧ w' = w := by
  have hS := Num.stepsV_is h
  have hSle := Num.stepsV_le h
  obtain ⟨S, hSe⟩ : ∃ S, S = Num.stepsV d := ⟨_, rfl⟩
  rw [← hSe] at hS hSle ⊢
  have HS := hide hS
  clear hSe hS
  go_enter Try.func127, Try.ntmps127
  go_wp2_with fail
  go_loop [3] (fun t => ∃ q : Int, 1 ≤ q ∧ q ≤ S ∧ t = .int .i64 q) (fun t => (S - intOf t).toNat)
  case atStart => exact ⟨1, by omega, HS.out.1, rfl⟩
  case round =>
    obtain ⟨q, q1, q2, rfl⟩ := hrel
    obtain ⟨s1, s2⟩ := steps_round HS.out q1 q2
    have b1 := Num.sq_mono (a := q) (b := 111) (by omega) (by omega)
    have b0 := Num.sq_mono (a := 0) (b := q) (by omega) (by omega)
    by_cases hlt : 16 * q * q < d
    · have s3 := s1 hlt
      clear s1 s2
      go_wp2
      go_round
      case rel => exact ⟨q + 1, by omega, by omega, rfl⟩
      case measure => simp [intOf]; omega
    · have HE := hide (s2 hlt)
      clear s1 s2
      go_wp2
      go_ret
      exact ⟨ret_int HE.out, rfl⟩

set_option maxHeartbeats 1000000 in
theorem parts_any (k x0 y0 x1 y1 x2 y2 x3 y3 : Int) (w : World) (hr : Num.rangeB (⟨k, x0, y0, x1, y1, x2, y2, x3, y3⟩ : Num.Sg) = true) :
    Calls Try.prog 96 #[.agg #[.int .i64 k, .int .i64 x0, .int .i64 y0, .int .i64 x1, .int .i64 y1, .int .i64 x2, .int .i64 y2, .int .i64 x3, .int .i64 y3]] w fun e w' => e = .returned (.int .i64 (Num.stepsV (Num.needV (⟨k, x0, y0, x1, y1, x2, y2, x3, y3⟩ : Num.Sg)))) ∧ Below w.heap.size w w' := by
  obtain ⟨r0, r3, r1, r2⟩ := Num.range_yes hr
  have hneed := Num.needV_bd hr
  obtain ⟨D, hD⟩ : ∃ D, D = Num.needV (⟨k, x0, y0, x1, y1, x2, y2, x3, y3⟩ : Num.Sg) := ⟨_, rfl⟩
  rw [← hD] at hneed ⊢
  obtain ⟨a1, a2⟩ := Num.inB_yes r0
  obtain ⟨b1, b2⟩ := Num.inB_yes r3
  clear r0 r3 hr
  by_cases h1 : k = 1
  · subst h1
    obtain ⟨c1, c2⟩ := Num.inB_yes (r1 (.inl rfl))
    have HD : Hid (D = Num.bendV x0 y0 x1 y1 x3 y3) := by unfold Hid; rw [hD]; simp [Num.needV]
    clear r1 r2 hD
    go_enter Try.func96, Try.ntmps96
    go_wp2_with fail
    refine (second_any _ _ _ _ _ _ _ a1 a2 c1 c2 b1 b2).mono ?_
    rw [← HD.out]
    rintro e w1 ⟨rfl, hb⟩
    have hb0 : Below w.heap.size w w1 := Below.trans (by (repeat (any_goals (first | exact Below.refl _ _ | assumption | refine Below.drew ?_ | refine below_drewN ?_ _ | refine Below.setCell ?_ ?_ _ | refine Below.alloc ?_ ?_ _ | omega | (simp; done) | (simp; omega))))) (hb.mono (by simp))
    clear hb a1 a2 b1 b2 c1 c2
    go_wp2_with (go_at_call 127; refine (steps_any _ _ (by omega)).mono ?_; rintro e w' ⟨rfl, rfl⟩)
    go_ret
    exact ⟨rfl, hb0⟩
  · by_cases h2 : k = 2
    · subst h2
      obtain ⟨c1, c2⟩ := Num.inB_yes (r1 (.inr rfl))
      obtain ⟨d1, d2⟩ := Num.inB_yes (r2 rfl)
      have HD : Hid (D = 3 * Num.gr (Num.bendV x0 y0 x1 y1 x2 y2) (Num.bendV x1 y1 x2 y2 x3 y3)) := by unfold Hid; rw [hD]; simp [Num.needV]
      have p := Num.bendV_bd a1 a2 c1 c2 d1 d2
      have q := Num.bendV_bd c1 c2 d1 d2 b1 b2
      have gb := Num.gr_bd p.1 p.2 q.1 q.2
      clear r1 r2 hD p q
      rw [HD.out]
      go_enter Try.func96, Try.ntmps96
      go_wp2_with fail
      refine (second_any _ _ _ _ _ _ _ a1 a2 c1 c2 d1 d2).mono ?_
      rintro e w1 ⟨rfl, hb⟩
      obtain ⟨hc, hfz⟩ := bcell hb
      have hz : w.heap.size < w1.heap.size := by have := hb.size; simp at this; omega
      have hb0 : Below w.heap.size w w1 := Below.trans (by (repeat (any_goals (first | exact Below.refl _ _ | assumption | refine Below.drew ?_ | refine below_drewN ?_ _ | refine Below.setCell ?_ ?_ _ | refine Below.alloc ?_ ?_ _ | omega | (simp; done) | (simp; omega))))) (hb.mono (by simp))
      have e3 : w1.cell? ⟨w.heap.size, 3, none⟩ = some (.int .i64 x1) := by rw [hc _ _ (by simp)]; go_simp
      have e4 : w1.cell? ⟨w.heap.size, 4, none⟩ = some (.int .i64 y1) := by rw [hc _ _ (by simp)]; go_simp
      have e5 : w1.cell? ⟨w.heap.size, 5, none⟩ = some (.int .i64 x2) := by rw [hc _ _ (by simp)]; go_simp
      have e6 : w1.cell? ⟨w.heap.size, 6, none⟩ = some (.int .i64 y2) := by rw [hc _ _ (by simp)]; go_simp
      have e7 : w1.cell? ⟨w.heap.size, 7, none⟩ = some (.int .i64 x3) := by rw [hc _ _ (by simp)]; go_simp
      have e8 : w1.cell? ⟨w.heap.size, 8, none⟩ = some (.int .i64 y3) := by rw [hc _ _ (by simp)]; go_simp
      clear hb hc hfz
      go_wp2_with fail
      refine (second_any _ _ _ _ _ _ _ c1 c2 d1 d2 b1 b2).mono ?_
      rintro e w2 ⟨rfl, hb2⟩
      have hb3 : Below w.heap.size w w2 := hb0.trans (hb2.mono (by omega))
      clear hb2 hb0 a1 a2 b1 b2 c1 c2 d1 d2 e3 e4 e5 e6 e7 e8
      go_wp2_with (first | (go_at_call 128; refine (most_any _ _ _).mono ?_; rintro e w' ⟨rfl, rfl⟩) | (go_at_call 127; refine (steps_any _ _ (by omega)).mono ?_; rintro e w' ⟨rfl, rfl⟩))
      go_ret
      exact ⟨rfl, hb3⟩
    · have t1 : (k == 1) = false := by simpa using h1
      have t2 : (k == 2) = false := by simpa using h2
      have hD0 : D = 0 := by rw [hD]; simp [Num.needV, h1, h2]
      have HS := hide (Num.stepsV_zero (d := D) (by omega))
      clear r1 r2 hD a1 a2 b1 b2 h1 h2
      rw [HS.out]
      go_enter Try.func96, Try.ntmps96
      go_wp2
      go_ret
      exact ⟨rfl, by (repeat (any_goals (first | exact Below.refl _ _ | assumption | refine Below.drew ?_ | refine below_drewN ?_ _ | refine Below.setCell ?_ ?_ _ | refine Below.alloc ?_ ?_ _ | omega | (simp; done) | (simp; omega))))⟩

theorem mx_bd {u i a b B : Int} (hu : -111 ≤ u ∧ u ≤ 111) (hi : -111 ≤ i ∧ i ≤ 111) (ha : -B ≤ a ∧ a ≤ B) (hb : -B ≤ b ∧ b ≤ B) : -(222 * B) ≤ Num.mx u i a b ∧ Num.mx u i a b ≤ 222 * B := by
  have h1 := Num.mul_bd u a _ _ hu ha
  have h2 := Num.mul_bd i b _ _ hi hb
  unfold Num.mx
  omega

set_option maxHeartbeats 400000 in
theorem mix_any (ax ay bx b2 i n : Int) (w : World) (hi : 0 ≤ i) (hin : i ≤ n) (hn : n ≤ 111) (h1 : -1000000000000 ≤ ax ∧ ax ≤ 1000000000000) (h2 : -1000000000000 ≤ ay ∧ ay ≤ 1000000000000) (h3 : -1000000000000 ≤ bx ∧ bx ≤ 1000000000000) (h4 : -1000000000000 ≤ b2 ∧ b2 ≤ 1000000000000) :
    Calls Try.prog 97 #[.agg #[.int .i64 ax, .int .i64 ay], .agg #[.int .i64 bx, .int .i64 b2], .int .i64 i, .int .i64 n] w fun e w' => e = .returned (.agg #[.int .i64 (Num.mx (n - i) i ax bx), .int .i64 (Num.mx (n - i) i ay b2)]) ∧ Below w.heap.size w w' := by
  have u0 : -111 ≤ n - i ∧ n - i ≤ 111 := by omega
  have i0 : -111 ≤ i ∧ i ≤ 111 := by omega
  have m1 := Num.mul_bd (n - i) ax _ _ u0 h1
  have m2 := Num.mul_bd (n - i) ay _ _ u0 h2
  have m3 := Num.mul_bd i bx _ _ i0 h3
  have m4 := Num.mul_bd i b2 _ _ i0 h4
  clear u0 i0
  unfold Num.mx
  go_enter Try.func97, Try.ntmps97
  go_wp2
  refine bodyPost_ret (v := .agg #[.int .i64 ((n - i) * ax + i * bx), .int .i64 ((n - i) * ay + i * b2)]) (by simp [results, Try.results97, go_sem]) rfl ⟨rfl, ?_⟩
  clear h1 h2 h3 h4 m1 m2 m3 m4
  (repeat (any_goals (first | exact Below.refl _ _ | assumption | refine Below.drew ?_ | refine below_drewN ?_ _ | refine Below.setCell ?_ ?_ _ | refine Below.alloc ?_ ?_ _ | omega | (simp; done) | (simp; omega))))

set_option maxHeartbeats 400000 in
theorem rounded_any (x y d : Int) (w : World) (hd1 : 1 ≤ d) (hd2 : d ≤ 1000000000000) (h1 : -1000000000000000 ≤ x ∧ x ≤ 1000000000000000) (h2 : -1000000000000000 ≤ y ∧ y ≤ 1000000000000000) :
    Calls Try.prog 129 #[.agg #[.int .i64 x, .int .i64 y], .int .i64 d] w fun e w' => e = .returned (.agg #[.int .i64 (Num.hu x d), .int .i64 (Num.hu y d)]) ∧ Below w.heap.size w w' := by
  obtain ⟨x1, x2⟩ := h1
  obtain ⟨y1, y2⟩ := h2
  go_enter Try.func129, Try.ntmps129
  go_wp2_with (go_at_call 94; refine (half_any _ _ _ hd1 hd2 (by assumption) (by assumption)).mono ?_; rintro e w' ⟨rfl, rfl⟩)
  refine bodyPost_ret (v := .agg #[.int .i64 (Num.hu x d), .int .i64 (Num.hu y d)]) (by simp [results, Try.results129, go_sem]) rfl ⟨rfl, ?_⟩
  (repeat (any_goals (first | exact Below.refl _ _ | assumption | refine Below.drew ?_ | refine below_drewN ?_ _ | refine Below.setCell ?_ ?_ _ | refine Below.alloc ?_ ?_ _ | omega | (simp; done) | (simp; omega))))

set_option maxHeartbeats 2000000 in
theorem quads_any (k x0 y0 x1 y1 x2 y2 x3 y3 i n : Int) (w : World) (hi : 0 ≤ i) (hin : i ≤ n) (h1 : 1 ≤ n) (hn : n ≤ 111)
    (bx0 : -16384 ≤ x0 ∧ x0 ≤ 16384) (by0 : -16384 ≤ y0 ∧ y0 ≤ 16384) (bx1 : -16384 ≤ x1 ∧ x1 ≤ 16384) (by1 : -16384 ≤ y1 ∧ y1 ≤ 16384) (bx3 : -16384 ≤ x3 ∧ x3 ≤ 16384) (by3 : -16384 ≤ y3 ∧ y3 ≤ 16384) :
    Calls Try.prog 98 #[.agg #[.int .i64 k, .int .i64 x0, .int .i64 y0, .int .i64 x1, .int .i64 y1, .int .i64 x2, .int .i64 y2, .int .i64 x3, .int .i64 y3], .int .i64 i, .int .i64 n] w fun e w' => e = .returned (.agg #[.int .i64 (Num.hu (Num.qSum (n - i) i x0 x1 x3) (n * n)), .int .i64 (Num.hu (Num.qSum (n - i) i y0 y1 y3) (n * n))]) ∧ Below w.heap.size w w' := by
  have u0 : -111 ≤ n - i ∧ n - i ≤ 111 := by omega
  have i0 : -111 ≤ i ∧ i ≤ 111 := by omega
  have n0 : -111 ≤ n ∧ n ≤ 111 := by omega
  have p4 := Num.mul_bd n n _ _ n0 n0
  have p5 := Num.mul3_bd n0 n0 n0
  have p6 : 1 ≤ n * n := by have := Int.mul_le_mul h1 h1 (by omega) (by omega); omega
  have p7 : 1 ≤ n * n * n := by have := Int.mul_le_mul p6 h1 (by omega) (by omega); omega
  obtain ⟨Ax, hAx⟩ : ∃ z, z = Num.mx (n - i) i x0 x1 := ⟨_, rfl⟩
  have bAx : -(222 * 16384) ≤ Ax ∧ Ax ≤ (222 * 16384) := by rw [hAx]; exact mx_bd u0 i0 bx0 bx1
  obtain ⟨Ay, hAy⟩ : ∃ z, z = Num.mx (n - i) i y0 y1 := ⟨_, rfl⟩
  have bAy : -(222 * 16384) ≤ Ay ∧ Ay ≤ (222 * 16384) := by rw [hAy]; exact mx_bd u0 i0 by0 by1
  obtain ⟨Bx, hBx⟩ : ∃ z, z = Num.mx (n - i) i x1 x3 := ⟨_, rfl⟩
  have bBx : -(222 * 16384) ≤ Bx ∧ Bx ≤ (222 * 16384) := by rw [hBx]; exact mx_bd u0 i0 bx1 bx3
  obtain ⟨By, hBy⟩ : ∃ z, z = Num.mx (n - i) i y1 y3 := ⟨_, rfl⟩
  have bBy : -(222 * 16384) ≤ By ∧ By ≤ (222 * 16384) := by rw [hBy]; exact mx_bd u0 i0 by1 by3
  obtain ⟨Sx, hSx⟩ : ∃ z, z = Num.mx (n - i) i Ax Bx := ⟨_, rfl⟩
  have bSx : -(222 * (222 * 16384)) ≤ Sx ∧ Sx ≤ (222 * (222 * 16384)) := by rw [hSx]; exact mx_bd u0 i0 bAx bBx
  obtain ⟨Sy, hSy⟩ : ∃ z, z = Num.mx (n - i) i Ay By := ⟨_, rfl⟩
  have bSy : -(222 * (222 * 16384)) ≤ Sy ∧ Sy ≤ (222 * (222 * 16384)) := by rw [hSy]; exact mx_bd u0 i0 bAy bBy
  have QSx : Hid (Num.qSum (n - i) i x0 x1 x3 = Sx) := by unfold Hid; rw [hSx, hBx, hAx]; exact (Num.mx_quad _ _ _ _ _).symm
  have QSy : Hid (Num.qSum (n - i) i y0 y1 y3 = Sy) := by unfold Hid; rw [hSy, hBy, hAy]; exact (Num.mx_quad _ _ _ _ _).symm
  rw [QSx.out, QSy.out]
  have HAx := hide hAx
  have HAy := hide hAy
  have HBx := hide hBx
  have HBy := hide hBy
  have HSx := hide hSx
  have HSy := hide hSy
  clear hAx hAy hBx hBy hSx hSy u0 i0 n0
  go_enter Try.func98, Try.ntmps98
  go_wp2_with fail
  refine (mix_any _ _ _ _ _ _ _ hi hin hn (by omega) (by omega) (by omega) (by omega)).mono ?_
  rw [← HAx.out, ← HAy.out]
  rintro e w1 ⟨rfl, hb⟩
  obtain ⟨hc, hfz⟩ := bcell hb
  have hz1 : w.heap.size + 1 < w1.heap.size := by have := hb.size; simp at this; omega
  have B1 : Below w.heap.size w w1 := Below.trans (by (repeat (any_goals (first | exact Below.refl _ _ | assumption | refine Below.drew ?_ | refine below_drewN ?_ _ | refine Below.setCell ?_ ?_ _ | refine Below.alloc ?_ ?_ _ | omega | (simp; done) | (simp; omega))))) (hb.mono (by simp; omega))
  have HB1 := hide B1
  have zx1 : w.heap.size < w1.heap.size := by omega
  have f1_3 : w1.cell? ⟨w.heap.size, 3, none⟩ = some (.int .i64 x1) := by rw [hc _ _ (by first | (simp; done) | (simp; omega))]; go_simp
  have f1_4 : w1.cell? ⟨w.heap.size, 4, none⟩ = some (.int .i64 y1) := by rw [hc _ _ (by first | (simp; done) | (simp; omega))]; go_simp
  have f1_7 : w1.cell? ⟨w.heap.size, 7, none⟩ = some (.int .i64 x3) := by rw [hc _ _ (by first | (simp; done) | (simp; omega))]; go_simp
  have f1_8 : w1.cell? ⟨w.heap.size, 8, none⟩ = some (.int .i64 y3) := by rw [hc _ _ (by first | (simp; done) | (simp; omega))]; go_simp
  have r1_0 : w1.cell? ⟨w.heap.size + 1, 0, none⟩ = some (.int .i64 0) := by rw [hc _ _ (by first | (simp; done) | (simp; omega))]; go_simp
  have z1_0 : w1.frozen? ⟨w.heap.size + 1, 0, none⟩ = false := by rw [hfz _ _ (by first | (simp; done) | (simp; omega))]; go_simp
  have r1_1 : w1.cell? ⟨w.heap.size + 1, 1, none⟩ = some (.int .i64 0) := by rw [hc _ _ (by first | (simp; done) | (simp; omega))]; go_simp
  have z1_1 : w1.frozen? ⟨w.heap.size + 1, 1, none⟩ = false := by rw [hfz _ _ (by first | (simp; done) | (simp; omega))]; go_simp
  clear hb hc hfz B1 
  go_wp2_with fail
  refine (mix_any _ _ _ _ _ _ _ hi hin hn (by omega) (by omega) (by omega) (by omega)).mono ?_
  rw [← HBx.out, ← HBy.out]
  rintro e w2 ⟨rfl, hb⟩
  obtain ⟨hc, hfz⟩ := bcell hb
  have hz2 : w1.heap.size < w2.heap.size := by have := hb.size; simp at this; omega
  have B2 : Below w.heap.size w w2 := Below.trans HB1.out ((Below.alloc (Below.refl _ _) (Nat.le_refl _) _).trans (hb.mono (by simp)) |>.mono (by omega))
  have HB2 := hide B2
  have zx2 : w.heap.size < w2.heap.size := by omega
  have r2_0 : w2.cell? ⟨w.heap.size + 1, 0, none⟩ = some (.int .i64 0) := by rw [hc _ _ (by first | (simp; done) | (simp; omega))]; go_simp
  have z2_0 : w2.frozen? ⟨w.heap.size + 1, 0, none⟩ = false := by rw [hfz _ _ (by first | (simp; done) | (simp; omega))]; go_simp
  have r2_1 : w2.cell? ⟨w.heap.size + 1, 1, none⟩ = some (.int .i64 0) := by rw [hc _ _ (by first | (simp; done) | (simp; omega))]; go_simp
  have z2_1 : w2.frozen? ⟨w.heap.size + 1, 1, none⟩ = false := by rw [hfz _ _ (by first | (simp; done) | (simp; omega))]; go_simp
  have g2_Ax : w2.cell? ⟨w1.heap.size, 0, none⟩ = some (.int .i64 Ax) := by rw [hc _ _ (by first | (simp; done) | (simp; omega))]; go_simp
  have g2_Ay : w2.cell? ⟨w1.heap.size, 1, none⟩ = some (.int .i64 Ay) := by rw [hc _ _ (by first | (simp; done) | (simp; omega))]; go_simp
  have zy2 : w.heap.size + 1 < w2.heap.size := by omega
  clear hb hc hfz B2 r1_0 r1_1 z1_0 z1_1 f1_3 f1_4 f1_7 f1_8
  go_wp2_with fail
  refine (mix_any _ _ _ _ _ _ _ hi hin hn (by omega) (by omega) (by omega) (by omega)).mono ?_
  rw [← HSx.out, ← HSy.out]
  rintro e w3 ⟨rfl, hb⟩
  obtain ⟨hc, hfz⟩ := bcell hb
  have hz3 : w2.heap.size < w3.heap.size := by have := hb.size; simp at this; omega
  have B3 : Below w.heap.size w w3 := Below.trans HB2.out ((Below.alloc (Below.refl _ _) (Nat.le_refl _) _).trans (hb.mono (by simp)) |>.mono (by omega))
  have HB3 := hide B3
  have zx3 : w.heap.size < w3.heap.size := by omega
  have r3_0 : w3.cell? ⟨w.heap.size + 1, 0, none⟩ = some (.int .i64 0) := by rw [hc _ _ (by first | (simp; done) | (simp; omega))]; go_simp
  have z3_0 : w3.frozen? ⟨w.heap.size + 1, 0, none⟩ = false := by rw [hfz _ _ (by first | (simp; done) | (simp; omega))]; go_simp
  have r3_1 : w3.cell? ⟨w.heap.size + 1, 1, none⟩ = some (.int .i64 0) := by rw [hc _ _ (by first | (simp; done) | (simp; omega))]; go_simp
  have z3_1 : w3.frozen? ⟨w.heap.size + 1, 1, none⟩ = false := by rw [hfz _ _ (by first | (simp; done) | (simp; omega))]; go_simp
  have zy3 : w.heap.size + 1 < w3.heap.size := by omega
  clear hb hc hfz B3 r2_0 r2_1 z2_0 z2_1 g2_Ax g2_Ay
  have t3_1 : w1.heap.size < w3.heap.size := by omega
  go_wp2_with fail
  refine (rounded_any _ _ _ _ (by omega) (by omega) (by omega) (by omega)).mono ?_
  rintro e w9 ⟨rfl, hb⟩
  obtain ⟨hc, hfz⟩ := bcell hb
  have hz9 : w3.heap.size < w9.heap.size := by have := hb.size; simp at this; omega
  have zx9 : w.heap.size < w9.heap.size := by omega
  have zy9 : w.heap.size + 1 < w9.heap.size := by omega
  have B9 : Below w.heap.size w w9 := Below.trans HB3.out ((Below.alloc (Below.refl _ _) (Nat.le_refl _) _).trans (hb.mono (by simp)) |>.mono (by omega))
  have s0 : w9.cell? ⟨w.heap.size + 1, 0, none⟩ = some (.int .i64 0) := by rw [hc _ _ (by first | (simp; done) | (simp; omega))]; go_simp
  have q0 : w9.frozen? ⟨w.heap.size + 1, 0, none⟩ = false := by rw [hfz _ _ (by first | (simp; done) | (simp; omega))]; go_simp
  have s1 : w9.cell? ⟨w.heap.size + 1, 1, none⟩ = some (.int .i64 0) := by rw [hc _ _ (by first | (simp; done) | (simp; omega))]; go_simp
  have q1 : w9.frozen? ⟨w.heap.size + 1, 1, none⟩ = false := by rw [hfz _ _ (by first | (simp; done) | (simp; omega))]; go_simp
  clear hb hc hfz r3_0 r3_1 z3_0 z3_1
  have HB9 := hide B9
  clear B9
  go_wp2
  refine bodyPost_ret (v := .agg #[.int .i64 (Num.hu Sx (n * n)), .int .i64 (Num.hu Sy (n * n))]) (by simp [results, Try.results98, go_sem, s0, s1]) rfl ⟨rfl, ?_⟩
  exact (HB9.out.setCell (Nat.le_succ _) _).setCell (Nat.le_succ _) _

set_option maxHeartbeats 2000000 in
theorem cubics_any (k x0 y0 x1 y1 x2 y2 x3 y3 i n : Int) (w : World) (hi : 0 ≤ i) (hin : i ≤ n) (h1 : 1 ≤ n) (hn : n ≤ 111)
    (bx0 : -16384 ≤ x0 ∧ x0 ≤ 16384) (by0 : -16384 ≤ y0 ∧ y0 ≤ 16384) (bx1 : -16384 ≤ x1 ∧ x1 ≤ 16384) (by1 : -16384 ≤ y1 ∧ y1 ≤ 16384) (bx2 : -16384 ≤ x2 ∧ x2 ≤ 16384) (by2 : -16384 ≤ y2 ∧ y2 ≤ 16384) (bx3 : -16384 ≤ x3 ∧ x3 ≤ 16384) (by3 : -16384 ≤ y3 ∧ y3 ≤ 16384) :
    Calls Try.prog 99 #[.agg #[.int .i64 k, .int .i64 x0, .int .i64 y0, .int .i64 x1, .int .i64 y1, .int .i64 x2, .int .i64 y2, .int .i64 x3, .int .i64 y3], .int .i64 i, .int .i64 n] w fun e w' => e = .returned (.agg #[.int .i64 (Num.hu (Num.cSum (n - i) i x0 x1 x2 x3) (n * n * n)), .int .i64 (Num.hu (Num.cSum (n - i) i y0 y1 y2 y3) (n * n * n))]) ∧ Below w.heap.size w w' := by
  have u0 : -111 ≤ n - i ∧ n - i ≤ 111 := by omega
  have i0 : -111 ≤ i ∧ i ≤ 111 := by omega
  have n0 : -111 ≤ n ∧ n ≤ 111 := by omega
  have p4 := Num.mul_bd n n _ _ n0 n0
  have p5 := Num.mul3_bd n0 n0 n0
  have p6 : 1 ≤ n * n := by have := Int.mul_le_mul h1 h1 (by omega) (by omega); omega
  have p7 : 1 ≤ n * n * n := by have := Int.mul_le_mul p6 h1 (by omega) (by omega); omega
  obtain ⟨Ax, hAx⟩ : ∃ z, z = Num.mx (n - i) i x0 x1 := ⟨_, rfl⟩
  have bAx : -(222 * 16384) ≤ Ax ∧ Ax ≤ (222 * 16384) := by rw [hAx]; exact mx_bd u0 i0 bx0 bx1
  obtain ⟨Ay, hAy⟩ : ∃ z, z = Num.mx (n - i) i y0 y1 := ⟨_, rfl⟩
  have bAy : -(222 * 16384) ≤ Ay ∧ Ay ≤ (222 * 16384) := by rw [hAy]; exact mx_bd u0 i0 by0 by1
  obtain ⟨Bx, hBx⟩ : ∃ z, z = Num.mx (n - i) i x1 x2 := ⟨_, rfl⟩
  have bBx : -(222 * 16384) ≤ Bx ∧ Bx ≤ (222 * 16384) := by rw [hBx]; exact mx_bd u0 i0 bx1 bx2
  obtain ⟨By, hBy⟩ : ∃ z, z = Num.mx (n - i) i y1 y2 := ⟨_, rfl⟩
  have bBy : -(222 * 16384) ≤ By ∧ By ≤ (222 * 16384) := by rw [hBy]; exact mx_bd u0 i0 by1 by2
  obtain ⟨Cx, hCx⟩ : ∃ z, z = Num.mx (n - i) i x2 x3 := ⟨_, rfl⟩
  have bCx : -(222 * 16384) ≤ Cx ∧ Cx ≤ (222 * 16384) := by rw [hCx]; exact mx_bd u0 i0 bx2 bx3
  obtain ⟨Cy, hCy⟩ : ∃ z, z = Num.mx (n - i) i y2 y3 := ⟨_, rfl⟩
  have bCy : -(222 * 16384) ≤ Cy ∧ Cy ≤ (222 * 16384) := by rw [hCy]; exact mx_bd u0 i0 by2 by3
  obtain ⟨Ux, hUx⟩ : ∃ z, z = Num.mx (n - i) i Ax Bx := ⟨_, rfl⟩
  have bUx : -(222 * (222 * 16384)) ≤ Ux ∧ Ux ≤ (222 * (222 * 16384)) := by rw [hUx]; exact mx_bd u0 i0 bAx bBx
  obtain ⟨Uy, hUy⟩ : ∃ z, z = Num.mx (n - i) i Ay By := ⟨_, rfl⟩
  have bUy : -(222 * (222 * 16384)) ≤ Uy ∧ Uy ≤ (222 * (222 * 16384)) := by rw [hUy]; exact mx_bd u0 i0 bAy bBy
  obtain ⟨Vx, hVx⟩ : ∃ z, z = Num.mx (n - i) i Bx Cx := ⟨_, rfl⟩
  have bVx : -(222 * (222 * 16384)) ≤ Vx ∧ Vx ≤ (222 * (222 * 16384)) := by rw [hVx]; exact mx_bd u0 i0 bBx bCx
  obtain ⟨Vy, hVy⟩ : ∃ z, z = Num.mx (n - i) i By Cy := ⟨_, rfl⟩
  have bVy : -(222 * (222 * 16384)) ≤ Vy ∧ Vy ≤ (222 * (222 * 16384)) := by rw [hVy]; exact mx_bd u0 i0 bBy bCy
  obtain ⟨Sx, hSx⟩ : ∃ z, z = Num.mx (n - i) i Ux Vx := ⟨_, rfl⟩
  have bSx : -(222 * (222 * (222 * 16384))) ≤ Sx ∧ Sx ≤ (222 * (222 * (222 * 16384))) := by rw [hSx]; exact mx_bd u0 i0 bUx bVx
  obtain ⟨Sy, hSy⟩ : ∃ z, z = Num.mx (n - i) i Uy Vy := ⟨_, rfl⟩
  have bSy : -(222 * (222 * (222 * 16384))) ≤ Sy ∧ Sy ≤ (222 * (222 * (222 * 16384))) := by rw [hSy]; exact mx_bd u0 i0 bUy bVy
  have QSx : Hid (Num.cSum (n - i) i x0 x1 x2 x3 = Sx) := by unfold Hid; rw [hSx, hVx, hUx, hCx, hBx, hAx]; exact (Num.mx_cubic _ _ _ _ _ _).symm
  have QSy : Hid (Num.cSum (n - i) i y0 y1 y2 y3 = Sy) := by unfold Hid; rw [hSy, hVy, hUy, hCy, hBy, hAy]; exact (Num.mx_cubic _ _ _ _ _ _).symm
  rw [QSx.out, QSy.out]
  have HAx := hide hAx
  have HAy := hide hAy
  have HBx := hide hBx
  have HBy := hide hBy
  have HCx := hide hCx
  have HCy := hide hCy
  have HUx := hide hUx
  have HUy := hide hUy
  have HVx := hide hVx
  have HVy := hide hVy
  have HSx := hide hSx
  have HSy := hide hSy
  clear hAx hAy hBx hBy hCx hCy hUx hUy hVx hVy hSx hSy u0 i0 n0
  go_enter Try.func99, Try.ntmps99
  go_wp2_with fail
  refine (mix_any _ _ _ _ _ _ _ hi hin hn (by omega) (by omega) (by omega) (by omega)).mono ?_
  rw [← HAx.out, ← HAy.out]
  rintro e w1 ⟨rfl, hb⟩
  obtain ⟨hc, hfz⟩ := bcell hb
  have hz1 : w.heap.size + 1 < w1.heap.size := by have := hb.size; simp at this; omega
  have B1 : Below w.heap.size w w1 := Below.trans (by (repeat (any_goals (first | exact Below.refl _ _ | assumption | refine Below.drew ?_ | refine below_drewN ?_ _ | refine Below.setCell ?_ ?_ _ | refine Below.alloc ?_ ?_ _ | omega | (simp; done) | (simp; omega))))) (hb.mono (by simp; omega))
  have HB1 := hide B1
  have zx1 : w.heap.size < w1.heap.size := by omega
  have f1_3 : w1.cell? ⟨w.heap.size, 3, none⟩ = some (.int .i64 x1) := by rw [hc _ _ (by first | (simp; done) | (simp; omega))]; go_simp
  have f1_4 : w1.cell? ⟨w.heap.size, 4, none⟩ = some (.int .i64 y1) := by rw [hc _ _ (by first | (simp; done) | (simp; omega))]; go_simp
  have f1_5 : w1.cell? ⟨w.heap.size, 5, none⟩ = some (.int .i64 x2) := by rw [hc _ _ (by first | (simp; done) | (simp; omega))]; go_simp
  have f1_6 : w1.cell? ⟨w.heap.size, 6, none⟩ = some (.int .i64 y2) := by rw [hc _ _ (by first | (simp; done) | (simp; omega))]; go_simp
  have f1_7 : w1.cell? ⟨w.heap.size, 7, none⟩ = some (.int .i64 x3) := by rw [hc _ _ (by first | (simp; done) | (simp; omega))]; go_simp
  have f1_8 : w1.cell? ⟨w.heap.size, 8, none⟩ = some (.int .i64 y3) := by rw [hc _ _ (by first | (simp; done) | (simp; omega))]; go_simp
  have r1_0 : w1.cell? ⟨w.heap.size + 1, 0, none⟩ = some (.int .i64 0) := by rw [hc _ _ (by first | (simp; done) | (simp; omega))]; go_simp
  have z1_0 : w1.frozen? ⟨w.heap.size + 1, 0, none⟩ = false := by rw [hfz _ _ (by first | (simp; done) | (simp; omega))]; go_simp
  have r1_1 : w1.cell? ⟨w.heap.size + 1, 1, none⟩ = some (.int .i64 0) := by rw [hc _ _ (by first | (simp; done) | (simp; omega))]; go_simp
  have z1_1 : w1.frozen? ⟨w.heap.size + 1, 1, none⟩ = false := by rw [hfz _ _ (by first | (simp; done) | (simp; omega))]; go_simp
  clear hb hc hfz B1 
  go_wp2_with fail
  refine (mix_any _ _ _ _ _ _ _ hi hin hn (by omega) (by omega) (by omega) (by omega)).mono ?_
  rw [← HBx.out, ← HBy.out]
  rintro e w2 ⟨rfl, hb⟩
  obtain ⟨hc, hfz⟩ := bcell hb
  have hz2 : w1.heap.size < w2.heap.size := by have := hb.size; simp at this; omega
  have B2 : Below w.heap.size w w2 := Below.trans HB1.out ((Below.alloc (Below.refl _ _) (Nat.le_refl _) _).trans (hb.mono (by simp)) |>.mono (by omega))
  have HB2 := hide B2
  have zx2 : w.heap.size < w2.heap.size := by omega
  have f2_5 : w2.cell? ⟨w.heap.size, 5, none⟩ = some (.int .i64 x2) := by rw [hc _ _ (by first | (simp; done) | (simp; omega))]; go_simp
  have f2_6 : w2.cell? ⟨w.heap.size, 6, none⟩ = some (.int .i64 y2) := by rw [hc _ _ (by first | (simp; done) | (simp; omega))]; go_simp
  have f2_7 : w2.cell? ⟨w.heap.size, 7, none⟩ = some (.int .i64 x3) := by rw [hc _ _ (by first | (simp; done) | (simp; omega))]; go_simp
  have f2_8 : w2.cell? ⟨w.heap.size, 8, none⟩ = some (.int .i64 y3) := by rw [hc _ _ (by first | (simp; done) | (simp; omega))]; go_simp
  have r2_0 : w2.cell? ⟨w.heap.size + 1, 0, none⟩ = some (.int .i64 0) := by rw [hc _ _ (by first | (simp; done) | (simp; omega))]; go_simp
  have z2_0 : w2.frozen? ⟨w.heap.size + 1, 0, none⟩ = false := by rw [hfz _ _ (by first | (simp; done) | (simp; omega))]; go_simp
  have r2_1 : w2.cell? ⟨w.heap.size + 1, 1, none⟩ = some (.int .i64 0) := by rw [hc _ _ (by first | (simp; done) | (simp; omega))]; go_simp
  have z2_1 : w2.frozen? ⟨w.heap.size + 1, 1, none⟩ = false := by rw [hfz _ _ (by first | (simp; done) | (simp; omega))]; go_simp
  have g2_Ax : w2.cell? ⟨w1.heap.size, 0, none⟩ = some (.int .i64 Ax) := by rw [hc _ _ (by first | (simp; done) | (simp; omega))]; go_simp
  have g2_Ay : w2.cell? ⟨w1.heap.size, 1, none⟩ = some (.int .i64 Ay) := by rw [hc _ _ (by first | (simp; done) | (simp; omega))]; go_simp
  have zy2 : w.heap.size + 1 < w2.heap.size := by omega
  clear hb hc hfz B2 r1_0 r1_1 z1_0 z1_1 f1_3 f1_4 f1_5 f1_6 f1_7 f1_8
  go_wp2_with fail
  refine (mix_any _ _ _ _ _ _ _ hi hin hn (by omega) (by omega) (by omega) (by omega)).mono ?_
  rw [← HCx.out, ← HCy.out]
  rintro e w3 ⟨rfl, hb⟩
  obtain ⟨hc, hfz⟩ := bcell hb
  have hz3 : w2.heap.size < w3.heap.size := by have := hb.size; simp at this; omega
  have B3 : Below w.heap.size w w3 := Below.trans HB2.out ((Below.alloc (Below.refl _ _) (Nat.le_refl _) _).trans (hb.mono (by simp)) |>.mono (by omega))
  have HB3 := hide B3
  have zx3 : w.heap.size < w3.heap.size := by omega
  have r3_0 : w3.cell? ⟨w.heap.size + 1, 0, none⟩ = some (.int .i64 0) := by rw [hc _ _ (by first | (simp; done) | (simp; omega))]; go_simp
  have z3_0 : w3.frozen? ⟨w.heap.size + 1, 0, none⟩ = false := by rw [hfz _ _ (by first | (simp; done) | (simp; omega))]; go_simp
  have r3_1 : w3.cell? ⟨w.heap.size + 1, 1, none⟩ = some (.int .i64 0) := by rw [hc _ _ (by first | (simp; done) | (simp; omega))]; go_simp
  have z3_1 : w3.frozen? ⟨w.heap.size + 1, 1, none⟩ = false := by rw [hfz _ _ (by first | (simp; done) | (simp; omega))]; go_simp
  have g3_Ax : w3.cell? ⟨w1.heap.size, 0, none⟩ = some (.int .i64 Ax) := by rw [hc _ _ (by first | (simp; done) | (simp; omega))]; go_simp
  have g3_Ay : w3.cell? ⟨w1.heap.size, 1, none⟩ = some (.int .i64 Ay) := by rw [hc _ _ (by first | (simp; done) | (simp; omega))]; go_simp
  have g3_Bx : w3.cell? ⟨w2.heap.size, 0, none⟩ = some (.int .i64 Bx) := by rw [hc _ _ (by first | (simp; done) | (simp; omega))]; go_simp
  have g3_By : w3.cell? ⟨w2.heap.size, 1, none⟩ = some (.int .i64 By) := by rw [hc _ _ (by first | (simp; done) | (simp; omega))]; go_simp
  have zy3 : w.heap.size + 1 < w3.heap.size := by omega
  clear hb hc hfz B3 r2_0 r2_1 z2_0 z2_1 f2_5 f2_6 f2_7 f2_8 g2_Ax g2_Ay
  have t3_1 : w1.heap.size < w3.heap.size := by omega
  go_wp2_with fail
  refine (mix_any _ _ _ _ _ _ _ hi hin hn (by omega) (by omega) (by omega) (by omega)).mono ?_
  rw [← HUx.out, ← HUy.out]
  rintro e w4 ⟨rfl, hb⟩
  obtain ⟨hc, hfz⟩ := bcell hb
  have hz4 : w3.heap.size < w4.heap.size := by have := hb.size; simp at this; omega
  have B4 : Below w.heap.size w w4 := Below.trans HB3.out ((Below.alloc (Below.refl _ _) (Nat.le_refl _) _).trans (hb.mono (by simp)) |>.mono (by omega))
  have HB4 := hide B4
  have zx4 : w.heap.size < w4.heap.size := by omega
  have r4_0 : w4.cell? ⟨w.heap.size + 1, 0, none⟩ = some (.int .i64 0) := by rw [hc _ _ (by first | (simp; done) | (simp; omega))]; go_simp
  have z4_0 : w4.frozen? ⟨w.heap.size + 1, 0, none⟩ = false := by rw [hfz _ _ (by first | (simp; done) | (simp; omega))]; go_simp
  have r4_1 : w4.cell? ⟨w.heap.size + 1, 1, none⟩ = some (.int .i64 0) := by rw [hc _ _ (by first | (simp; done) | (simp; omega))]; go_simp
  have z4_1 : w4.frozen? ⟨w.heap.size + 1, 1, none⟩ = false := by rw [hfz _ _ (by first | (simp; done) | (simp; omega))]; go_simp
  have g4_Bx : w4.cell? ⟨w2.heap.size, 0, none⟩ = some (.int .i64 Bx) := by rw [hc _ _ (by first | (simp; done) | (simp; omega))]; go_simp
  have g4_By : w4.cell? ⟨w2.heap.size, 1, none⟩ = some (.int .i64 By) := by rw [hc _ _ (by first | (simp; done) | (simp; omega))]; go_simp
  have g4_Cx : w4.cell? ⟨w3.heap.size, 0, none⟩ = some (.int .i64 Cx) := by rw [hc _ _ (by first | (simp; done) | (simp; omega))]; go_simp
  have g4_Cy : w4.cell? ⟨w3.heap.size, 1, none⟩ = some (.int .i64 Cy) := by rw [hc _ _ (by first | (simp; done) | (simp; omega))]; go_simp
  have zy4 : w.heap.size + 1 < w4.heap.size := by omega
  clear hb hc hfz B4 r3_0 r3_1 z3_0 z3_1 g3_Ax g3_Ay g3_Bx g3_By
  have t4_1 : w1.heap.size < w4.heap.size := by omega
  have t4_2 : w2.heap.size < w4.heap.size := by omega
  go_wp2_with fail
  refine (mix_any _ _ _ _ _ _ _ hi hin hn (by omega) (by omega) (by omega) (by omega)).mono ?_
  rw [← HVx.out, ← HVy.out]
  rintro e w5 ⟨rfl, hb⟩
  obtain ⟨hc, hfz⟩ := bcell hb
  have hz5 : w4.heap.size < w5.heap.size := by have := hb.size; simp at this; omega
  have B5 : Below w.heap.size w w5 := Below.trans HB4.out ((Below.alloc (Below.refl _ _) (Nat.le_refl _) _).trans (hb.mono (by simp)) |>.mono (by omega))
  have HB5 := hide B5
  have zx5 : w.heap.size < w5.heap.size := by omega
  have r5_0 : w5.cell? ⟨w.heap.size + 1, 0, none⟩ = some (.int .i64 0) := by rw [hc _ _ (by first | (simp; done) | (simp; omega))]; go_simp
  have z5_0 : w5.frozen? ⟨w.heap.size + 1, 0, none⟩ = false := by rw [hfz _ _ (by first | (simp; done) | (simp; omega))]; go_simp
  have r5_1 : w5.cell? ⟨w.heap.size + 1, 1, none⟩ = some (.int .i64 0) := by rw [hc _ _ (by first | (simp; done) | (simp; omega))]; go_simp
  have z5_1 : w5.frozen? ⟨w.heap.size + 1, 1, none⟩ = false := by rw [hfz _ _ (by first | (simp; done) | (simp; omega))]; go_simp
  have g5_Ux : w5.cell? ⟨w4.heap.size, 0, none⟩ = some (.int .i64 Ux) := by rw [hc _ _ (by first | (simp; done) | (simp; omega))]; go_simp
  have g5_Uy : w5.cell? ⟨w4.heap.size, 1, none⟩ = some (.int .i64 Uy) := by rw [hc _ _ (by first | (simp; done) | (simp; omega))]; go_simp
  have zy5 : w.heap.size + 1 < w5.heap.size := by omega
  clear hb hc hfz B5 r4_0 r4_1 z4_0 z4_1 g4_Bx g4_By g4_Cx g4_Cy
  have t5_1 : w1.heap.size < w5.heap.size := by omega
  have t5_2 : w2.heap.size < w5.heap.size := by omega
  have t5_3 : w3.heap.size < w5.heap.size := by omega
  go_wp2_with fail
  refine (mix_any _ _ _ _ _ _ _ hi hin hn (by omega) (by omega) (by omega) (by omega)).mono ?_
  rw [← HSx.out, ← HSy.out]
  rintro e w6 ⟨rfl, hb⟩
  obtain ⟨hc, hfz⟩ := bcell hb
  have hz6 : w5.heap.size < w6.heap.size := by have := hb.size; simp at this; omega
  have B6 : Below w.heap.size w w6 := Below.trans HB5.out ((Below.alloc (Below.refl _ _) (Nat.le_refl _) _).trans (hb.mono (by simp)) |>.mono (by omega))
  have HB6 := hide B6
  have zx6 : w.heap.size < w6.heap.size := by omega
  have r6_0 : w6.cell? ⟨w.heap.size + 1, 0, none⟩ = some (.int .i64 0) := by rw [hc _ _ (by first | (simp; done) | (simp; omega))]; go_simp
  have z6_0 : w6.frozen? ⟨w.heap.size + 1, 0, none⟩ = false := by rw [hfz _ _ (by first | (simp; done) | (simp; omega))]; go_simp
  have r6_1 : w6.cell? ⟨w.heap.size + 1, 1, none⟩ = some (.int .i64 0) := by rw [hc _ _ (by first | (simp; done) | (simp; omega))]; go_simp
  have z6_1 : w6.frozen? ⟨w.heap.size + 1, 1, none⟩ = false := by rw [hfz _ _ (by first | (simp; done) | (simp; omega))]; go_simp
  have zy6 : w.heap.size + 1 < w6.heap.size := by omega
  clear hb hc hfz B6 r5_0 r5_1 z5_0 z5_1 g5_Ux g5_Uy
  have t6_1 : w1.heap.size < w6.heap.size := by omega
  have t6_2 : w2.heap.size < w6.heap.size := by omega
  have t6_3 : w3.heap.size < w6.heap.size := by omega
  have t6_4 : w4.heap.size < w6.heap.size := by omega
  go_wp2_with fail
  refine (rounded_any _ _ _ _ (by omega) (by omega) (by omega) (by omega)).mono ?_
  rintro e w9 ⟨rfl, hb⟩
  obtain ⟨hc, hfz⟩ := bcell hb
  have hz9 : w6.heap.size < w9.heap.size := by have := hb.size; simp at this; omega
  have zx9 : w.heap.size < w9.heap.size := by omega
  have zy9 : w.heap.size + 1 < w9.heap.size := by omega
  have B9 : Below w.heap.size w w9 := Below.trans HB6.out ((Below.alloc (Below.refl _ _) (Nat.le_refl _) _).trans (hb.mono (by simp)) |>.mono (by omega))
  have s0 : w9.cell? ⟨w.heap.size + 1, 0, none⟩ = some (.int .i64 0) := by rw [hc _ _ (by first | (simp; done) | (simp; omega))]; go_simp
  have q0 : w9.frozen? ⟨w.heap.size + 1, 0, none⟩ = false := by rw [hfz _ _ (by first | (simp; done) | (simp; omega))]; go_simp
  have s1 : w9.cell? ⟨w.heap.size + 1, 1, none⟩ = some (.int .i64 0) := by rw [hc _ _ (by first | (simp; done) | (simp; omega))]; go_simp
  have q1 : w9.frozen? ⟨w.heap.size + 1, 1, none⟩ = false := by rw [hfz _ _ (by first | (simp; done) | (simp; omega))]; go_simp
  clear hb hc hfz r6_0 r6_1 z6_0 z6_1
  have HB9 := hide B9
  clear B9
  go_wp2
  refine bodyPost_ret (v := .agg #[.int .i64 (Num.hu Sx (n * n * n)), .int .i64 (Num.hu Sy (n * n * n))]) (by simp [results, Try.results99, go_sem, s0, s1]) rfl ⟨rfl, ?_⟩
  exact (HB9.out.setCell (Nat.le_succ _) _).setCell (Nat.le_succ _) _
end Go.Proofs.Ytkhcjkmifddlbaa
