/- Joined: CrvR, CrvS, RefChkB. -/
import Derived.Test.YtkhcjkmifddlbaaPart1
import Derived.Test.YtkhcjkmifddlbaaPart2
import Derived.Test.YtkhcjkmifddlbaaPart3
/- CrvR -/
namespace Go.Proofs.Ytkhcjkmifddlbaa
open Go.RowKit

set_option maxHeartbeats 400000 in
theorem apart_any (n : Int) (w : World) (h1 : -1000000 ≤ n) (h2 : n ≤ 1000000) :
    Calls Try.prog 149 #[.int .i64 n] w fun e w' => e = .returned (.int .i64 (Num.sz n)) ∧ w' = w := by
  by_cases a : n < 0
  · go_enter Try.func149, Try.ntmps149
    go_wp2
    go_ret
    exact ⟨ret_int (by unfold Num.sz; rw [if_pos (by omega)]), rfl⟩
  · go_enter Try.func149, Try.ntmps149
    go_wp2
    go_ret
    exact ⟨ret_int (by unfold Num.sz; rw [if_neg (by omega)]), rfl⟩

set_option maxHeartbeats 400000 in
theorem most_any (a b : Int) (w : World) :
    Calls Try.prog 128 #[.int .i64 a, .int .i64 b] w fun e w' => e = .returned (.int .i64 (Num.gr a b)) ∧ w' = w := by
  by_cases h : b < a
  · go_enter Try.func128, Try.ntmps128
    go_wp2
    go_ret
    exact ⟨ret_int (by unfold Num.gr; rw [if_pos (by omega)]), rfl⟩
  · go_enter Try.func128, Try.ntmps128
    go_wp2
    go_ret
    exact ⟨ret_int (by unfold Num.gr; rw [if_neg (by omega)]), rfl⟩

set_option maxHeartbeats 400000 in
theorem second_any (ax ay bx b2 cx cy : Int) (w : World) (h1 : -16384 ≤ ax ∧ ax ≤ 16384) (h2 : -16384 ≤ ay ∧ ay ≤ 16384) (h3 : -16384 ≤ bx ∧ bx ≤ 16384) (h4 : -16384 ≤ b2 ∧ b2 ≤ 16384) (h5 : -16384 ≤ cx ∧ cx ≤ 16384) (h6 : -16384 ≤ cy ∧ cy ≤ 16384) :
    Calls Try.prog 126 #[.agg #[.int .i64 ax, .int .i64 ay], .agg #[.int .i64 bx, .int .i64 b2], .agg #[.int .i64 cx, .int .i64 cy]] w fun e w' => e = .returned (.int .i64 (Num.bendV ax ay bx b2 cx cy)) ∧ Below w.heap.size w w' := by
  have HE : Hid (Num.bendV ax ay bx b2 cx cy = Num.gr (Num.sz (ax + cx - 2 * bx)) (Num.sz (ay + cy - 2 * b2))) := by
    unfold Hid Num.bendV
    rw [show ax - 2 * bx + cx = ax + cx - 2 * bx by omega, show ay - 2 * b2 + cy = ay + cy - 2 * b2 by omega]
  go_enter Try.func126, Try.ntmps126
  go_wp2_with (first | (go_at_call 149; refine (apart_any _ _ (by omega) (by omega)).mono ?_; rintro e w' ⟨rfl, rfl⟩) | (go_at_call 128; refine (most_any _ _ _).mono ?_; rintro e w' ⟨rfl, rfl⟩))
  go_ret
  exact ⟨ret_int HE.out.symm, by (repeat (any_goals (first | exact Below.refl _ _ | assumption | refine Below.drew ?_ | refine below_drewN ?_ _ | refine Below.setCell ?_ ?_ _ | refine Below.alloc ?_ ?_ _ | omega | (simp; done) | (simp; omega))))⟩

set_option maxHeartbeats 400000 in
theorem steps_any (d : Int) (w : World) (h : d ≤ 196608) :
    Calls Try.prog 127 #[.int .i64 d] w fun e w' => e = .returned (.int .i64 (Num.stepsV d)) ∧ w' = w := by
  have hS := Num.stepsV_is h
  have hSle := Num.stepsV_le h
  obtain ⟨S, hSe⟩ : ∃ S, S = Num.stepsV d := ⟨_, rfl⟩
  rw [← hSe] at hS hSle ⊢
  have HS := hide hS
  clear hSe hS
  go_enter Try.func127, Try.ntmps127
  go_wp2_with fail
  go_loop [3] (fun t => ∃ q : Int, 1 ≤ q ∧ q ≤ S ∧ t = .int .i64 q) (fun t => (S - intOf t).toNat)
  case atStart => exact ⟨1, by omega, HS.out.1, rfl⟩
  case round =>
    obtain ⟨q, q1, q2, rfl⟩ := hrel
    obtain ⟨s1, s2⟩ := steps_round HS.out q1 q2
    have b1 := Num.sq_mono (a := q) (b := 111) (by omega) (by omega)
    have b0 := Num.sq_mono (a := 0) (b := q) (by omega) (by omega)
    by_cases hlt : 16 * q * q < d
    · have s3 := s1 hlt
      clear s1 s2
      go_wp2
      go_round
      case rel => exact ⟨q + 1, by omega, by omega, rfl⟩
      case measure => simp [intOf]; omega
    · have HE := hide (s2 hlt)
      clear s1 s2
      go_wp2
      go_ret
      exact ⟨ret_int HE.out, rfl⟩

set_option maxHeartbeats 1000000 in
theorem parts_any (k x0 y0 x1 y1 x2 y2 x3 y3 : Int) (w : World) (hr : Num.rangeB (⟨k, x0, y0, x1, y1, x2, y2, x3, y3⟩ : Num.Sg) = true) :
    Calls Try.prog 96 #[.agg #[.int .i64 k, .int .i64 x0, .int .i64 y0, .int .i64 x1, .int .i64 y1, .int .i64 x2, .int .i64 y2, .int .i64 x3, .int .i64 y3]] w fun e w' => e = .returned (.int .i64 (Num.stepsV (Num.needV (⟨k, x0, y0, x1, y1, x2, y2, x3, y3⟩ : Num.Sg)))) ∧ Below w.heap.size w w' := by
  obtain ⟨r0, r3, r1, r2⟩ := Num.range_yes hr
  have hneed := Num.needV_bd hr
  obtain ⟨D, hD⟩ : ∃ D, D = Num.needV (⟨k, x0, y0, x1, y1, x2, y2, x3, y3⟩ : Num.Sg) := ⟨_, rfl⟩
  rw [← hD] at hneed ⊢
  obtain ⟨a1, a2⟩ := Num.inB_yes r0
  obtain ⟨b1, b2⟩ := Num.inB_yes r3
  clear r0 r3 hr
  by_cases h1 : k = 1
  · subst h1
    obtain ⟨c1, c2⟩ := Num.inB_yes (r1 (.inl rfl))
    have HD : Hid (D = Num.bendV x0 y0 x1 y1 x3 y3) := by unfold Hid; rw [hD]; simp [Num.needV]
    clear r1 r2 hD
    go_enter Try.func96, Try.ntmps96
    go_wp2_with fail
    refine (second_any _ _ _ _ _ _ _ a1 a2 c1 c2 b1 b2).mono ?_
    rw [← HD.out]
    rintro e w1 ⟨rfl, hb⟩
    have hb0 : Below w.heap.size w w1 := Below.trans (by (repeat (any_goals (first | exact Below.refl _ _ | assumption | refine Below.drew ?_ | refine below_drewN ?_ _ | refine Below.setCell ?_ ?_ _ | refine Below.alloc ?_ ?_ _ | omega | (simp; done) | (simp; omega))))) (hb.mono (by simp))
    clear hb a1 a2 b1 b2 c1 c2
    go_wp2_with (go_at_call 127; refine (steps_any _ _ (by omega)).mono ?_; rintro e w' ⟨rfl, rfl⟩)
    go_ret
    exact ⟨rfl, hb0⟩
  · by_cases h2 : k = 2
    · subst h2
      obtain ⟨c1, c2⟩ := Num.inB_yes (r1 (.inr rfl))
      obtain ⟨d1, d2⟩ := Num.inB_yes (r2 rfl)
      have HD : Hid (D = 3 * Num.gr (Num.bendV x0 y0 x1 y1 x2 y2) (Num.bendV x1 y1 x2 y2 x3 y3)) := by unfold Hid; rw [hD]; simp [Num.needV]
      have p := Num.bendV_bd a1 a2 c1 c2 d1 d2
      have q := Num.bendV_bd c1 c2 d1 d2 b1 b2
      have gb := Num.gr_bd p.1 p.2 q.1 q.2
      clear r1 r2 hD p q
      rw [HD.out]
      go_enter Try.func96, Try.ntmps96
      go_wp2_with fail
      refine (second_any _ _ _ _ _ _ _ a1 a2 c1 c2 d1 d2).mono ?_
      rintro e w1 ⟨rfl, hb⟩
      obtain ⟨hc, hfz⟩ := bcell hb
      have hz : w.heap.size < w1.heap.size := by have := hb.size; simp at this; omega
      have hb0 : Below w.heap.size w w1 := Below.trans (by (repeat (any_goals (first | exact Below.refl _ _ | assumption | refine Below.drew ?_ | refine below_drewN ?_ _ | refine Below.setCell ?_ ?_ _ | refine Below.alloc ?_ ?_ _ | omega | (simp; done) | (simp; omega))))) (hb.mono (by simp))
      have e3 : w1.cell? ⟨w.heap.size, 3, none⟩ = some (.int .i64 x1) := by rw [hc _ _ (by simp)]; go_simp
      have e4 : w1.cell? ⟨w.heap.size, 4, none⟩ = some (.int .i64 y1) := by rw [hc _ _ (by simp)]; go_simp
      have e5 : w1.cell? ⟨w.heap.size, 5, none⟩ = some (.int .i64 x2) := by rw [hc _ _ (by simp)]; go_simp
      have e6 : w1.cell? ⟨w.heap.size, 6, none⟩ = some (.int .i64 y2) := by rw [hc _ _ (by simp)]; go_simp
      have e7 : w1.cell? ⟨w.heap.size, 7, none⟩ = some (.int .i64 x3) := by rw [hc _ _ (by simp)]; go_simp
      have e8 : w1.cell? ⟨w.heap.size, 8, none⟩ = some (.int .i64 y3) := by rw [hc _ _ (by simp)]; go_simp
      clear hb hc hfz
      go_wp2_with fail
      refine (second_any _ _ _ _ _ _ _ c1 c2 d1 d2 b1 b2).mono ?_
      rintro e w2 ⟨rfl, hb2⟩
      have hb3 : Below w.heap.size w w2 := hb0.trans (hb2.mono (by omega))
      clear hb2 hb0 a1 a2 b1 b2 c1 c2 d1 d2 e3 e4 e5 e6 e7 e8
      go_wp2_with (first | (go_at_call 128; refine (most_any _ _ _).mono ?_; rintro e w' ⟨rfl, rfl⟩) | (go_at_call 127; refine (steps_any _ _ (by omega)).mono ?_; rintro e w' ⟨rfl, rfl⟩))
      go_ret
      exact ⟨rfl, hb3⟩
    · have t1 : (k == 1) = false := by simpa using h1
      have t2 : (k == 2) = false := by simpa using h2
      have hD0 : D = 0 := by rw [hD]; simp [Num.needV, h1, h2]
      have HS := hide (Num.stepsV_zero (d := D) (by omega))
      clear r1 r2 hD a1 a2 b1 b2 h1 h2
      rw [HS.out]
      go_enter Try.func96, Try.ntmps96
      go_wp2
      go_ret
      exact ⟨rfl, by (repeat (any_goals (first | exact Below.refl _ _ | assumption | refine Below.drew ?_ | refine below_drewN ?_ _ | refine Below.setCell ?_ ?_ _ | refine Below.alloc ?_ ?_ _ | omega | (simp; done) | (simp; omega))))⟩

theorem mx_bd {u i a b B : Int} (hu : -111 ≤ u ∧ u ≤ 111) (hi : -111 ≤ i ∧ i ≤ 111) (ha : -B ≤ a ∧ a ≤ B) (hb : -B ≤ b ∧ b ≤ B) : -(222 * B) ≤ Num.mx u i a b ∧ Num.mx u i a b ≤ 222 * B := by
  have h1 := Num.mul_bd u a _ _ hu ha
  have h2 := Num.mul_bd i b _ _ hi hb
  unfold Num.mx
  omega

set_option maxHeartbeats 400000 in
theorem mix_any (ax ay bx b2 i n : Int) (w : World) (hi : 0 ≤ i) (hin : i ≤ n) (hn : n ≤ 111) (h1 : -1000000000000 ≤ ax ∧ ax ≤ 1000000000000) (h2 : -1000000000000 ≤ ay ∧ ay ≤ 1000000000000) (h3 : -1000000000000 ≤ bx ∧ bx ≤ 1000000000000) (h4 : -1000000000000 ≤ b2 ∧ b2 ≤ 1000000000000) :
    Calls Try.prog 97 #[.agg #[.int .i64 ax, .int .i64 ay], .agg #[.int .i64 bx, .int .i64 b2], .int .i64 i, .int .i64 n] w fun e w' => e = .returned (.agg #[.int .i64 (Num.mx (n - i) i ax bx), .int .i64 (Num.mx (n - i) i ay b2)]) ∧ Below w.heap.size w w' := by
  have u0 : -111 ≤ n - i ∧ n - i ≤ 111 := by omega
  have i0 : -111 ≤ i ∧ i ≤ 111 := by omega
  have m1 := Num.mul_bd (n - i) ax _ _ u0 h1
  have m2 := Num.mul_bd (n - i) ay _ _ u0 h2
  have m3 := Num.mul_bd i bx _ _ i0 h3
  have m4 := Num.mul_bd i b2 _ _ i0 h4
  clear u0 i0
  unfold Num.mx
  go_enter Try.func97, Try.ntmps97
  go_wp2
  refine bodyPost_ret (v := .agg #[.int .i64 ((n - i) * ax + i * bx), .int .i64 ((n - i) * ay + i * b2)]) (by simp [results, Try.results97, go_sem]) rfl ⟨rfl, ?_⟩
  clear h1 h2 h3 h4 m1 m2 m3 m4
  (repeat (any_goals (first | exact Below.refl _ _ | assumption | refine Below.drew ?_ | refine below_drewN ?_ _ | refine Below.setCell ?_ ?_ _ | refine Below.alloc ?_ ?_ _ | omega | (simp; done) | (simp; omega))))

set_option maxHeartbeats 400000 in
theorem rounded_any (x y d : Int) (w : World) (hd1 : 1 ≤ d) (hd2 : d ≤ 1000000000000) (h1 : -1000000000000000 ≤ x ∧ x ≤ 1000000000000000) (h2 : -1000000000000000 ≤ y ∧ y ≤ 1000000000000000) :
    Calls Try.prog 129 #[.agg #[.int .i64 x, .int .i64 y], .int .i64 d] w fun e w' => e = .returned (.agg #[.int .i64 (Num.hu x d), .int .i64 (Num.hu y d)]) ∧ Below w.heap.size w w' := by
  obtain ⟨x1, x2⟩ := h1
  obtain ⟨y1, y2⟩ := h2
  go_enter Try.func129, Try.ntmps129
  go_wp2_with (go_at_call 94; refine (half_any _ _ _ hd1 hd2 (by assumption) (by assumption)).mono ?_; rintro e w' ⟨rfl, rfl⟩)
  refine bodyPost_ret (v := .agg #[.int .i64 (Num.hu x d), .int .i64 (Num.hu y d)]) (by simp [results, Try.results129, go_sem]) rfl ⟨rfl, ?_⟩
  (repeat (any_goals (first | exact Below.refl _ _ | assumption | refine Below.drew ?_ | refine below_drewN ?_ _ | refine Below.setCell ?_ ?_ _ | refine Below.alloc ?_ ?_ _ | omega | (simp; done) | (simp; omega))))

set_option maxHeartbeats 2000000 in
theorem quads_any (k x0 y0 x1 y1 x2 y2 x3 y3 i n : Int) (w : World) (hi : 0 ≤ i) (hin : i ≤ n) (h1 : 1 ≤ n) (hn : n ≤ 111)
    (bx0 : -16384 ≤ x0 ∧ x0 ≤ 16384) (by0 : -16384 ≤ y0 ∧ y0 ≤ 16384) (bx1 : -16384 ≤ x1 ∧ x1 ≤ 16384) (by1 : -16384 ≤ y1 ∧ y1 ≤ 16384) (bx3 : -16384 ≤ x3 ∧ x3 ≤ 16384) (by3 : -16384 ≤ y3 ∧ y3 ≤ 16384) :
    Calls Try.prog 98 #[.agg #[.int .i64 k, .int .i64 x0, .int .i64 y0, .int .i64 x1, .int .i64 y1, .int .i64 x2, .int .i64 y2, .int .i64 x3, .int .i64 y3], .int .i64 i, .int .i64 n] w fun e w' => e = .returned (.agg #[.int .i64 (Num.hu (Num.qSum (n - i) i x0 x1 x3) (n * n)), .int .i64 (Num.hu (Num.qSum (n - i) i y0 y1 y3) (n * n))]) ∧ Below w.heap.size w w' := by
  have u0 : -111 ≤ n - i ∧ n - i ≤ 111 := by omega
  have i0 : -111 ≤ i ∧ i ≤ 111 := by omega
  have n0 : -111 ≤ n ∧ n ≤ 111 := by omega
  have p4 := Num.mul_bd n n _ _ n0 n0
  have p5 := Num.mul3_bd n0 n0 n0
  have p6 : 1 ≤ n * n := by have := Int.mul_le_mul h1 h1 (by omega) (by omega); omega
  have p7 : 1 ≤ n * n * n := by have := Int.mul_le_mul p6 h1 (by omega) (by omega); omega
  obtain ⟨Ax, hAx⟩ : ∃ z, z = Num.mx (n - i) i x0 x1 := ⟨_, rfl⟩
  have bAx : -(222 * 16384) ≤ Ax ∧ Ax ≤ (222 * 16384) := by rw [hAx]; exact mx_bd u0 i0 bx0 bx1
  obtain ⟨Ay, hAy⟩ : ∃ z, z = Num.mx (n - i) i y0 y1 := ⟨_, rfl⟩
  have bAy : -(222 * 16384) ≤ Ay ∧ Ay ≤ (222 * 16384) := by rw [hAy]; exact mx_bd u0 i0 by0 by1
  obtain ⟨Bx, hBx⟩ : ∃ z, z = Num.mx (n - i) i x1 x3 := ⟨_, rfl⟩
  have bBx : -(222 * 16384) ≤ Bx ∧ Bx ≤ (222 * 16384) := by rw [hBx]; exact mx_bd u0 i0 bx1 bx3
  obtain ⟨By, hBy⟩ : ∃ z, z = Num.mx (n - i) i y1 y3 := ⟨_, rfl⟩
  have bBy : -(222 * 16384) ≤ By ∧ By ≤ (222 * 16384) := by rw [hBy]; exact mx_bd u0 i0 by1 by3
  obtain ⟨Sx, hSx⟩ : ∃ z, z = Num.mx (n - i) i Ax Bx := ⟨_, rfl⟩
  have bSx : -(222 * (222 * 16384)) ≤ Sx ∧ Sx ≤ (222 * (222 * 16384)) := by rw [hSx]; exact mx_bd u0 i0 bAx bBx
  obtain ⟨Sy, hSy⟩ : ∃ z, z = Num.mx (n - i) i Ay By := ⟨_, rfl⟩
  have bSy : -(222 * (222 * 16384)) ≤ Sy ∧ Sy ≤ (222 * (222 * 16384)) := by rw [hSy]; exact mx_bd u0 i0 bAy bBy
  have QSx : Hid (Num.qSum (n - i) i x0 x1 x3 = Sx) := by unfold Hid; rw [hSx, hBx, hAx]; exact (Num.mx_quad _ _ _ _ _).symm
  have QSy : Hid (Num.qSum (n - i) i y0 y1 y3 = Sy) := by unfold Hid; rw [hSy, hBy, hAy]; exact (Num.mx_quad _ _ _ _ _).symm
  rw [QSx.out, QSy.out]
  have HAx := hide hAx
  have HAy := hide hAy
  have HBx := hide hBx
  have HBy := hide hBy
  have HSx := hide hSx
  have HSy := hide hSy
  clear hAx hAy hBx hBy hSx hSy u0 i0 n0
  go_enter Try.func98, Try.ntmps98
  go_wp2_with fail
  refine (mix_any _ _ _ _ _ _ _ hi hin hn (by omega) (by omega) (by omega) (by omega)).mono ?_
  rw [← HAx.out, ← HAy.out]
  rintro e w1 ⟨rfl, hb⟩
  obtain ⟨hc, hfz⟩ := bcell hb
  have hz1 : w.heap.size + 1 < w1.heap.size := by have := hb.size; simp at this; omega
  have B1 : Below w.heap.size w w1 := Below.trans (by (repeat (any_goals (first | exact Below.refl _ _ | assumption | refine Below.drew ?_ | refine below_drewN ?_ _ | refine Below.setCell ?_ ?_ _ | refine Below.alloc ?_ ?_ _ | omega | (simp; done) | (simp; omega))))) (hb.mono (by simp; omega))
  have HB1 := hide B1
  have zx1 : w.heap.size < w1.heap.size := by omega
  have f1_3 : w1.cell? ⟨w.heap.size, 3, none⟩ = some (.int .i64 x1) := by rw [hc _ _ (by first | (simp; done) | (simp; omega))]; go_simp
  have f1_4 : w1.cell? ⟨w.heap.size, 4, none⟩ = some (.int .i64 y1) := by rw [hc _ _ (by first | (simp; done) | (simp; omega))]; go_simp
  have f1_7 : w1.cell? ⟨w.heap.size, 7, none⟩ = some (.int .i64 x3) := by rw [hc _ _ (by first | (simp; done) | (simp; omega))]; go_simp
  have f1_8 : w1.cell? ⟨w.heap.size, 8, none⟩ = some (.int .i64 y3) := by rw [hc _ _ (by first | (simp; done) | (simp; omega))]; go_simp
  have r1_0 : w1.cell? ⟨w.heap.size + 1, 0, none⟩ = some (.int .i64 0) := by rw [hc _ _ (by first | (simp; done) | (simp; omega))]; go_simp
  have z1_0 : w1.frozen? ⟨w.heap.size + 1, 0, none⟩ = false := by rw [hfz _ _ (by first | (simp; done) | (simp; omega))]; go_simp
  have r1_1 : w1.cell? ⟨w.heap.size + 1, 1, none⟩ = some (.int .i64 0) := by rw [hc _ _ (by first | (simp; done) | (simp; omega))]; go_simp
  have z1_1 : w1.frozen? ⟨w.heap.size + 1, 1, none⟩ = false := by rw [hfz _ _ (by first | (simp; done) | (simp; omega))]; go_simp
  clear hb hc hfz B1 
  go_wp2_with fail
  refine (mix_any _ _ _ _ _ _ _ hi hin hn (by omega) (by omega) (by omega) (by omega)).mono ?_
  rw [← HBx.out, ← HBy.out]
  rintro e w2 ⟨rfl, hb⟩
  obtain ⟨hc, hfz⟩ := bcell hb
  have hz2 : w1.heap.size < w2.heap.size := by have := hb.size; simp at this; omega
  have B2 : Below w.heap.size w w2 := Below.trans HB1.out ((Below.alloc (Below.refl _ _) (Nat.le_refl _) _).trans (hb.mono (by simp)) |>.mono (by omega))
  have HB2 := hide B2
  have zx2 : w.heap.size < w2.heap.size := by omega
  have r2_0 : w2.cell? ⟨w.heap.size + 1, 0, none⟩ = some (.int .i64 0) := by rw [hc _ _ (by first | (simp; done) | (simp; omega))]; go_simp
  have z2_0 : w2.frozen? ⟨w.heap.size + 1, 0, none⟩ = false := by rw [hfz _ _ (by first | (simp; done) | (simp; omega))]; go_simp
  have r2_1 : w2.cell? ⟨w.heap.size + 1, 1, none⟩ = some (.int .i64 0) := by rw [hc _ _ (by first | (simp; done) | (simp; omega))]; go_simp
  have z2_1 : w2.frozen? ⟨w.heap.size + 1, 1, none⟩ = false := by rw [hfz _ _ (by first | (simp; done) | (simp; omega))]; go_simp
  have g2_Ax : w2.cell? ⟨w1.heap.size, 0, none⟩ = some (.int .i64 Ax) := by rw [hc _ _ (by first | (simp; done) | (simp; omega))]; go_simp
  have g2_Ay : w2.cell? ⟨w1.heap.size, 1, none⟩ = some (.int .i64 Ay) := by rw [hc _ _ (by first | (simp; done) | (simp; omega))]; go_simp
  have zy2 : w.heap.size + 1 < w2.heap.size := by omega
  clear hb hc hfz B2 r1_0 r1_1 z1_0 z1_1 f1_3 f1_4 f1_7 f1_8
  go_wp2_with fail
  refine (mix_any _ _ _ _ _ _ _ hi hin hn (by omega) (by omega) (by omega) (by omega)).mono ?_
  rw [← HSx.out, ← HSy.out]
  rintro e w3 ⟨rfl, hb⟩
  obtain ⟨hc, hfz⟩ := bcell hb
  have hz3 : w2.heap.size < w3.heap.size := by have := hb.size; simp at this; omega
  have B3 : Below w.heap.size w w3 := Below.trans HB2.out ((Below.alloc (Below.refl _ _) (Nat.le_refl _) _).trans (hb.mono (by simp)) |>.mono (by omega))
  have HB3 := hide B3
  have zx3 : w.heap.size < w3.heap.size := by omega
  have r3_0 : w3.cell? ⟨w.heap.size + 1, 0, none⟩ = some (.int .i64 0) := by rw [hc _ _ (by first | (simp; done) | (simp; omega))]; go_simp
  have z3_0 : w3.frozen? ⟨w.heap.size + 1, 0, none⟩ = false := by rw [hfz _ _ (by first | (simp; done) | (simp; omega))]; go_simp
  have r3_1 : w3.cell? ⟨w.heap.size + 1, 1, none⟩ = some (.int .i64 0) := by rw [hc _ _ (by first | (simp; done) | (simp; omega))]; go_simp
  have z3_1 : w3.frozen? ⟨w.heap.size + 1, 1, none⟩ = false := by rw [hfz _ _ (by first | (simp; done) | (simp; omega))]; go_simp
  have zy3 : w.heap.size + 1 < w3.heap.size := by omega
  clear hb hc hfz B3 r2_0 r2_1 z2_0 z2_1 g2_Ax g2_Ay
  have t3_1 : w1.heap.size < w3.heap.size := by omega
  go_wp2_with fail
  refine (rounded_any _ _ _ _ (by omega) (by omega) (by omega) (by omega)).mono ?_
  rintro e w9 ⟨rfl, hb⟩
  obtain ⟨hc, hfz⟩ := bcell hb
  have hz9 : w3.heap.size < w9.heap.size := by have := hb.size; simp at this; omega
  have zx9 : w.heap.size < w9.heap.size := by omega
  have zy9 : w.heap.size + 1 < w9.heap.size := by omega
  have B9 : Below w.heap.size w w9 := Below.trans HB3.out ((Below.alloc (Below.refl _ _) (Nat.le_refl _) _).trans (hb.mono (by simp)) |>.mono (by omega))
  have s0 : w9.cell? ⟨w.heap.size + 1, 0, none⟩ = some (.int .i64 0) := by rw [hc _ _ (by first | (simp; done) | (simp; omega))]; go_simp
  have q0 : w9.frozen? ⟨w.heap.size + 1, 0, none⟩ = false := by rw [hfz _ _ (by first | (simp; done) | (simp; omega))]; go_simp
  have s1 : w9.cell? ⟨w.heap.size + 1, 1, none⟩ = some (.int .i64 0) := by rw [hc _ _ (by first | (simp; done) | (simp; omega))]; go_simp
  have q1 : w9.frozen? ⟨w.heap.size + 1, 1, none⟩ = false := by rw [hfz _ _ (by first | (simp; done) | (simp; omega))]; go_simp
  clear hb hc hfz r3_0 r3_1 z3_0 z3_1
  have HB9 := hide B9
  clear B9
  go_wp2
  refine bodyPost_ret (v := .agg #[.int .i64 (Num.hu Sx (n * n)), .int .i64 (Num.hu Sy (n * n))]) (by simp [results, Try.results98, go_sem, s0, s1]) rfl ⟨rfl, ?_⟩
  exact (HB9.out.setCell (Nat.le_succ _) _).setCell (Nat.le_succ _) _

set_option maxHeartbeats 2000000 in
theorem cubics_any (k x0 y0 x1 y1 x2 y2 x3 y3 i n : Int) (w : World) (hi : 0 ≤ i) (hin : i ≤ n) (h1 : 1 ≤ n) (hn : n ≤ 111)
    (bx0 : -16384 ≤ x0 ∧ x0 ≤ 16384) (by0 : -16384 ≤ y0 ∧ y0 ≤ 16384) (bx1 : -16384 ≤ x1 ∧ x1 ≤ 16384) (by1 : -16384 ≤ y1 ∧ y1 ≤ 16384) (bx2 : -16384 ≤ x2 ∧ x2 ≤ 16384) (by2 : -16384 ≤ y2 ∧ y2 ≤ 16384) (bx3 : -16384 ≤ x3 ∧ x3 ≤ 16384) (by3 : -16384 ≤ y3 ∧ y3 ≤ 16384) :
    Calls Try.prog 99 #[.agg #[.int .i64 k, .int .i64 x0, .int .i64 y0, .int .i64 x1, .int .i64 y1, .int .i64 x2, .int .i64 y2, .int .i64 x3, .int .i64 y3], .int .i64 i, .int .i64 n] w fun e w' => e = .returned (.agg #[.int .i64 (Num.hu (Num.cSum (n - i) i x0 x1 x2 x3) (n * n * n)), .int .i64 (Num.hu (Num.cSum (n - i) i y0 y1 y2 y3) (n * n * n))]) ∧ Below w.heap.size w w' := by
  have u0 : -111 ≤ n - i ∧ n - i ≤ 111 := by omega
  have i0 : -111 ≤ i ∧ i ≤ 111 := by omega
  have n0 : -111 ≤ n ∧ n ≤ 111 := by omega
  have p4 := Num.mul_bd n n _ _ n0 n0
  have p5 := Num.mul3_bd n0 n0 n0
  have p6 : 1 ≤ n * n := by have := Int.mul_le_mul h1 h1 (by omega) (by omega); omega
  have p7 : 1 ≤ n * n * n := by have := Int.mul_le_mul p6 h1 (by omega) (by omega); omega
  obtain ⟨Ax, hAx⟩ : ∃ z, z = Num.mx (n - i) i x0 x1 := ⟨_, rfl⟩
  have bAx : -(222 * 16384) ≤ Ax ∧ Ax ≤ (222 * 16384) := by rw [hAx]; exact mx_bd u0 i0 bx0 bx1
  obtain ⟨Ay, hAy⟩ : ∃ z, z = Num.mx (n - i) i y0 y1 := ⟨_, rfl⟩
  have bAy : -(222 * 16384) ≤ Ay ∧ Ay ≤ (222 * 16384) := by rw [hAy]; exact mx_bd u0 i0 by0 by1
  obtain ⟨Bx, hBx⟩ : ∃ z, z = Num.mx (n - i) i x1 x2 := ⟨_, rfl⟩
  have bBx : -(222 * 16384) ≤ Bx ∧ Bx ≤ (222 * 16384) := by rw [hBx]; exact mx_bd u0 i0 bx1 bx2
  obtain ⟨By, hBy⟩ : ∃ z, z = Num.mx (n - i) i y1 y2 := ⟨_, rfl⟩
  have bBy : -(222 * 16384) ≤ By ∧ By ≤ (222 * 16384) := by rw [hBy]; exact mx_bd u0 i0 by1 by2
  obtain ⟨Cx, hCx⟩ : ∃ z, z = Num.mx (n - i) i x2 x3 := ⟨_, rfl⟩
  have bCx : -(222 * 16384) ≤ Cx ∧ Cx ≤ (222 * 16384) := by rw [hCx]; exact mx_bd u0 i0 bx2 bx3
  obtain ⟨Cy, hCy⟩ : ∃ z, z = Num.mx (n - i) i y2 y3 := ⟨_, rfl⟩
  have bCy : -(222 * 16384) ≤ Cy ∧ Cy ≤ (222 * 16384) := by rw [hCy]; exact mx_bd u0 i0 by2 by3
  obtain ⟨Ux, hUx⟩ : ∃ z, z = Num.mx (n - i) i Ax Bx := ⟨_, rfl⟩
  have bUx : -(222 * (222 * 16384)) ≤ Ux ∧ Ux ≤ (222 * (222 * 16384)) := by rw [hUx]; exact mx_bd u0 i0 bAx bBx
  obtain ⟨Uy, hUy⟩ : ∃ z, z = Num.mx (n - i) i Ay By := ⟨_, rfl⟩
  have bUy : -(222 * (222 * 16384)) ≤ Uy ∧ Uy ≤ (222 * (222 * 16384)) := by rw [hUy]; exact mx_bd u0 i0 bAy bBy
  obtain ⟨Vx, hVx⟩ : ∃ z, z = Num.mx (n - i) i Bx Cx := ⟨_, rfl⟩
  have bVx : -(222 * (222 * 16384)) ≤ Vx ∧ Vx ≤ (222 * (222 * 16384)) := by rw [hVx]; exact mx_bd u0 i0 bBx bCx
  obtain ⟨Vy, hVy⟩ : ∃ z, z = Num.mx (n - i) i By Cy := ⟨_, rfl⟩
  have bVy : -(222 * (222 * 16384)) ≤ Vy ∧ Vy ≤ (222 * (222 * 16384)) := by rw [hVy]; exact mx_bd u0 i0 bBy bCy
  obtain ⟨Sx, hSx⟩ : ∃ z, z = Num.mx (n - i) i Ux Vx := ⟨_, rfl⟩
  have bSx : -(222 * (222 * (222 * 16384))) ≤ Sx ∧ Sx ≤ (222 * (222 * (222 * 16384))) := by rw [hSx]; exact mx_bd u0 i0 bUx bVx
  obtain ⟨Sy, hSy⟩ : ∃ z, z = Num.mx (n - i) i Uy Vy := ⟨_, rfl⟩
  have bSy : -(222 * (222 * (222 * 16384))) ≤ Sy ∧ Sy ≤ (222 * (222 * (222 * 16384))) := by rw [hSy]; exact mx_bd u0 i0 bUy bVy
  have QSx : Hid (Num.cSum (n - i) i x0 x1 x2 x3 = Sx) := by unfold Hid; rw [hSx, hVx, hUx, hCx, hBx, hAx]; exact (Num.mx_cubic _ _ _ _ _ _).symm
  have QSy : Hid (Num.cSum (n - i) i y0 y1 y2 y3 = Sy) := by unfold Hid; rw [hSy, hVy, hUy, hCy, hBy, hAy]; exact (Num.mx_cubic _ _ _ _ _ _).symm
  rw [QSx.out, QSy.out]
  have HAx := hide hAx
  have HAy := hide hAy
  have HBx := hide hBx
  have HBy := hide hBy
  have HCx := hide hCx
  have HCy := hide hCy
  have HUx := hide hUx
  have HUy := hide hUy
  have HVx := hide hVx
  have HVy := hide hVy
  have HSx := hide hSx
  have HSy := hide hSy
  clear hAx hAy hBx hBy hCx hCy hUx hUy hVx hVy hSx hSy u0 i0 n0
  go_enter Try.func99, Try.ntmps99
  go_wp2_with fail
  refine (mix_any _ _ _ _ _ _ _ hi hin hn (by omega) (by omega) (by omega) (by omega)).mono ?_
  rw [← HAx.out, ← HAy.out]
  rintro e w1 ⟨rfl, hb⟩
  obtain ⟨hc, hfz⟩ := bcell hb
  have hz1 : w.heap.size + 1 < w1.heap.size := by have := hb.size; simp at this; omega
  have B1 : Below w.heap.size w w1 := Below.trans (by (repeat (any_goals (first | exact Below.refl _ _ | assumption | refine Below.drew ?_ | refine below_drewN ?_ _ | refine Below.setCell ?_ ?_ _ | refine Below.alloc ?_ ?_ _ | omega | (simp; done) | (simp; omega))))) (hb.mono (by simp; omega))
  have HB1 := hide B1
  have zx1 : w.heap.size < w1.heap.size := by omega
  have f1_3 : w1.cell? ⟨w.heap.size, 3, none⟩ = some (.int .i64 x1) := by rw [hc _ _ (by first | (simp; done) | (simp; omega))]; go_simp
  have f1_4 : w1.cell? ⟨w.heap.size, 4, none⟩ = some (.int .i64 y1) := by rw [hc _ _ (by first | (simp; done) | (simp; omega))]; go_simp
  have f1_5 : w1.cell? ⟨w.heap.size, 5, none⟩ = some (.int .i64 x2) := by rw [hc _ _ (by first | (simp; done) | (simp; omega))]; go_simp
  have f1_6 : w1.cell? ⟨w.heap.size, 6, none⟩ = some (.int .i64 y2) := by rw [hc _ _ (by first | (simp; done) | (simp; omega))]; go_simp
  have f1_7 : w1.cell? ⟨w.heap.size, 7, none⟩ = some (.int .i64 x3) := by rw [hc _ _ (by first | (simp; done) | (simp; omega))]; go_simp
  have f1_8 : w1.cell? ⟨w.heap.size, 8, none⟩ = some (.int .i64 y3) := by rw [hc _ _ (by first | (simp; done) | (simp; omega))]; go_simp
  have r1_0 : w1.cell? ⟨w.heap.size + 1, 0, none⟩ = some (.int .i64 0) := by rw [hc _ _ (by first | (simp; done) | (simp; omega))]; go_simp
  have z1_0 : w1.frozen? ⟨w.heap.size + 1, 0, none⟩ = false := by rw [hfz _ _ (by first | (simp; done) | (simp; omega))]; go_simp
  have r1_1 : w1.cell? ⟨w.heap.size + 1, 1, none⟩ = some (.int .i64 0) := by rw [hc _ _ (by first | (simp; done) | (simp; omega))]; go_simp
  have z1_1 : w1.frozen? ⟨w.heap.size + 1, 1, none⟩ = false := by rw [hfz _ _ (by first | (simp; done) | (simp; omega))]; go_simp
  clear hb hc hfz B1 
  go_wp2_with fail
  refine (mix_any _ _ _ _ _ _ _ hi hin hn (by omega) (by omega) (by omega) (by omega)).mono ?_
  rw [← HBx.out, ← HBy.out]
  rintro e w2 ⟨rfl, hb⟩
  obtain ⟨hc, hfz⟩ := bcell hb
  have hz2 : w1.heap.size < w2.heap.size := by have := hb.size; simp at this; omega
  have B2 : Below w.heap.size w w2 := Below.trans HB1.out ((Below.alloc (Below.refl _ _) (Nat.le_refl _) _).trans (hb.mono (by simp)) |>.mono (by omega))
  have HB2 := hide B2
  have zx2 : w.heap.size < w2.heap.size := by omega
  have f2_5 : w2.cell? ⟨w.heap.size, 5, none⟩ = some (.int .i64 x2) := by rw [hc _ _ (by first | (simp; done) | (simp; omega))]; go_simp
  have f2_6 : w2.cell? ⟨w.heap.size, 6, none⟩ = some (.int .i64 y2) := by rw [hc _ _ (by first | (simp; done) | (simp; omega))]; go_simp
  have f2_7 : w2.cell? ⟨w.heap.size, 7, none⟩ = some (.int .i64 x3) := by rw [hc _ _ (by first | (simp; done) | (simp; omega))]; go_simp
  have f2_8 : w2.cell? ⟨w.heap.size, 8, none⟩ = some (.int .i64 y3) := by rw [hc _ _ (by first | (simp; done) | (simp; omega))]; go_simp
  have r2_0 : w2.cell? ⟨w.heap.size + 1, 0, none⟩ = some (.int .i64 0) := by rw [hc _ _ (by first | (simp; done) | (simp; omega))]; go_simp
  have z2_0 : w2.frozen? ⟨w.heap.size + 1, 0, none⟩ = false := by rw [hfz _ _ (by first | (simp; done) | (simp; omega))]; go_simp
  have r2_1 : w2.cell? ⟨w.heap.size + 1, 1, none⟩ = some (.int .i64 0) := by rw [hc _ _ (by first | (simp; done) | (simp; omega))]; go_simp
  have z2_1 : w2.frozen? ⟨w.heap.size + 1, 1, none⟩ = false := by rw [hfz _ _ (by first | (simp; done) | (simp; omega))]; go_simp
  have g2_Ax : w2.cell? ⟨w1.heap.size, 0, none⟩ = some (.int .i64 Ax) := by rw [hc _ _ (by first | (simp; done) | (simp; omega))]; go_simp
  have g2_Ay : w2.cell? ⟨w1.heap.size, 1, none⟩ = some (.int .i64 Ay) := by rw [hc _ _ (by first | (simp; done) | (simp; omega))]; go_simp
  have zy2 : w.heap.size + 1 < w2.heap.size := by omega
  clear hb hc hfz B2 r1_0 r1_1 z1_0 z1_1 f1_3 f1_4 f1_5 f1_6 f1_7 f1_8
  go_wp2_with fail
  refine (mix_any _ _ _ _ _ _ _ hi hin hn (by omega) (by omega) (by omega) (by omega)).mono ?_
  rw [← HCx.out, ← HCy.out]
  rintro e w3 ⟨rfl, hb⟩
  obtain ⟨hc, hfz⟩ := bcell hb
  have hz3 : w2.heap.size < w3.heap.size := by have := hb.size; simp at this; omega
  have B3 : Below w.heap.size w w3 := Below.trans HB2.out ((Below.alloc (Below.refl _ _) (Nat.le_refl _) _).trans (hb.mono (by simp)) |>.mono (by omega))
  have HB3 := hide B3
  have zx3 : w.heap.size < w3.heap.size := by omega
  have r3_0 : w3.cell? ⟨w.heap.size + 1, 0, none⟩ = some (.int .i64 0) := by rw [hc _ _ (by first | (simp; done) | (simp; omega))]; go_simp
  have z3_0 : w3.frozen? ⟨w.heap.size + 1, 0, none⟩ = false := by rw [hfz _ _ (by first | (simp; done) | (simp; omega))]; go_simp
  have r3_1 : w3.cell? ⟨w.heap.size + 1, 1, none⟩ = some (.int .i64 0) := by rw [hc _ _ (by first | (simp; done) | (simp; omega))]; go_simp
  have z3_1 : w3.frozen? ⟨w.heap.size + 1, 1, none⟩ = false := by rw [hfz _ _ (by first | (simp; done) | (simp; omega))]; go_simp
  have g3_Ax : w3.cell? ⟨w1.heap.size, 0, none⟩ = some (.int .i64 Ax) := by rw [hc _ _ (by first | (simp; done) | (simp; omega))]; go_simp
  have g3_Ay : w3.cell? ⟨w1.heap.size, 1, none⟩ = some (.int .i64 Ay) := by rw [hc _ _ (by first | (simp; done) | (simp; omega))]; go_simp
  have g3_Bx : w3.cell? ⟨w2.heap.size, 0, none⟩ = some (.int .i64 Bx) := by rw [hc _ _ (by first | (simp; done) | (simp; omega))]; go_simp
  have g3_By : w3.cell? ⟨w2.heap.size, 1, none⟩ = some (.int .i64 By) := by rw [hc _ _ (by first | (simp; done) | (simp; omega))]; go_simp
  have zy3 : w.heap.size + 1 < w3.heap.size := by omega
  clear hb hc hfz B3 r2_0 r2_1 z2_0 z2_1 f2_5 f2_6 f2_7 f2_8 g2_Ax g2_Ay
  have t3_1 : w1.heap.size < w3.heap.size := by omega
  go_wp2_with fail
  refine (mix_any _ _ _ _ _ _ _ hi hin hn (by omega) (by omega) (by omega) (by omega)).mono ?_
  rw [← HUx.out, ← HUy.out]
  rintro e w4 ⟨rfl, hb⟩
  obtain ⟨hc, hfz⟩ := bcell hb
  have hz4 : w3.heap.size < w4.heap.size := by have := hb.size; simp at this; omega
  have B4 : Below w.heap.size w w4 := Below.trans HB3.out ((Below.alloc (Below.refl _ _) (Nat.le_refl _) _).trans (hb.mono (by simp)) |>.mono (by omega))
  have HB4 := hide B4
  have zx4 : w.heap.size < w4.heap.size := by omega
  have r4_0 : w4.cell? ⟨w.heap.size + 1, 0, none⟩ = some (.int .i64 0) := by rw [hc _ _ (by first | (simp; done) | (simp; omega))]; go_simp
  have z4_0 : w4.frozen? ⟨w.heap.size + 1, 0, none⟩ = false := by rw [hfz _ _ (by first | (simp; done) | (simp; omega))]; go_simp
  have r4_1 : w4.cell? ⟨w.heap.size + 1, 1, none⟩ = some (.int .i64 0) := by rw [hc _ _ (by first | (simp; done) | (simp; omega))]; go_simp
  have z4_1 : w4.frozen? ⟨w.heap.size + 1, 1, none⟩ = false := by rw [hfz _ _ (by first | (simp; done) | (simp; omega))]; go_simp
  have g4_Bx : w4.cell? ⟨w2.heap.size, 0, none⟩ = some (.int .i64 Bx) := by rw [hc _ _ (by first | (simp; done) | (simp; omega))]; go_simp
  have g4_By : w4.cell? ⟨w2.heap.size, 1, none⟩ = some (.int .i64 By) := by rw [hc _ _ (by first | (simp; done) | (simp; omega))]; go_simp
  have g4_Cx : w4.cell? ⟨w3.heap.size, 0, none⟩ = some (.int .i64 Cx) := by rw [hc _ _ (by first | (simp; done) | (simp; omega))]; go_simp
  have g4_Cy : w4.cell? ⟨w3.heap.size, 1, none⟩ = some (.int .i64 Cy) := by rw [hc _ _ (by first | (simp; done) | (simp; omega))]; go_simp
  have zy4 : w.heap.size + 1 < w4.heap.size := by omega
  clear hb hc hfz B4 r3_0 r3_1 z3_0 z3_1 g3_Ax g3_Ay g3_Bx g3_By
  have t4_1 : w1.heap.size < w4.heap.size := by omega
  have t4_2 : w2.heap.size < w4.heap.size := by omega
  go_wp2_with fail
  refine (mix_any _ _ _ _ _ _ _ hi hin hn (by omega) (by omega) (by omega) (by omega)).mono ?_
  rw [← HVx.out, ← HVy.out]
  rintro e w5 ⟨rfl, hb⟩
  obtain ⟨hc, hfz⟩ := bcell hb
  have hz5 : w4.heap.size < w5.heap.size := by have := hb.size; simp at this; omega
  have B5 : Below w.heap.size w w5 := Below.trans HB4.out ((Below.alloc (Below.refl _ _) (Nat.le_refl _) _).trans (hb.mono (by simp)) |>.mono (by omega))
  have HB5 := hide B5
  have zx5 : w.heap.size < w5.heap.size := by omega
  have r5_0 : w5.cell? ⟨w.heap.size + 1, 0, none⟩ = some (.int .i64 0) := by rw [hc _ _ (by first | (simp; done) | (simp; omega))]; go_simp
  have z5_0 : w5.frozen? ⟨w.heap.size + 1, 0, none⟩ = false := by rw [hfz _ _ (by first | (simp; done) | (simp; omega))]; go_simp
  have r5_1 : w5.cell? ⟨w.heap.size + 1, 1, none⟩ = some (.int .i64 0) := by rw [hc _ _ (by first | (simp; done) | (simp; omega))]; go_simp
  have z5_1 : w5.frozen? ⟨w.heap.size + 1, 1, none⟩ = false := by rw [hfz _ _ (by first | (simp; done) | (simp; omega))]; go_simp
  have g5_Ux : w5.cell? ⟨w4.heap.size, 0, none⟩ = some (.int .i64 Ux) := by rw [hc _ _ (by first | (simp; done) | (simp; omega))]; go_simp
  have g5_Uy : w5.cell? ⟨w4.heap.size, 1, none⟩ = some (.int .i64 Uy) := by rw [hc _ _ (by first | (simp; done) | (simp; omega))]; go_simp
  have zy5 : w.heap.size + 1 < w5.heap.size := by omega
  clear hb hc hfz B5 r4_0 r4_1 z4_0 z4_1 g4_Bx g4_By g4_Cx g4_Cy
  have t5_1 : w1.heap.size < w5.heap.size := by omega
  have t5_2 : w2.heap.size < w5.heap.size := by omega
  have t5_3 : w3.heap.size < w5.heap.size := by omega
  go_wp2_with fail
  refine (mix_any _ _ _ _ _ _ _ hi hin hn (by omega) (by omega) (by omega) (by omega)).mono ?_
  rw [← HSx.out, ← HSy.out]
  rintro e w6 ⟨rfl, hb⟩
  obtain ⟨hc, hfz⟩ := bcell hb
  have hz6 : w5.heap.size < w6.heap.size := by have := hb.size; simp at this; omega
  have B6 : Below w.heap.size w w6 := Below.trans HB5.out ((Below.alloc (Below.refl _ _) (Nat.le_refl _) _).trans (hb.mono (by simp)) |>.mono (by omega))
  have HB6 := hide B6
  have zx6 : w.heap.size < w6.heap.size := by omega
  have r6_0 : w6.cell? ⟨w.heap.size + 1, 0, none⟩ = some (.int .i64 0) := by rw [hc _ _ (by first | (simp; done) | (simp; omega))]; go_simp
  have z6_0 : w6.frozen? ⟨w.heap.size + 1, 0, none⟩ = false := by rw [hfz _ _ (by first | (simp; done) | (simp; omega))]; go_simp
  have r6_1 : w6.cell? ⟨w.heap.size + 1, 1, none⟩ = some (.int .i64 0) := by rw [hc _ _ (by first | (simp; done) | (simp; omega))]; go_simp
  have z6_1 : w6.frozen? ⟨w.heap.size + 1, 1, none⟩ = false := by rw [hfz _ _ (by first | (simp; done) | (simp; omega))]; go_simp
  have zy6 : w.heap.size + 1 < w6.heap.size := by omega
  clear hb hc hfz B6 r5_0 r5_1 z5_0 z5_1 g5_Ux g5_Uy
  have t6_1 : w1.heap.size < w6.heap.size := by omega
  have t6_2 : w2.heap.size < w6.heap.size := by omega
  have t6_3 : w3.heap.size < w6.heap.size := by omega
  have t6_4 : w4.heap.size < w6.heap.size := by omega
  go_wp2_with fail
  refine (rounded_any _ _ _ _ (by omega) (by omega) (by omega) (by omega)).mono ?_
  rintro e w9 ⟨rfl, hb⟩
  obtain ⟨hc, hfz⟩ := bcell hb
  have hz9 : w6.heap.size < w9.heap.size := by have := hb.size; simp at this; omega
  have zx9 : w.heap.size < w9.heap.size := by omega
  have zy9 : w.heap.size + 1 < w9.heap.size := by omega
  have B9 : Below w.heap.size w w9 := Below.trans HB6.out ((Below.alloc (Below.refl _ _) (Nat.le_refl _) _).trans (hb.mono (by simp)) |>.mono (by omega))
  have s0 : w9.cell? ⟨w.heap.size + 1, 0, none⟩ = some (.int .i64 0) := by rw [hc _ _ (by first | (simp; done) | (simp; omega))]; go_simp
  have q0 : w9.frozen? ⟨w.heap.size + 1, 0, none⟩ = false := by rw [hfz _ _ (by first | (simp; done) | (simp; omega))]; go_simp
  have s1 : w9.cell? ⟨w.heap.size + 1, 1, none⟩ = some (.int .i64 0) := by rw [hc _ _ (by first | (simp; done) | (simp; omega))]; go_simp
  have q1 : w9.frozen? ⟨w.heap.size + 1, 1, none⟩ = false := by rw [hfz _ _ (by first | (simp; done) | (simp; omega))]; go_simp
  clear hb hc hfz r6_0 r6_1 z6_0 z6_1
  have HB9 := hide B9
  clear B9
  go_wp2
  refine bodyPost_ret (v := .agg #[.int .i64 (Num.hu Sx (n * n * n)), .int .i64 (Num.hu Sy (n * n * n))]) (by simp [results, Try.results99, go_sem, s0, s1]) rfl ⟨rfl, ?_⟩
  exact (HB9.out.setCell (Nat.le_succ _) _).setCell (Nat.le_succ _) _
end Go.Proofs.Ytkhcjkmifddlbaa

/- CrvS -/
namespace Go.Proofs.Ytkhcjkmifddlbaa
open Go.RowKit Go.Deep

set_option maxHeartbeats 400000 in
theorem refInRange_exact (x y : Int) (w : World) :
    Calls Try.prog 95 #[.agg #[.int .i64 x, .int .i64 y]] w fun e w' => e = .returned (.bool (Num.inB x y)) ∧ w' = w.alloc (.cells #[.int .i64 x, .int .i64 y] 41) := by
  go_enter Try.func95, Try.ntmps95
  go_wp2
  all_goals
    go_ret
    refine ⟨ret_bool ?_, rfl⟩
    simp only [Num.inB, Num.wi]
    simp [*]
    try omega

theorem owns_set {w : World} {base : Nat} {t : TypeId} {sz : Nat} {v : Value} {n : Nat} {xs : List Value} (h : w.ownsRow base t sz v n xs) {p : Addr} {u : Value} (hp : v.ownBlock ≠ some p.block) : (w.setCell p u).ownsRow base t sz v n xs :=
  owns_of_block h fun b hb => blk_setCell_other _ _ _ _ (fun e => hp (by rw [hb, e]))

set_option maxRecDepth 100000 in
set_option maxHeartbeats 4000000 in
theorem refCurve0 (x0 y0 x1 y1 x2 y2 x3 y3 : Int) (w : World) :
    Calls Try.prog 60 #[.agg #[.int .i64 0, .int .i64 x0, .int .i64 y0, .int .i64 x1, .int .i64 y1, .int .i64 x2, .int .i64 y2, .int .i64 x3, .int .i64 y3]] w fun e w' => ∃ v, e = .returned (.tuple #[v, .int .i64 (Num.curveE (⟨0, x0, y0, x1, y1, x2, y2, x3, y3⟩ : Num.Sg))]) ∧ Below w.heap.size w w' ∧ w'.ownsRow w.heap.size 41 2 v (Num.curveL (⟨0, x0, y0, x1, y1, x2, y2, x3, y3⟩ : Num.Sg)).length ((Num.curveL (⟨0, x0, y0, x1, y1, x2, y2, x3, y3⟩ : Num.Sg)).flatMap spC) := by
  obtain ⟨E, hE⟩ : ∃ E, E = Num.curveE (⟨0, x0, y0, x1, y1, x2, y2, x3, y3⟩ : Num.Sg) := ⟨_, rfl⟩
  obtain ⟨L, hL⟩ : ∃ L, L = Num.curveL (⟨0, x0, y0, x1, y1, x2, y2, x3, y3⟩ : Num.Sg) := ⟨_, rfl⟩
  rw [← hE, ← hL]
  have HNo : Hid (Num.rangeB (⟨0, x0, y0, x1, y1, x2, y2, x3, y3⟩ : Num.Sg) = false → E = 6 ∧ L = []) := fun hr => by
    have hE2 : Num.curveE (⟨0, x0, y0, x1, y1, x2, y2, x3, y3⟩ : Num.Sg) = 6 := by unfold Num.curveE; rw [hr]; rfl
    exact ⟨by rw [hE, hE2], by rw [hL]; exact curve_no hE2 (by decide)⟩
  have HYes : Hid (Num.rangeB (⟨0, x0, y0, x1, y1, x2, y2, x3, y3⟩ : Num.Sg) = true → (E = 0 ∧ L = spotsU (⟨0, x0, y0, x1, y1, x2, y2, x3, y3⟩ : Num.Sg) (Num.curveN (⟨0, x0, y0, x1, y1, x2, y2, x3, y3⟩ : Num.Sg)) (Num.curveN (⟨0, x0, y0, x1, y1, x2, y2, x3, y3⟩ : Num.Sg) + 1)) ∧ ((Num.curveN (⟨0, x0, y0, x1, y1, x2, y2, x3, y3⟩ : Num.Sg) : Int) = Num.stepsV (Num.needV (⟨0, x0, y0, x1, y1, x2, y2, x3, y3⟩ : Num.Sg)) ∧ 1 ≤ Num.curveN (⟨0, x0, y0, x1, y1, x2, y2, x3, y3⟩ : Num.Sg) ∧ Num.curveN (⟨0, x0, y0, x1, y1, x2, y2, x3, y3⟩ : Num.Sg) ≤ 111)) := fun hr => by
    rw [hE, hL]; exact ⟨curve_yes rfl hr, curveN_eq hr⟩
  clear hE hL
  have HRg : Hid (Num.rangeB (⟨0, x0, y0, x1, y1, x2, y2, x3, y3⟩ : Num.Sg) = (Num.inB x0 y0 && Num.inB x3 y3)) := by unfold Hid; simp [Num.rangeB]
  have HRow := hide (sg9_row 0 x0 y0 x1 y1 x2 y2 x3 y3 w 44)
  obtain ⟨F9, hF9⟩ : ∃ F9, F9 = sg9 0 x0 y0 x1 y1 x2 y2 x3 y3 := ⟨_, rfl⟩
  have HCe := hide (fun (w : World) (b : Nat) (h : w.rowIs b 44 9 (sg9 0 x0 y0 x1 y1 x2 y2 x3 y3)) => sg9_cells h)
  rw [← hF9] at HRow HCe
  clear hF9
  obtain ⟨i0, hi0, hz0, hz1, hz2⟩ := info_parts info_spot
  go_enter Try.func60, Try.ntmps60
  go_wp2_with fail
  go_loopw [6] (fun t wr => ∃ j : Nat, j ≤ 4 ∧ t = .int .i64 j ∧ Below (w.heap.size + 3) (((w.alloc (.cells #[.int .i64 0, .int .i64 x0, .int .i64 y0, .int .i64 x1, .int .i64 y1, .int .i64 x2, .int .i64 y2, .int .i64 x3, .int .i64 y3] 44)).alloc (.cells #[.bool true, .bool true, .bool false, .bool false] 169)).alloc (.cells #[.int .i64 x0, .int .i64 y0, .int .i64 x3, .int .i64 y3, .int .i64 x1, .int .i64 y1, .int .i64 x2, .int .i64 y2] 49)) wr ∧ (1 ≤ j → Num.inB x0 y0 = true) ∧ (2 ≤ j → Num.inB x3 y3 = true)) (fun t _ => 4 - (intOf t).toNat)
  case atStart => exact ⟨0, by omega, rfl, Below.refl _ _, by omega, by omega⟩
  case round =>
    obtain ⟨j, hj, rfl, hb, r0, r1⟩ := hrel
    have hs := hb.size
    simp at hs
    have y0s : w.heap.size < wr.heap.size := by omega
    have y1s : w.heap.size + 1 < wr.heap.size := by omega
    have y2s : w.heap.size + 1 + 1 < wr.heap.size := by omega
    have HR := hide (And.intro r0 r1)
    clear r0 r1
    have hbw : Below w.heap.size w wr := Below.trans (by (repeat (any_goals (first | exact Below.refl _ _ | assumption | refine Below.drew ?_ | refine below_drewN ?_ _ | refine Below.setCell ?_ ?_ _ | refine Below.alloc ?_ ?_ _ | omega | (simp; done) | (simp; omega))))) (hb.mono (by omega))
    have HB := hide hb
    have HBW := hide hbw
    rcases (show j = 0 ∨ j = 1 ∨ j = 2 ∨ j = 3 ∨ j = 4 by omega) with rfl | rfl | rfl | rfl | rfl
    · have l0 : wr.cell? ⟨w.heap.size + 1 + 1, 0, none⟩ = some (.int .i64 x0) := (hb.cell (p := ⟨w.heap.size + 1 + 1, 0, none⟩) (by first | (simp; done) | (simp; omega))).trans (by go_simp)
      have l1 : wr.cell? ⟨w.heap.size + 1 + 1, 1, none⟩ = some (.int .i64 y0) := (hb.cell (p := ⟨w.heap.size + 1 + 1, 1, none⟩) (by first | (simp; done) | (simp; omega))).trans (by go_simp)
      have l2 : wr.cell? ⟨w.heap.size + 1, 0, none⟩ = some (.bool true) := (hb.cell (p := ⟨w.heap.size + 1, 0, none⟩) (by first | (simp; done) | (simp; omega))).trans (by go_simp)
      clear hb hbw
      cases hin : Num.inB x0 y0
      · have HE := hide (HNo.out (by rw [HRg.out]; simp [hin]))
        go_wp2_with (go_at_call 95; refine (refInRange_exact _ _ _).mono ?_; rintro e w' ⟨rfl, rfl⟩)
        go_ret2
        obtain ⟨rfl, rfl⟩ := HE.out
        exact ⟨_, rfl, HBW.out.alloc (by omega) _, World.ownsRow_nil _ _ _ _⟩
      · go_wp2_with (go_at_call 95; refine (refInRange_exact _ _ _).mono ?_; rintro e w' ⟨rfl, rfl⟩)
        go_roundw
        case rel => exact ⟨1, by omega, rfl, HB.out.alloc (by omega) _, fun _ => by first | exact hin | trivial, by omega⟩
        case measure => simp [intOf]
    · have l0 : wr.cell? ⟨w.heap.size + 1 + 1, 2, none⟩ = some (.int .i64 x3) := (hb.cell (p := ⟨w.heap.size + 1 + 1, 2, none⟩) (by first | (simp; done) | (simp; omega))).trans (by go_simp)
      have l1 : wr.cell? ⟨w.heap.size + 1 + 1, 3, none⟩ = some (.int .i64 y3) := (hb.cell (p := ⟨w.heap.size + 1 + 1, 3, none⟩) (by first | (simp; done) | (simp; omega))).trans (by go_simp)
      have l2 : wr.cell? ⟨w.heap.size + 1, 1, none⟩ = some (.bool true) := (hb.cell (p := ⟨w.heap.size + 1, 1, none⟩) (by first | (simp; done) | (simp; omega))).trans (by go_simp)
      clear hb hbw
      cases hin : Num.inB x3 y3
      · have HE := hide (HNo.out (by rw [HRg.out]; simp [hin]))
        go_wp2_with (go_at_call 95; refine (refInRange_exact _ _ _).mono ?_; rintro e w' ⟨rfl, rfl⟩)
        go_ret2
        obtain ⟨rfl, rfl⟩ := HE.out
        exact ⟨_, rfl, HBW.out.alloc (by omega) _, World.ownsRow_nil _ _ _ _⟩
      · go_wp2_with (go_at_call 95; refine (refInRange_exact _ _ _).mono ?_; rintro e w' ⟨rfl, rfl⟩)
        go_roundw
        case rel => exact ⟨2, by omega, rfl, HB.out.alloc (by omega) _, fun _ => HR.out.1 (by omega), fun _ => by first | exact hin | trivial⟩
        case measure => simp [intOf]
    · have l0 : wr.cell? ⟨w.heap.size + 1 + 1, 4, none⟩ = some (.int .i64 x1) := (hb.cell (p := ⟨w.heap.size + 1 + 1, 4, none⟩) (by first | (simp; done) | (simp; omega))).trans (by go_simp)
      have l1 : wr.cell? ⟨w.heap.size + 1 + 1, 5, none⟩ = some (.int .i64 y1) := (hb.cell (p := ⟨w.heap.size + 1 + 1, 5, none⟩) (by first | (simp; done) | (simp; omega))).trans (by go_simp)
      have l2 : wr.cell? ⟨w.heap.size + 1, 2, none⟩ = some (.bool false) := (hb.cell (p := ⟨w.heap.size + 1, 2, none⟩) (by first | (simp; done) | (simp; omega))).trans (by go_simp)
      clear hb hbw
      go_wp2_with (go_at_call 95; refine (refInRange_exact _ _ _).mono ?_; rintro e w' ⟨rfl, rfl⟩)
      go_roundw
      case rel => exact ⟨3, by omega, rfl, HB.out.alloc (by omega) _, fun _ => HR.out.1 (by omega), fun _ => HR.out.2 (by omega)⟩
      case measure => simp [intOf]
    · have l0 : wr.cell? ⟨w.heap.size + 1 + 1, 6, none⟩ = some (.int .i64 x2) := (hb.cell (p := ⟨w.heap.size + 1 + 1, 6, none⟩) (by first | (simp; done) | (simp; omega))).trans (by go_simp)
      have l1 : wr.cell? ⟨w.heap.size + 1 + 1, 7, none⟩ = some (.int .i64 y2) := (hb.cell (p := ⟨w.heap.size + 1 + 1, 7, none⟩) (by first | (simp; done) | (simp; omega))).trans (by go_simp)
      have l2 : wr.cell? ⟨w.heap.size + 1, 3, none⟩ = some (.bool false) := (hb.cell (p := ⟨w.heap.size + 1, 3, none⟩) (by first | (simp; done) | (simp; omega))).trans (by go_simp)
      clear hb hbw
      go_wp2_with (go_at_call 95; refine (refInRange_exact _ _ _).mono ?_; rintro e w' ⟨rfl, rfl⟩)
      go_roundw
      case rel => exact ⟨4, by omega, rfl, HB.out.alloc (by omega) _, fun _ => HR.out.1 (by omega), fun _ => HR.out.2 (by omega)⟩
      case measure => simp [intOf]
    · have hr : Num.rangeB (⟨0, x0, y0, x1, y1, x2, y2, x3, y3⟩ : Num.Sg) = true := by
        rw [HRg.out, HR.out.1 (by omega), HR.out.2 (by omega)]; rfl
      have q0 := Num.inB_yes (HR.out.1 (by omega))
      have q1 := Num.inB_yes (HR.out.2 (by omega))
      obtain ⟨⟨eE, eL⟩, eN, n1, n2⟩ := HYes.out hr
      have HP := hide (fun w => parts_any 0 x0 y0 x1 y1 x2 y2 x3 y3 w hr)
      obtain ⟨N, hN⟩ : ∃ N, N = Num.curveN (⟨0, x0, y0, x1, y1, x2, y2, x3, y3⟩ : Num.Sg) := ⟨_, rfl⟩
      rw [← hN] at eN n1 n2 eL
      rw [← eN] at HP
      have hN1 : N = 1 := by have e := Num.stepsV_zero (d := Num.needV (⟨0, x0, y0, x1, y1, x2, y2, x3, y3⟩ : Num.Sg)) (by simp [Num.needV]); omega
      have HSp : Hid (∀ j : Nat, j ≤ N → Num.mx ((N : Int) - j) j x0 x3 = Num.spotX (⟨0, x0, y0, x1, y1, x2, y2, x3, y3⟩ : Num.Sg) N j ∧ Num.mx ((N : Int) - j) j y0 y3 = Num.spotY (⟨0, x0, y0, x1, y1, x2, y2, x3, y3⟩ : Num.Sg) N j) := fun j hj => by
        subst hN1
        unfold Num.spotX Num.spotY Num.mx
        rcases (show j = 0 ∨ j = 1 by omega) with rfl | rfl <;> simp
      clear hN1
      have hrow0 : wr.rowIs w.heap.size 44 9 F9 := row_below ((HRow.out.alloc _).alloc _) hb (by omega)
      obtain ⟨c0, c1, c2, c3, c4, c5, c6, c7, c8⟩ := HCe.out _ _ hrow0
      have HR0 := hide hrow0
      have HSX : Hid (∀ j : Nat, Num.spotX (⟨0, x0, y0, x1, y1, x2, y2, x3, y3⟩ : Num.Sg) N j = Num.spotX (⟨0, x0, y0, x1, y1, x2, y2, x3, y3⟩ : Num.Sg) N j) := fun j => by rfl
      have HSY : Hid (∀ j : Nat, Num.spotY (⟨0, x0, y0, x1, y1, x2, y2, x3, y3⟩ : Num.Sg) N j = Num.spotY (⟨0, x0, y0, x1, y1, x2, y2, x3, y3⟩ : Num.Sg) N j) := fun j => by rfl
      obtain ⟨GG, hGG⟩ : ∃ GG : Num.Sg, GG = (⟨0, x0, y0, x1, y1, x2, y2, x3, y3⟩ : Num.Sg) := ⟨_, rfl⟩
      rw [← hGG] at HSX HSY eL
      rw [← hGG] at HSp
      clear HNo HYes
      subst eE eL
      clear hb hbw hrow0 hr eN hN hGG
      go_wp2_with fail
      refine (HP.out _).mono ?_
      rintro e w2 ⟨rfl, hb2⟩
      have hs2 := hb2.size
      have hbW : Below w.heap.size w w2 := HBW.out.trans (hb2.mono (by omega))
      have HR2 := hide (row_below HR0.out hb2 HR0.out.lt)
      clear hb2 c0 c1 c2 c3 c4 c5 c6 c7 c8
      go_wp2_with fail
      go_loopw [9, 10] (fun v t wr => ∃ j : Nat, j ≤ N + 1 ∧ t = .int .i64 j ∧ Below w.heap.size w wr ∧ wr.rowIs w.heap.size 44 9 F9 ∧ wr.ownsRow (w.heap.size + 1) 41 2 v j ((spotsU GG N j).flatMap spC)) (fun _ t _ => N + 1 - (intOf t).toNat)
      case atStart => exact ⟨0, by omega, rfl, hbW, HR2.out, World.ownsRow_nil _ _ _ _⟩
      case round =>
        obtain ⟨v, rfl⟩ : ∃ v, v = u9 := ⟨_, rfl⟩
        obtain ⟨j, hj, rfl, hb, hrow, hown⟩ := hrel
        have hsz := hrow.lt
        by_cases hlt : j < N + 1
        · have hd1 : decide ((j : Int) ≤ (N : Int)) = true := by simp; omega
          obtain ⟨c0, c1, c2, c3, c4, c5, c6, c7, c8⟩ := HCe.out _ _ hrow
          have HW := hide hrow
          clear hrow
          go_wp2_with fail
          refine (mix_any _ _ _ _ _ _ _ (by omega) (by omega) (by omega) (by omega) (by omega) (by omega) (by omega)).mono ?_
          rintro e w3 ⟨rfl, hb3⟩
          have hs3 := hb3.size
          have hown3 := owns_of_block hown (fun b hbb => hb3.block b (hown.lt b hbb).2)
          have hB3 : Below w.heap.size w w3 := hb.trans (hb3.mono (by omega))
          have HW3 := hide (row_below HW.out hb3 HW.out.lt)
          have HSu := hide (spotsU_succ GG N j)
          have HLe := hide (spotsU_len GG N j)
          clear hb hb3 hown c0 c1 c2 c3 c4 c5 c6 c7 c8
          obtain ⟨c0, c1, c2, c3, c4, c5, c6, c7, c8⟩ := HCe.out _ _ HW3.out
          obtain ⟨sx, hsx⟩ : ∃ sx, sx = Num.spotX GG N j := ⟨_, rfl⟩
          obtain ⟨sy, hsy⟩ : ∃ sy, sy = Num.spotY GG N j := ⟨_, rfl⟩
          rw [← hsx, ← hsy] at HSu
          obtain ⟨xs, hxs⟩ : ∃ xs, xs = (spotsU GG N j).flatMap spC := ⟨_, rfl⟩
          rw [← hxs] at hown3
          have HX := hide hxs
          have zz : w.heap.size < w3.heap.size := by omega
          rw [(HSp.out j (by omega)).1, (HSp.out j (by omega)).2, ← hsx, ← hsy]
          clear hsx hsy hxs
          go_wp2_with (at_builtin; refine wpList_append_lies _ rfl _ _ 48 rfl (w.heap.size + 1) 41 i0 (.agg #[.int .i64 0, .int .i64 0]) 2 16 Try.underlying48 hi0 hz0 hz1 hz2 rfl (by omega) v j xs rfl ((hown3.alloc _).alloc _) ⟨w3.heap.size + 1, 0, none⟩ 1 1 [.int .i64 sx, .int .i64 sy] rfl rfl ?e1 ?e2 (by omega) ?e3 ?e4 ?e5 (w3.heap.size + 1 + 1) (by simp) ?_)
          try (case e1 => exact news_sp (w3.alloc _) [.int .i64 sx, .int .i64 sy] _ _ (by simp))
          case e2 => first | exact one_two _ _ | exact ⟨rfl, rfl⟩
          case e3 => unfold maxLen; omega
          case e4 => omega
          case e5 => first | omega | (simp; omega)
          intro g cap w4 hown4 hgrow hat hlt4
          have hb4 : Below w.heap.size w w4 := ((hB3.alloc (by omega) _).alloc (by simp; omega) _).grown hgrow (by simp; omega) (fun q hq => by have := (hown3.lt q hq).1; omega)
          have hR4 : w4.rowIs w.heap.size 44 9 F9 := ((HW3.out.alloc _).alloc _).of_block (hgrow.block _ (by simp; omega) (fun e => by have := (hown3.lt _ e.symm).1; omega))
          have HO4 : Hid (w4.ownsRow (w.heap.size + 1) 41 2 (.slice (some ⟨g, 0, none⟩) (j + 1) cap) (j + 1) ((spotsU GG N (j + 1)).flatMap spC)) := by
            unfold Hid
            have := push_sp (l := spotsU GG N j) (l' := spotsU GG N (j + 1)) (p := (sx, sy)) (m := j + 1) (by rw [← HX.out]; exact hown4) HSu.out (by rw [HLe.out])
            rw [spotsU_len] at this
            exact this
          have HR4 := hide hR4
          clear hown4 hgrow hat hown3 hR4 HW3 HW
          go_wp2
          go_roundw
          case rel => exact ⟨j + 1, by omega, by go_num, hb4, HR4.out, HO4.out⟩
          case measure => simp [intOf]; omega
        · have e : j = N + 1 := by omega
          have hd0 : decide ((j : Int) ≤ (N : Int)) = false := by simp; omega
          have HO := hide hown
          have HBz := hide hb
          clear hown hrow hb
          go_wp2
          go_ret2
          refine ⟨v, rfl, HBz.out, ?_⟩
          have h := owns_mono HO.out (Nat.le_succ w.heap.size)
          rw [e] at h
          rw [spotsU_len]
          exact h

set_option maxRecDepth 100000 in
set_option maxHeartbeats 4000000 in
theorem refCurve1 (x0 y0 x1 y1 x2 y2 x3 y3 : Int) (w : World) :
    Calls Try.prog 60 #[.agg #[.int .i64 1, .int .i64 x0, .int .i64 y0, .int .i64 x1, .int .i64 y1, .int .i64 x2, .int .i64 y2, .int .i64 x3, .int .i64 y3]] w fun e w' => ∃ v, e = .returned (.tuple #[v, .int .i64 (Num.curveE (⟨1, x0, y0, x1, y1, x2, y2, x3, y3⟩ : Num.Sg))]) ∧ Below w.heap.size w w' ∧ w'.ownsRow w.heap.size 41 2 v (Num.curveL (⟨1, x0, y0, x1, y1, x2, y2, x3, y3⟩ : Num.Sg)).length ((Num.curveL (⟨1, x0, y0, x1, y1, x2, y2, x3, y3⟩ : Num.Sg)).flatMap spC) := by
  obtain ⟨E, hE⟩ : ∃ E, E = Num.curveE (⟨1, x0, y0, x1, y1, x2, y2, x3, y3⟩ : Num.Sg) := ⟨_, rfl⟩
  obtain ⟨L, hL⟩ : ∃ L, L = Num.curveL (⟨1, x0, y0, x1, y1, x2, y2, x3, y3⟩ : Num.Sg) := ⟨_, rfl⟩
  rw [← hE, ← hL]
  have HNo : Hid (Num.rangeB (⟨1, x0, y0, x1, y1, x2, y2, x3, y3⟩ : Num.Sg) = false → E = 6 ∧ L = []) := fun hr => by
    have hE2 : Num.curveE (⟨1, x0, y0, x1, y1, x2, y2, x3, y3⟩ : Num.Sg) = 6 := by unfold Num.curveE; rw [hr]; rfl
    exact ⟨by rw [hE, hE2], by rw [hL]; exact curve_no hE2 (by decide)⟩
  have HYes : Hid (Num.rangeB (⟨1, x0, y0, x1, y1, x2, y2, x3, y3⟩ : Num.Sg) = true → (E = 0 ∧ L = spotsU (⟨1, x0, y0, x1, y1, x2, y2, x3, y3⟩ : Num.Sg) (Num.curveN (⟨1, x0, y0, x1, y1, x2, y2, x3, y3⟩ : Num.Sg)) (Num.curveN (⟨1, x0, y0, x1, y1, x2, y2, x3, y3⟩ : Num.Sg) + 1)) ∧ ((Num.curveN (⟨1, x0, y0, x1, y1, x2, y2, x3, y3⟩ : Num.Sg) : Int) = Num.stepsV (Num.needV (⟨1, x0, y0, x1, y1, x2, y2, x3, y3⟩ : Num.Sg)) ∧ 1 ≤ Num.curveN (⟨1, x0, y0, x1, y1, x2, y2, x3, y3⟩ : Num.Sg) ∧ Num.curveN (⟨1, x0, y0, x1, y1, x2, y2, x3, y3⟩ : Num.Sg) ≤ 111)) := fun hr => by
    rw [hE, hL]; exact ⟨curve_yes rfl hr, curveN_eq hr⟩
  clear hE hL
  have HRg : Hid (Num.rangeB (⟨1, x0, y0, x1, y1, x2, y2, x3, y3⟩ : Num.Sg) = (Num.inB x0 y0 && Num.inB x3 y3 && Num.inB x1 y1)) := by unfold Hid; simp [Num.rangeB]
  have HRow := hide (sg9_row 1 x0 y0 x1 y1 x2 y2 x3 y3 w 44)
  obtain ⟨F9, hF9⟩ : ∃ F9, F9 = sg9 1 x0 y0 x1 y1 x2 y2 x3 y3 := ⟨_, rfl⟩
  have HCe := hide (fun (w : World) (b : Nat) (h : w.rowIs b 44 9 (sg9 1 x0 y0 x1 y1 x2 y2 x3 y3)) => sg9_cells h)
  rw [← hF9] at HRow HCe
  clear hF9
  obtain ⟨i0, hi0, hz0, hz1, hz2⟩ := info_parts info_spot
  go_enter Try.func60, Try.ntmps60
  go_wp2_with fail
  go_loopw [6] (fun t wr => ∃ j : Nat, j ≤ 4 ∧ t = .int .i64 j ∧ Below (w.heap.size + 3) (((w.alloc (.cells #[.int .i64 1, .int .i64 x0, .int .i64 y0, .int .i64 x1, .int .i64 y1, .int .i64 x2, .int .i64 y2, .int .i64 x3, .int .i64 y3] 44)).alloc (.cells #[.bool true, .bool true, .bool true, .bool false] 169)).alloc (.cells #[.int .i64 x0, .int .i64 y0, .int .i64 x3, .int .i64 y3, .int .i64 x1, .int .i64 y1, .int .i64 x2, .int .i64 y2] 49)) wr ∧ (1 ≤ j → Num.inB x0 y0 = true) ∧ (2 ≤ j → Num.inB x3 y3 = true) ∧ (3 ≤ j → Num.inB x1 y1 = true)) (fun t _ => 4 - (intOf t).toNat)
  case atStart => exact ⟨0, by omega, rfl, Below.refl _ _, by omega, by omega, by omega⟩
  case round =>
    obtain ⟨j, hj, rfl, hb, r0, r1, r2⟩ := hrel
    have hs := hb.size
    simp at hs
    have y0s : w.heap.size < wr.heap.size := by omega
    have y1s : w.heap.size + 1 < wr.heap.size := by omega
    have y2s : w.heap.size + 1 + 1 < wr.heap.size := by omega
    have HR := hide (And.intro r0 (And.intro r1 r2))
    clear r0 r1 r2
    have hbw : Below w.heap.size w wr := Below.trans (by (repeat (any_goals (first | exact Below.refl _ _ | assumption | refine Below.drew ?_ | refine below_drewN ?_ _ | refine Below.setCell ?_ ?_ _ | refine Below.alloc ?_ ?_ _ | omega | (simp; done) | (simp; omega))))) (hb.mono (by omega))
    have HB := hide hb
    have HBW := hide hbw
    rcases (show j = 0 ∨ j = 1 ∨ j = 2 ∨ j = 3 ∨ j = 4 by omega) with rfl | rfl | rfl | rfl | rfl
    · have l0 : wr.cell? ⟨w.heap.size + 1 + 1, 0, none⟩ = some (.int .i64 x0) := (hb.cell (p := ⟨w.heap.size + 1 + 1, 0, none⟩) (by first | (simp; done) | (simp; omega))).trans (by go_simp)
      have l1 : wr.cell? ⟨w.heap.size + 1 + 1, 1, none⟩ = some (.int .i64 y0) := (hb.cell (p := ⟨w.heap.size + 1 + 1, 1, none⟩) (by first | (simp; done) | (simp; omega))).trans (by go_simp)
      have l2 : wr.cell? ⟨w.heap.size + 1, 0, none⟩ = some (.bool true) := (hb.cell (p := ⟨w.heap.size + 1, 0, none⟩) (by first | (simp; done) | (simp; omega))).trans (by go_simp)
      clear hb hbw
      cases hin : Num.inB x0 y0
      · have HE := hide (HNo.out (by rw [HRg.out]; simp [hin]))
        go_wp2_with (go_at_call 95; refine (refInRange_exact _ _ _).mono ?_; rintro e w' ⟨rfl, rfl⟩)
        go_ret2
        obtain ⟨rfl, rfl⟩ := HE.out
        exact ⟨_, rfl, HBW.out.alloc (by omega) _, World.ownsRow_nil _ _ _ _⟩
      · go_wp2_with (go_at_call 95; refine (refInRange_exact _ _ _).mono ?_; rintro e w' ⟨rfl, rfl⟩)
        go_roundw
        case rel => exact ⟨1, by omega, rfl, HB.out.alloc (by omega) _, fun _ => by first | exact hin | trivial, by omega, by omega⟩
        case measure => simp [intOf]
    · have l0 : wr.cell? ⟨w.heap.size + 1 + 1, 2, none⟩ = some (.int .i64 x3) := (hb.cell (p := ⟨w.heap.size + 1 + 1, 2, none⟩) (by first | (simp; done) | (simp; omega))).trans (by go_simp)
      have l1 : wr.cell? ⟨w.heap.size + 1 + 1, 3, none⟩ = some (.int .i64 y3) := (hb.cell (p := ⟨w.heap.size + 1 + 1, 3, none⟩) (by first | (simp; done) | (simp; omega))).trans (by go_simp)
      have l2 : wr.cell? ⟨w.heap.size + 1, 1, none⟩ = some (.bool true) := (hb.cell (p := ⟨w.heap.size + 1, 1, none⟩) (by first | (simp; done) | (simp; omega))).trans (by go_simp)
      clear hb hbw
      cases hin : Num.inB x3 y3
      · have HE := hide (HNo.out (by rw [HRg.out]; simp [hin]))
        go_wp2_with (go_at_call 95; refine (refInRange_exact _ _ _).mono ?_; rintro e w' ⟨rfl, rfl⟩)
        go_ret2
        obtain ⟨rfl, rfl⟩ := HE.out
        exact ⟨_, rfl, HBW.out.alloc (by omega) _, World.ownsRow_nil _ _ _ _⟩
      · go_wp2_with (go_at_call 95; refine (refInRange_exact _ _ _).mono ?_; rintro e w' ⟨rfl, rfl⟩)
        go_roundw
        case rel => exact ⟨2, by omega, rfl, HB.out.alloc (by omega) _, fun _ => HR.out.1 (by omega), fun _ => by first | exact hin | trivial, by omega⟩
        case measure => simp [intOf]
    · have l0 : wr.cell? ⟨w.heap.size + 1 + 1, 4, none⟩ = some (.int .i64 x1) := (hb.cell (p := ⟨w.heap.size + 1 + 1, 4, none⟩) (by first | (simp; done) | (simp; omega))).trans (by go_simp)
      have l1 : wr.cell? ⟨w.heap.size + 1 + 1, 5, none⟩ = some (.int .i64 y1) := (hb.cell (p := ⟨w.heap.size + 1 + 1, 5, none⟩) (by first | (simp; done) | (simp; omega))).trans (by go_simp)
      have l2 : wr.cell? ⟨w.heap.size + 1, 2, none⟩ = some (.bool true) := (hb.cell (p := ⟨w.heap.size + 1, 2, none⟩) (by first | (simp; done) | (simp; omega))).trans (by go_simp)
      clear hb hbw
      cases hin : Num.inB x1 y1
      · have HE := hide (HNo.out (by rw [HRg.out]; simp [hin]))
        go_wp2_with (go_at_call 95; refine (refInRange_exact _ _ _).mono ?_; rintro e w' ⟨rfl, rfl⟩)
        go_ret2
        obtain ⟨rfl, rfl⟩ := HE.out
        exact ⟨_, rfl, HBW.out.alloc (by omega) _, World.ownsRow_nil _ _ _ _⟩
      · go_wp2_with (go_at_call 95; refine (refInRange_exact _ _ _).mono ?_; rintro e w' ⟨rfl, rfl⟩)
        go_roundw
        case rel => exact ⟨3, by omega, rfl, HB.out.alloc (by omega) _, fun _ => HR.out.1 (by omega), fun _ => HR.out.2.1 (by omega), fun _ => by first | exact hin | trivial⟩
        case measure => simp [intOf]
    · have l0 : wr.cell? ⟨w.heap.size + 1 + 1, 6, none⟩ = some (.int .i64 x2) := (hb.cell (p := ⟨w.heap.size + 1 + 1, 6, none⟩) (by first | (simp; done) | (simp; omega))).trans (by go_simp)
      have l1 : wr.cell? ⟨w.heap.size + 1 + 1, 7, none⟩ = some (.int .i64 y2) := (hb.cell (p := ⟨w.heap.size + 1 + 1, 7, none⟩) (by first | (simp; done) | (simp; omega))).trans (by go_simp)
      have l2 : wr.cell? ⟨w.heap.size + 1, 3, none⟩ = some (.bool false) := (hb.cell (p := ⟨w.heap.size + 1, 3, none⟩) (by first | (simp; done) | (simp; omega))).trans (by go_simp)
      clear hb hbw
      go_wp2_with (go_at_call 95; refine (refInRange_exact _ _ _).mono ?_; rintro e w' ⟨rfl, rfl⟩)
      go_roundw
      case rel => exact ⟨4, by omega, rfl, HB.out.alloc (by omega) _, fun _ => HR.out.1 (by omega), fun _ => HR.out.2.1 (by omega), fun _ => HR.out.2.2 (by omega)⟩
      case measure => simp [intOf]
    · have hr : Num.rangeB (⟨1, x0, y0, x1, y1, x2, y2, x3, y3⟩ : Num.Sg) = true := by
        rw [HRg.out, HR.out.1 (by omega), HR.out.2.1 (by omega), HR.out.2.2 (by omega)]; rfl
      have q0 := Num.inB_yes (HR.out.1 (by omega))
      have q1 := Num.inB_yes (HR.out.2.1 (by omega))
      have q2 := Num.inB_yes (HR.out.2.2 (by omega))
      obtain ⟨⟨eE, eL⟩, eN, n1, n2⟩ := HYes.out hr
      have HP := hide (fun w => parts_any 1 x0 y0 x1 y1 x2 y2 x3 y3 w hr)
      obtain ⟨N, hN⟩ : ∃ N, N = Num.curveN (⟨1, x0, y0, x1, y1, x2, y2, x3, y3⟩ : Num.Sg) := ⟨_, rfl⟩
      rw [← hN] at eN n1 n2 eL
      rw [← eN] at HP
      have hrow0 : wr.rowIs w.heap.size 44 9 F9 := row_below ((HRow.out.alloc _).alloc _) hb (by omega)
      obtain ⟨c0, c1, c2, c3, c4, c5, c6, c7, c8⟩ := HCe.out _ _ hrow0
      have HR0 := hide hrow0
      have HSX : Hid (∀ j : Nat, Num.spotX (⟨1, x0, y0, x1, y1, x2, y2, x3, y3⟩ : Num.Sg) N j = Num.hu (Num.qSum ((N : Int) - j) j x0 x1 x3) ((N : Int) * N)) := fun j => by unfold Num.spotX; rw [if_pos rfl]
      have HSY : Hid (∀ j : Nat, Num.spotY (⟨1, x0, y0, x1, y1, x2, y2, x3, y3⟩ : Num.Sg) N j = Num.hu (Num.qSum ((N : Int) - j) j y0 y1 y3) ((N : Int) * N)) := fun j => by unfold Num.spotY; rw [if_pos rfl]
      obtain ⟨GG, hGG⟩ : ∃ GG : Num.Sg, GG = (⟨1, x0, y0, x1, y1, x2, y2, x3, y3⟩ : Num.Sg) := ⟨_, rfl⟩
      rw [← hGG] at HSX HSY eL
      clear HNo HYes
      subst eE eL
      clear hb hbw hrow0 hr eN hN hGG
      go_wp2_with fail
      refine (HP.out _).mono ?_
      rintro e w2 ⟨rfl, hb2⟩
      have hs2 := hb2.size
      have hbW : Below w.heap.size w w2 := HBW.out.trans (hb2.mono (by omega))
      have HR2 := hide (row_below HR0.out hb2 HR0.out.lt)
      clear hb2 c0 c1 c2 c3 c4 c5 c6 c7 c8
      go_wp2_with fail
      go_loopw [9, 10] (fun v t wr => ∃ j : Nat, j ≤ N + 1 ∧ t = .int .i64 j ∧ Below w.heap.size w wr ∧ wr.rowIs w.heap.size 44 9 F9 ∧ wr.ownsRow (w.heap.size + 1) 41 2 v j ((spotsU GG N j).flatMap spC)) (fun _ t _ => N + 1 - (intOf t).toNat)
      case atStart => exact ⟨0, by omega, rfl, hbW, HR2.out, World.ownsRow_nil _ _ _ _⟩
      case round =>
        obtain ⟨v, rfl⟩ : ∃ v, v = u9 := ⟨_, rfl⟩
        obtain ⟨j, hj, rfl, hb, hrow, hown⟩ := hrel
        have hsz := hrow.lt
        by_cases hlt : j < N + 1
        · have hd1 : decide ((j : Int) ≤ (N : Int)) = true := by simp; omega
          obtain ⟨c0, c1, c2, c3, c4, c5, c6, c7, c8⟩ := HCe.out _ _ hrow
          have HW := hide hrow
          clear hrow
          go_wp2_with fail
          refine (mix_any _ _ _ _ _ _ _ (by omega) (by omega) (by omega) (by omega) (by omega) (by omega) (by omega)).mono ?_
          rintro e w3 ⟨rfl, hb3⟩
          have hs3 := hb3.size
          have hown3 := owns_of_block hown (fun b hbb => hb3.block b (hown.lt b hbb).2)
          have hB3 : Below w.heap.size w w3 := hb.trans (hb3.mono (by omega))
          have HW3 := hide (row_below HW.out hb3 HW.out.lt)
          have HSu := hide (spotsU_succ GG N j)
          have HLe := hide (spotsU_len GG N j)
          clear hb hb3 hown c0 c1 c2 c3 c4 c5 c6 c7 c8
          obtain ⟨c0, c1, c2, c3, c4, c5, c6, c7, c8⟩ := HCe.out _ _ HW3.out
          obtain ⟨sx, hsx⟩ : ∃ sx, sx = Num.spotX GG N j := ⟨_, rfl⟩
          obtain ⟨sy, hsy⟩ : ∃ sy, sy = Num.spotY GG N j := ⟨_, rfl⟩
          rw [← hsx, ← hsy] at HSu
          obtain ⟨xs, hxs⟩ : ∃ xs, xs = (spotsU GG N j).flatMap spC := ⟨_, rfl⟩
          rw [← hxs] at hown3
          have HX := hide hxs
          have zz : w.heap.size < w3.heap.size := by omega
          have HSxy := hide (And.intro (HSX.out j) (HSY.out j))
          obtain ⟨m0, hm0⟩ : ∃ m0, m0 = Num.mx ((N : Int) - j) j x0 x3 := ⟨_, rfl⟩
          obtain ⟨m1, hm1⟩ : ∃ m1, m1 = Num.mx ((N : Int) - j) j y0 y3 := ⟨_, rfl⟩
          rw [← hm0, ← hm1]
          rw [← hsx, ← hsy] at HSxy
          clear hsx hsy hxs hm0 hm1
          go_wp2_with fail
          refine (quads_any _ _ _ _ _ _ _ _ _ _ _ _ (by omega) (by omega) (by omega) (by omega) q0.1 q0.2 q2.1 q2.2 q1.1 q1.2).mono ?_
          rw [← HSxy.out.1, ← HSxy.out.2]
          rintro e w5 ⟨rfl, hb5⟩
          obtain ⟨hc5, hf5⟩ := bcell hb5
          have zz5 : w3.heap.size < w5.heap.size := by have := hb5.size; simp at this; omega
          have g0 : w5.cell? ⟨w3.heap.size, 0, none⟩ = some (.int .i64 m0) := by rw [hc5 _ _ (by simp)]; go_simp
          have g1 : w5.cell? ⟨w3.heap.size, 1, none⟩ = some (.int .i64 m1) := by rw [hc5 _ _ (by simp)]; go_simp
          have f0 : w5.frozen? ⟨w3.heap.size, 0, none⟩ = false := by rw [hf5 _ _ (by simp)]; go_simp
          have f1 : w5.frozen? ⟨w3.heap.size, 1, none⟩ = false := by rw [hf5 _ _ (by simp)]; go_simp
          have hB5 : Below w.heap.size w w5 := (hB3.alloc (by omega) _).trans (hb5.mono (by simp; omega))
          have hownA := hown3.alloc (.cells #[.int .i64 m0, .int .i64 m1] 41)
          have hown5 := owns_of_block hownA (fun b hbb => hb5.block b (hownA.lt b hbb).2)
          have hne5 : v.ownBlock ≠ some w3.heap.size := fun e => by have := (hown3.lt _ e).2; omega
          have HW5 := hide (row_below (HW3.out.alloc (.cells #[.int .i64 m0, .int .i64 m1] 41)) hb5 (by simp; omega))
          clear hb5 hc5 hf5 hownA c0 c1 c2 c3 c4 c5 c6 c7 c8
          go_wp2_with (at_builtin; refine wpList_append_lies _ rfl _ _ 48 rfl (w.heap.size + 1) 41 i0 (.agg #[.int .i64 0, .int .i64 0]) 2 16 Try.underlying48 hi0 hz0 hz1 hz2 rfl (by omega) v j xs rfl (((owns_set (p := ⟨w3.heap.size, 1, none⟩) (owns_set (p := ⟨w3.heap.size, 0, none⟩) hown5 hne5) hne5)).alloc _) ⟨w5.heap.size, 0, none⟩ 1 1 [.int .i64 sx, .int .i64 sy] rfl rfl ?e1 ?e2 (by omega) ?e3 ?e4 ?e5 (w5.heap.size + 1) (by simp) ?_)
          try (case e1 => exact news_sp _ [.int .i64 sx, .int .i64 sy] _ _ (by simp))
          case e2 => first | exact one_two _ _ | exact ⟨rfl, rfl⟩
          case e3 => unfold maxLen; omega
          case e4 => omega
          case e5 => first | omega | (simp; omega)
          intro g cap w4 hown4 hgrow hat hlt4
          have hb4 : Below w.heap.size w w4 := (((hB5.setCell (by simp; omega) _).setCell (by simp; omega) _).alloc (by simp; omega) _).grown hgrow (by simp; omega) (fun q hq => by have := (hown3.lt q hq).1; omega)
          have hR4 : w4.rowIs w.heap.size 44 9 F9 := (((HW5.out.setOther (by simp; omega) _).setOther (by simp; omega) _).alloc _).of_block (hgrow.block _ (by simp; omega) (fun e => by have := (hown3.lt _ e.symm).1; omega))
          have HO4 : Hid (w4.ownsRow (w.heap.size + 1) 41 2 (.slice (some ⟨g, 0, none⟩) (j + 1) cap) (j + 1) ((spotsU GG N (j + 1)).flatMap spC)) := by
            unfold Hid
            have := push_sp (l := spotsU GG N j) (l' := spotsU GG N (j + 1)) (p := (sx, sy)) (m := j + 1) (by rw [← HX.out]; exact hown4) HSu.out (by rw [HLe.out])
            rw [spotsU_len] at this
            exact this
          have HR4 := hide hR4
          clear hown4 hgrow hat hown3 hR4 HW3 HW hown5 g0 g1 f0 f1 hne5
          go_wp2
          go_roundw
          case rel => exact ⟨j + 1, by omega, by go_num, hb4, HR4.out, HO4.out⟩
          case measure => simp [intOf]; omega
        · have e : j = N + 1 := by omega
          have hd0 : decide ((j : Int) ≤ (N : Int)) = false := by simp; omega
          have HO := hide hown
          have HBz := hide hb
          clear hown hrow hb
          go_wp2
          go_ret2
          refine ⟨v, rfl, HBz.out, ?_⟩
          have h := owns_mono HO.out (Nat.le_succ w.heap.size)
          rw [e] at h
          rw [spotsU_len]
          exact h

set_option maxRecDepth 100000 in
set_option maxHeartbeats 4000000 in
theorem refCurve2 (x0 y0 x1 y1 x2 y2 x3 y3 : Int) (w : World) :
    Calls Try.prog 60 #[.agg #[.int .i64 2, .int .i64 x0, .int .i64 y0, .int .i64 x1, .int .i64 y1, .int .i64 x2, .int .i64 y2, .int .i64 x3, .int .i64 y3]] w fun e w' => ∃ v, e = .returned (.tuple #[v, .int .i64 (Num.curveE (⟨2, x0, y0, x1, y1, x2, y2, x3, y3⟩ : Num.Sg))]) ∧ Below w.heap.size w w' ∧ w'.ownsRow w.heap.size 41 2 v (Num.curveL (⟨2, x0, y0, x1, y1, x2, y2, x3, y3⟩ : Num.Sg)).length ((Num.curveL (⟨2, x0, y0, x1, y1, x2, y2, x3, y3⟩ : Num.Sg)).flatMap spC) := by
  obtain ⟨E, hE⟩ : ∃ E, E = Num.curveE (⟨2, x0, y0, x1, y1, x2, y2, x3, y3⟩ : Num.Sg) := ⟨_, rfl⟩
  obtain ⟨L, hL⟩ : ∃ L, L = Num.curveL (⟨2, x0, y0, x1, y1, x2, y2, x3, y3⟩ : Num.Sg) := ⟨_, rfl⟩
  rw [← hE, ← hL]
  have HNo : Hid (Num.rangeB (⟨2, x0, y0, x1, y1, x2, y2, x3, y3⟩ : Num.Sg) = false → E = 6 ∧ L = []) := fun hr => by
    have hE2 : Num.curveE (⟨2, x0, y0, x1, y1, x2, y2, x3, y3⟩ : Num.Sg) = 6 := by unfold Num.curveE; rw [hr]; rfl
    exact ⟨by rw [hE, hE2], by rw [hL]; exact curve_no hE2 (by decide)⟩
  have HYes : Hid (Num.rangeB (⟨2, x0, y0, x1, y1, x2, y2, x3, y3⟩ : Num.Sg) = true → (E = 0 ∧ L = spotsU (⟨2, x0, y0, x1, y1, x2, y2, x3, y3⟩ : Num.Sg) (Num.curveN (⟨2, x0, y0, x1, y1, x2, y2, x3, y3⟩ : Num.Sg)) (Num.curveN (⟨2, x0, y0, x1, y1, x2, y2, x3, y3⟩ : Num.Sg) + 1)) ∧ ((Num.curveN (⟨2, x0, y0, x1, y1, x2, y2, x3, y3⟩ : Num.Sg) : Int) = Num.stepsV (Num.needV (⟨2, x0, y0, x1, y1, x2, y2, x3, y3⟩ : Num.Sg)) ∧ 1 ≤ Num.curveN (⟨2, x0, y0, x1, y1, x2, y2, x3, y3⟩ : Num.Sg) ∧ Num.curveN (⟨2, x0, y0, x1, y1, x2, y2, x3, y3⟩ : Num.Sg) ≤ 111)) := fun hr => by
    rw [hE, hL]; exact ⟨curve_yes rfl hr, curveN_eq hr⟩
  clear hE hL
  have HRg : Hid (Num.rangeB (⟨2, x0, y0, x1, y1, x2, y2, x3, y3⟩ : Num.Sg) = (Num.inB x0 y0 && Num.inB x3 y3 && Num.inB x1 y1 && Num.inB x2 y2)) := by unfold Hid; simp [Num.rangeB]
  have HRow := hide (sg9_row 2 x0 y0 x1 y1 x2 y2 x3 y3 w 44)
  obtain ⟨F9, hF9⟩ : ∃ F9, F9 = sg9 2 x0 y0 x1 y1 x2 y2 x3 y3 := ⟨_, rfl⟩
  have HCe := hide (fun (w : World) (b : Nat) (h : w.rowIs b 44 9 (sg9 2 x0 y0 x1 y1 x2 y2 x3 y3)) => sg9_cells h)
  rw [← hF9] at HRow HCe
  clear hF9
  obtain ⟨i0, hi0, hz0, hz1, hz2⟩ := info_parts info_spot
  go_enter Try.func60, Try.ntmps60
  go_wp2_with fail
  go_loopw [6] (fun t wr => ∃ j : Nat, j ≤ 4 ∧ t = .int .i64 j ∧ Below (w.heap.size + 3) (((w.alloc (.cells #[.int .i64 2, .int .i64 x0, .int .i64 y0, .int .i64 x1, .int .i64 y1, .int .i64 x2, .int .i64 y2, .int .i64 x3, .int .i64 y3] 44)).alloc (.cells #[.bool true, .bool true, .bool true, .bool true] 169)).alloc (.cells #[.int .i64 x0, .int .i64 y0, .int .i64 x3, .int .i64 y3, .int .i64 x1, .int .i64 y1, .int .i64 x2, .int .i64 y2] 49)) wr ∧ (1 ≤ j → Num.inB x0 y0 = true) ∧ (2 ≤ j → Num.inB x3 y3 = true) ∧ (3 ≤ j → Num.inB x1 y1 = true) ∧ (4 ≤ j → Num.inB x2 y2 = true)) (fun t _ => 4 - (intOf t).toNat)
  case atStart => exact ⟨0, by omega, rfl, Below.refl _ _, by omega, by omega, by omega, by omega⟩
  case round =>
    obtain ⟨j, hj, rfl, hb, r0, r1, r2, r3⟩ := hrel
    have hs := hb.size
    simp at hs
    have y0s : w.heap.size < wr.heap.size := by omega
    have y1s : w.heap.size + 1 < wr.heap.size := by omega
    have y2s : w.heap.size + 1 + 1 < wr.heap.size := by omega
    have HR := hide (And.intro r0 (And.intro r1 (And.intro r2 r3)))
    clear r0 r1 r2 r3
    have hbw : Below w.heap.size w wr := Below.trans (by (repeat (any_goals (first | exact Below.refl _ _ | assumption | refine Below.drew ?_ | refine below_drewN ?_ _ | refine Below.setCell ?_ ?_ _ | refine Below.alloc ?_ ?_ _ | omega | (simp; done) | (simp; omega))))) (hb.mono (by omega))
    have HB := hide hb
    have HBW := hide hbw
    rcases (show j = 0 ∨ j = 1 ∨ j = 2 ∨ j = 3 ∨ j = 4 by omega) with rfl | rfl | rfl | rfl | rfl
    · have l0 : wr.cell? ⟨w.heap.size + 1 + 1, 0, none⟩ = some (.int .i64 x0) := (hb.cell (p := ⟨w.heap.size + 1 + 1, 0, none⟩) (by first | (simp; done) | (simp; omega))).trans (by go_simp)
      have l1 : wr.cell? ⟨w.heap.size + 1 + 1, 1, none⟩ = some (.int .i64 y0) := (hb.cell (p := ⟨w.heap.size + 1 + 1, 1, none⟩) (by first | (simp; done) | (simp; omega))).trans (by go_simp)
      have l2 : wr.cell? ⟨w.heap.size + 1, 0, none⟩ = some (.bool true) := (hb.cell (p := ⟨w.heap.size + 1, 0, none⟩) (by first | (simp; done) | (simp; omega))).trans (by go_simp)
      clear hb hbw
      cases hin : Num.inB x0 y0
      · have HE := hide (HNo.out (by rw [HRg.out]; simp [hin]))
        go_wp2_with (go_at_call 95; refine (refInRange_exact _ _ _).mono ?_; rintro e w' ⟨rfl, rfl⟩)
        go_ret2
        obtain ⟨rfl, rfl⟩ := HE.out
        exact ⟨_, rfl, HBW.out.alloc (by omega) _, World.ownsRow_nil _ _ _ _⟩
      · go_wp2_with (go_at_call 95; refine (refInRange_exact _ _ _).mono ?_; rintro e w' ⟨rfl, rfl⟩)
        go_roundw
        case rel => exact ⟨1, by omega, rfl, HB.out.alloc (by omega) _, fun _ => by first | exact hin | trivial, by omega, by omega, by omega⟩
        case measure => simp [intOf]
    · have l0 : wr.cell? ⟨w.heap.size + 1 + 1, 2, none⟩ = some (.int .i64 x3) := (hb.cell (p := ⟨w.heap.size + 1 + 1, 2, none⟩) (by first | (simp; done) | (simp; omega))).trans (by go_simp)
      have l1 : wr.cell? ⟨w.heap.size + 1 + 1, 3, none⟩ = some (.int .i64 y3) := (hb.cell (p := ⟨w.heap.size + 1 + 1, 3, none⟩) (by first | (simp; done) | (simp; omega))).trans (by go_simp)
      have l2 : wr.cell? ⟨w.heap.size + 1, 1, none⟩ = some (.bool true) := (hb.cell (p := ⟨w.heap.size + 1, 1, none⟩) (by first | (simp; done) | (simp; omega))).trans (by go_simp)
      clear hb hbw
      cases hin : Num.inB x3 y3
      · have HE := hide (HNo.out (by rw [HRg.out]; simp [hin]))
        go_wp2_with (go_at_call 95; refine (refInRange_exact _ _ _).mono ?_; rintro e w' ⟨rfl, rfl⟩)
        go_ret2
        obtain ⟨rfl, rfl⟩ := HE.out
        exact ⟨_, rfl, HBW.out.alloc (by omega) _, World.ownsRow_nil _ _ _ _⟩
      · go_wp2_with (go_at_call 95; refine (refInRange_exact _ _ _).mono ?_; rintro e w' ⟨rfl, rfl⟩)
        go_roundw
        case rel => exact ⟨2, by omega, rfl, HB.out.alloc (by omega) _, fun _ => HR.out.1 (by omega), fun _ => by first | exact hin | trivial, by omega, by omega⟩
        case measure => simp [intOf]
    · have l0 : wr.cell? ⟨w.heap.size + 1 + 1, 4, none⟩ = some (.int .i64 x1) := (hb.cell (p := ⟨w.heap.size + 1 + 1, 4, none⟩) (by first | (simp; done) | (simp; omega))).trans (by go_simp)
      have l1 : wr.cell? ⟨w.heap.size + 1 + 1, 5, none⟩ = some (.int .i64 y1) := (hb.cell (p := ⟨w.heap.size + 1 + 1, 5, none⟩) (by first | (simp; done) | (simp; omega))).trans (by go_simp)
      have l2 : wr.cell? ⟨w.heap.size + 1, 2, none⟩ = some (.bool true) := (hb.cell (p := ⟨w.heap.size + 1, 2, none⟩) (by first | (simp; done) | (simp; omega))).trans (by go_simp)
      clear hb hbw
      cases hin : Num.inB x1 y1
      · have HE := hide (HNo.out (by rw [HRg.out]; simp [hin]))
        go_wp2_with (go_at_call 95; refine (refInRange_exact _ _ _).mono ?_; rintro e w' ⟨rfl, rfl⟩)
        go_ret2
        obtain ⟨rfl, rfl⟩ := HE.out
        exact ⟨_, rfl, HBW.out.alloc (by omega) _, World.ownsRow_nil _ _ _ _⟩
      · go_wp2_with (go_at_call 95; refine (refInRange_exact _ _ _).mono ?_; rintro e w' ⟨rfl, rfl⟩)
        go_roundw
        case rel => exact ⟨3, by omega, rfl, HB.out.alloc (by omega) _, fun _ => HR.out.1 (by omega), fun _ => HR.out.2.1 (by omega), fun _ => by first | exact hin | trivial, by omega⟩
        case measure => simp [intOf]
    · have l0 : wr.cell? ⟨w.heap.size + 1 + 1, 6, none⟩ = some (.int .i64 x2) := (hb.cell (p := ⟨w.heap.size + 1 + 1, 6, none⟩) (by first | (simp; done) | (simp; omega))).trans (by go_simp)
      have l1 : wr.cell? ⟨w.heap.size + 1 + 1, 7, none⟩ = some (.int .i64 y2) := (hb.cell (p := ⟨w.heap.size + 1 + 1, 7, none⟩) (by first | (simp; done) | (simp; omega))).trans (by go_simp)
      have l2 : wr.cell? ⟨w.heap.size + 1, 3, none⟩ = some (.bool true) := (hb.cell (p := ⟨w.heap.size + 1, 3, none⟩) (by first | (simp; done) | (simp; omega))).trans (by go_simp)
      clear hb hbw
      cases hin : Num.inB x2 y2
      · have HE := hide (HNo.out (by rw [HRg.out]; simp [hin]))
        go_wp2_with (go_at_call 95; refine (refInRange_exact _ _ _).mono ?_; rintro e w' ⟨rfl, rfl⟩)
        go_ret2
        obtain ⟨rfl, rfl⟩ := HE.out
        exact ⟨_, rfl, HBW.out.alloc (by omega) _, World.ownsRow_nil _ _ _ _⟩
      · go_wp2_with (go_at_call 95; refine (refInRange_exact _ _ _).mono ?_; rintro e w' ⟨rfl, rfl⟩)
        go_roundw
        case rel => exact ⟨4, by omega, rfl, HB.out.alloc (by omega) _, fun _ => HR.out.1 (by omega), fun _ => HR.out.2.1 (by omega), fun _ => HR.out.2.2.1 (by omega), fun _ => by first | exact hin | trivial⟩
        case measure => simp [intOf]
    · have hr : Num.rangeB (⟨2, x0, y0, x1, y1, x2, y2, x3, y3⟩ : Num.Sg) = true := by
        rw [HRg.out, HR.out.1 (by omega), HR.out.2.1 (by omega), HR.out.2.2.1 (by omega), HR.out.2.2.2 (by omega)]; rfl
      have q0 := Num.inB_yes (HR.out.1 (by omega))
      have q1 := Num.inB_yes (HR.out.2.1 (by omega))
      have q2 := Num.inB_yes (HR.out.2.2.1 (by omega))
      have q3 := Num.inB_yes (HR.out.2.2.2 (by omega))
      obtain ⟨⟨eE, eL⟩, eN, n1, n2⟩ := HYes.out hr
      have HP := hide (fun w => parts_any 2 x0 y0 x1 y1 x2 y2 x3 y3 w hr)
      obtain ⟨N, hN⟩ : ∃ N, N = Num.curveN (⟨2, x0, y0, x1, y1, x2, y2, x3, y3⟩ : Num.Sg) := ⟨_, rfl⟩
      rw [← hN] at eN n1 n2 eL
      rw [← eN] at HP
      have hrow0 : wr.rowIs w.heap.size 44 9 F9 := row_below ((HRow.out.alloc _).alloc _) hb (by omega)
      obtain ⟨c0, c1, c2, c3, c4, c5, c6, c7, c8⟩ := HCe.out _ _ hrow0
      have HR0 := hide hrow0
      have HSX : Hid (∀ j : Nat, Num.spotX (⟨2, x0, y0, x1, y1, x2, y2, x3, y3⟩ : Num.Sg) N j = Num.hu (Num.cSum ((N : Int) - j) j x0 x1 x2 x3) ((N : Int) * N * N)) := fun j => by unfold Num.spotX; rw [if_neg (by show ¬ (2 : Int) = 1; decide), if_pos rfl]
      have HSY : Hid (∀ j : Nat, Num.spotY (⟨2, x0, y0, x1, y1, x2, y2, x3, y3⟩ : Num.Sg) N j = Num.hu (Num.cSum ((N : Int) - j) j y0 y1 y2 y3) ((N : Int) * N * N)) := fun j => by unfold Num.spotY; rw [if_neg (by show ¬ (2 : Int) = 1; decide), if_pos rfl]
      obtain ⟨GG, hGG⟩ : ∃ GG : Num.Sg, GG = (⟨2, x0, y0, x1, y1, x2, y2, x3, y3⟩ : Num.Sg) := ⟨_, rfl⟩
      rw [← hGG] at HSX HSY eL
      clear HNo HYes
      subst eE eL
      clear hb hbw hrow0 hr eN hN hGG
      go_wp2_with fail
      refine (HP.out _).mono ?_
      rintro e w2 ⟨rfl, hb2⟩
      have hs2 := hb2.size
      have hbW : Below w.heap.size w w2 := HBW.out.trans (hb2.mono (by omega))
      have HR2 := hide (row_below HR0.out hb2 HR0.out.lt)
      clear hb2 c0 c1 c2 c3 c4 c5 c6 c7 c8
      go_wp2_with fail
      go_loopw [9, 10] (fun v t wr => ∃ j : Nat, j ≤ N + 1 ∧ t = .int .i64 j ∧ Below w.heap.size w wr ∧ wr.rowIs w.heap.size 44 9 F9 ∧ wr.ownsRow (w.heap.size + 1) 41 2 v j ((spotsU GG N j).flatMap spC)) (fun _ t _ => N + 1 - (intOf t).toNat)
      case atStart => exact ⟨0, by omega, rfl, hbW, HR2.out, World.ownsRow_nil _ _ _ _⟩
      case round =>
        obtain ⟨v, rfl⟩ : ∃ v, v = u9 := ⟨_, rfl⟩
        obtain ⟨j, hj, rfl, hb, hrow, hown⟩ := hrel
        have hsz := hrow.lt
        by_cases hlt : j < N + 1
        · have hd1 : decide ((j : Int) ≤ (N : Int)) = true := by simp; omega
          obtain ⟨c0, c1, c2, c3, c4, c5, c6, c7, c8⟩ := HCe.out _ _ hrow
          have HW := hide hrow
          clear hrow
          go_wp2_with fail
          refine (mix_any _ _ _ _ _ _ _ (by omega) (by omega) (by omega) (by omega) (by omega) (by omega) (by omega)).mono ?_
          rintro e w3 ⟨rfl, hb3⟩
          have hs3 := hb3.size
          have hown3 := owns_of_block hown (fun b hbb => hb3.block b (hown.lt b hbb).2)
          have hB3 : Below w.heap.size w w3 := hb.trans (hb3.mono (by omega))
          have HW3 := hide (row_below HW.out hb3 HW.out.lt)
          have HSu := hide (spotsU_succ GG N j)
          have HLe := hide (spotsU_len GG N j)
          clear hb hb3 hown c0 c1 c2 c3 c4 c5 c6 c7 c8
          obtain ⟨c0, c1, c2, c3, c4, c5, c6, c7, c8⟩ := HCe.out _ _ HW3.out
          obtain ⟨sx, hsx⟩ : ∃ sx, sx = Num.spotX GG N j := ⟨_, rfl⟩
          obtain ⟨sy, hsy⟩ : ∃ sy, sy = Num.spotY GG N j := ⟨_, rfl⟩
          rw [← hsx, ← hsy] at HSu
          obtain ⟨xs, hxs⟩ : ∃ xs, xs = (spotsU GG N j).flatMap spC := ⟨_, rfl⟩
          rw [← hxs] at hown3
          have HX := hide hxs
          have zz : w.heap.size < w3.heap.size := by omega
          have HSxy := hide (And.intro (HSX.out j) (HSY.out j))
          obtain ⟨m0, hm0⟩ : ∃ m0, m0 = Num.mx ((N : Int) - j) j x0 x3 := ⟨_, rfl⟩
          obtain ⟨m1, hm1⟩ : ∃ m1, m1 = Num.mx ((N : Int) - j) j y0 y3 := ⟨_, rfl⟩
          rw [← hm0, ← hm1]
          rw [← hsx, ← hsy] at HSxy
          clear hsx hsy hxs hm0 hm1
          go_wp2_with fail
          refine (cubics_any _ _ _ _ _ _ _ _ _ _ _ _ (by omega) (by omega) (by omega) (by omega) q0.1 q0.2 q2.1 q2.2 q3.1 q3.2 q1.1 q1.2).mono ?_
          rw [← HSxy.out.1, ← HSxy.out.2]
          rintro e w5 ⟨rfl, hb5⟩
          obtain ⟨hc5, hf5⟩ := bcell hb5
          have zz5 : w3.heap.size < w5.heap.size := by have := hb5.size; simp at this; omega
          have g0 : w5.cell? ⟨w3.heap.size, 0, none⟩ = some (.int .i64 m0) := by rw [hc5 _ _ (by simp)]; go_simp
          have g1 : w5.cell? ⟨w3.heap.size, 1, none⟩ = some (.int .i64 m1) := by rw [hc5 _ _ (by simp)]; go_simp
          have f0 : w5.frozen? ⟨w3.heap.size, 0, none⟩ = false := by rw [hf5 _ _ (by simp)]; go_simp
          have f1 : w5.frozen? ⟨w3.heap.size, 1, none⟩ = false := by rw [hf5 _ _ (by simp)]; go_simp
          have hB5 : Below w.heap.size w w5 := (hB3.alloc (by omega) _).trans (hb5.mono (by simp; omega))
          have hownA := hown3.alloc (.cells #[.int .i64 m0, .int .i64 m1] 41)
          have hown5 := owns_of_block hownA (fun b hbb => hb5.block b (hownA.lt b hbb).2)
          have hne5 : v.ownBlock ≠ some w3.heap.size := fun e => by have := (hown3.lt _ e).2; omega
          have HW5 := hide (row_below (HW3.out.alloc (.cells #[.int .i64 m0, .int .i64 m1] 41)) hb5 (by simp; omega))
          clear hb5 hc5 hf5 hownA c0 c1 c2 c3 c4 c5 c6 c7 c8
          go_wp2_with (at_builtin; refine wpList_append_lies _ rfl _ _ 48 rfl (w.heap.size + 1) 41 i0 (.agg #[.int .i64 0, .int .i64 0]) 2 16 Try.underlying48 hi0 hz0 hz1 hz2 rfl (by omega) v j xs rfl (((owns_set (p := ⟨w3.heap.size, 1, none⟩) (owns_set (p := ⟨w3.heap.size, 0, none⟩) hown5 hne5) hne5)).alloc _) ⟨w5.heap.size, 0, none⟩ 1 1 [.int .i64 sx, .int .i64 sy] rfl rfl ?e1 ?e2 (by omega) ?e3 ?e4 ?e5 (w5.heap.size + 1) (by simp) ?_)
          try (case e1 => exact news_sp _ [.int .i64 sx, .int .i64 sy] _ _ (by simp))
          case e2 => first | exact one_two _ _ | exact ⟨rfl, rfl⟩
          case e3 => unfold maxLen; omega
          case e4 => omega
          case e5 => first | omega | (simp; omega)
          intro g cap w4 hown4 hgrow hat hlt4
          have hb4 : Below w.heap.size w w4 := (((hB5.setCell (by simp; omega) _).setCell (by simp; omega) _).alloc (by simp; omega) _).grown hgrow (by simp; omega) (fun q hq => by have := (hown3.lt q hq).1; omega)
          have hR4 : w4.rowIs w.heap.size 44 9 F9 := (((HW5.out.setOther (by simp; omega) _).setOther (by simp; omega) _).alloc _).of_block (hgrow.block _ (by simp; omega) (fun e => by have := (hown3.lt _ e.symm).1; omega))
          have HO4 : Hid (w4.ownsRow (w.heap.size + 1) 41 2 (.slice (some ⟨g, 0, none⟩) (j + 1) cap) (j + 1) ((spotsU GG N (j + 1)).flatMap spC)) := by
            unfold Hid
            have := push_sp (l := spotsU GG N j) (l' := spotsU GG N (j + 1)) (p := (sx, sy)) (m := j + 1) (by rw [← HX.out]; exact hown4) HSu.out (by rw [HLe.out])
            rw [spotsU_len] at this
            exact this
          have HR4 := hide hR4
          clear hown4 hgrow hat hown3 hR4 HW3 HW hown5 g0 g1 f0 f1 hne5
          go_wp2
          go_roundw
          case rel => exact ⟨j + 1, by omega, by go_num, hb4, HR4.out, HO4.out⟩
          case measure => simp [intOf]; omega
        · have e : j = N + 1 := by omega
          have hd0 : decide ((j : Int) ≤ (N : Int)) = false := by simp; omega
          have HO := hide hown
          have HBz := hide hb
          clear hown hrow hb
          go_wp2
          go_ret2
          refine ⟨v, rfl, HBz.out, ?_⟩
          have h := owns_mono HO.out (Nat.le_succ w.heap.size)
          rw [e] at h
          rw [spotsU_len]
          exact h

set_option maxHeartbeats 400000 in
theorem refCurve_any (k x0 y0 x1 y1 x2 y2 x3 y3 : Int) (w : World) :
    Calls Try.prog 60 #[.agg #[.int .i64 k, .int .i64 x0, .int .i64 y0, .int .i64 x1, .int .i64 y1, .int .i64 x2, .int .i64 y2, .int .i64 x3, .int .i64 y3]] w fun e w' => ∃ v, e = .returned (.tuple #[v, .int .i64 (Num.curveE (⟨k, x0, y0, x1, y1, x2, y2, x3, y3⟩ : Num.Sg))]) ∧ Below w.heap.size w w' ∧ w'.ownsRow w.heap.size 41 2 v (Num.curveL (⟨k, x0, y0, x1, y1, x2, y2, x3, y3⟩ : Num.Sg)).length ((Num.curveL (⟨k, x0, y0, x1, y1, x2, y2, x3, y3⟩ : Num.Sg)).flatMap spC) := by
  cases hk : Num.kindB (⟨k, x0, y0, x1, y1, x2, y2, x3, y3⟩ : Num.Sg)
  · have hE : Num.curveE (⟨k, x0, y0, x1, y1, x2, y2, x3, y3⟩ : Num.Sg) = 3 := by unfold Num.curveE; rw [hk]; rfl
    rw [hE, curve_no hE (by decide)]
    obtain ⟨k0, k1, k2⟩ := Num.kind_no hk
    simp only at k0 k1 k2
    clear hk hE
    by_cases hlt : k < 0
    · go_enter Try.func60, Try.ntmps60
      go_wp2
      go_ret2
      exact ⟨_, rfl, by (repeat (any_goals (first | exact Below.refl _ _ | assumption | refine Below.drew ?_ | refine below_drewN ?_ _ | refine Below.setCell ?_ ?_ _ | refine Below.alloc ?_ ?_ _ | omega | (simp; done) | (simp; omega)))), World.ownsRow_nil _ _ _ _⟩
    · have hgt : 2 < k := by omega
      go_enter Try.func60, Try.ntmps60
      go_wp2
      go_ret2
      exact ⟨_, rfl, by (repeat (any_goals (first | exact Below.refl _ _ | assumption | refine Below.drew ?_ | refine below_drewN ?_ _ | refine Below.setCell ?_ ?_ _ | refine Below.alloc ?_ ?_ _ | omega | (simp; done) | (simp; omega)))), World.ownsRow_nil _ _ _ _⟩
  · have hkk : k = 0 ∨ k = 1 ∨ k = 2 := Num.kind_yes hk
    clear hk
    rcases hkk with rfl | rfl | rfl
    · exact refCurve0 _ _ _ _ _ _ _ _ _
    · exact refCurve1 _ _ _ _ _ _ _ _ _
    · exact refCurve2 _ _ _ _ _ _ _ _ _
end Go.Proofs.Ytkhcjkmifddlbaa

/- RefChkB -/
namespace Go.Proofs.Ytkhcjkmifddlbaa
open Go.RowKit

theorem shape_ge {n : Nat → Nat} {K : Nat → Nat → Int} {k : Nat} : (Num.shapeAt n K k = false → Num.shapeI (K k) (n k) < 0) ∧ (Num.shapeAt n K k = true → 0 ≤ Num.shapeI (K k) (n k)) := by
  rcases Num.shapeI_ge (K k) (n k) with h | h
  · exact ⟨fun _ => by omega, fun e => by simp [Num.shapeAt, h] at e⟩
  · refine ⟨fun e => ?_, fun _ => h⟩
    have : Num.shapeI (K k) (n k) = -1 := by simpa [Num.shapeAt] using e
    omega

set_option maxHeartbeats 1000000 in
theorem refCheck_any (a : Option Addr) (N c : Nat) (A : Nat → Option Addr) (C n : Nat → Nat) (X Y K : Nat → Nat → Int) (w : World) (hN : N ≤ 4294967296) (hn : ∀ i, i < N → n i ≤ 4294967296) (hS : Num.sumN n N ≤ 1099511627776) (ho : OutAt w a N A C n X Y K) :
    Calls Try.prog 46 #[.slice a N c] w fun e w' =>
      e = .returned (.tuple #[.int .i64 (Num.chkV N n X Y K).1, .int .i64 (Num.chkV N n X Y K).2.1, .int .i64 (Num.chkV N n X Y K).2.2]) ∧ Below w.heap.size w w' := by
  have HN := hide hn
  have HO := hide ho
  clear hn ho
  go_enter Try.func46, Try.ntmps46
  go_wp2_with fail
  go_loop [5, 6] (fun s i => ∃ k : Nat, k ≤ N ∧ i = .int .i64 k ∧ s = .int .i64 (Num.sumN n k)) (fun _ i => N - (intOf i).toNat)
  case atStart => exact ⟨0, by omega, rfl, by simp [Num.sumN]⟩
  case round =>
    obtain ⟨k, hk, rfl, rfl⟩ := hrel
    have hmono := Num.sumN_mono n hk
    by_cases hlt : k < N
    · rcases HO.out.1 with h | ⟨b, off, rfl, hc⟩
      · omega
      have ci := hc k hlt
      have hnk := HN.out k hlt
      have HS := hide (show Num.sumN n (k + 1) = Num.sumN n k + n k from rfl)
      clear hc
      go_wp2
      go_round
      case rel => exact ⟨k + 1, by omega, by go_num, by rw [HS.out]; go_num⟩
      case measure => simp [intOf]; omega
    have e : k = N := by omega
    subst e
    clear hlt hk hmono
    cases hm : Num.manyB k n
    · have h16 : k ≤ 16 := by simp [Num.manyB] at hm; omega
      have h200 : Num.sumN n k ≤ 200 := by simp [Num.manyB] at hm; omega
      go_wp2_with fail
      go_loopw [7] (fun i wr => ∃ j : Nat, j ≤ k ∧ i = .int .i64 j ∧ Below w.heap.size w wr ∧ ∀ q, q < j → Num.shapeAt n K q = false) (fun i _ => k - (intOf i).toNat)
      case atStart => exact ⟨0, by omega, rfl, Below.refl _ _, by omega⟩
      case round =>
        obtain ⟨j, hj, rfl, hb, hno⟩ := hrel
        have hsz := hb.size
        have HNo := hide hno
        clear hno
        have HO2 := hide (HO.out.below hb)
        by_cases hlt : j < k
        · rcases HO2.out.1 with h | ⟨b, off, rfl, hc⟩
          · omega
          have ci := hc j hlt
          clear hc
          go_wp2_with fail
          refine (refShape_any _ _ _ _ _ _ _ (HN.out j hlt) (HO2.out.2 j hlt)).mono ?_
          rintro e w1 ⟨rfl, hb1⟩
          have hb2 : Below w.heap.size w w1 := hb.trans (hb1.mono hsz)
          clear hb1
          cases hs : Num.shapeAt n K j
          · have hs' := shape_ge.1 hs
            have HS := hide hs
            clear hs
            go_wp2
            go_roundw
            case rel =>
              refine ⟨j + 1, by omega, by go_num, hb2, fun q hq => ?_⟩
              by_cases ej : q = j
              · subst ej; exact HS.out
              · exact HNo.out q (by omega)
            case measure => simp [intOf]; omega
          · have hs' := shape_ge.2 hs
            have HV := hide (Num.chk_shape k n X Y K hm j hlt hs HNo.out)
            clear hs
            go_wp2
            go_ret3
            rw [HV.out]
            exact ⟨rfl, hb2⟩
        have e : j = k := by omega
        subst e
        clear hlt hj
        go_wp2_with fail
        go_loopw [9] (fun i wr' => ∃ q : Nat, q ≤ j ∧ i = .int .i64 q ∧ Below w.heap.size w wr' ∧ ∀ t, t < q → Num.farAt n X Y t = false) (fun i _ => j - (intOf i).toNat)
        case atStart => exact ⟨0, by omega, rfl, hb, by omega⟩
        case round =>
          obtain ⟨q, hq, rfl, hb', hno'⟩ := hrel
          have hsz' := hb'.size
          have HNo' := hide hno'
          clear hno'
          by_cases hlt' : q < j
          · have hnq := HN.out q hlt'
            go_wp2_with fail
            go_loopw [10] (fun i wq => ∃ t : Nat, t ≤ n q ∧ i = .int .i64 t ∧ Below w.heap.size w wq ∧ ∀ u, u < t → Num.farB (X q) (Y q) u = false) (fun i _ => n q - (intOf i).toNat)
            case atStart => exact ⟨0, by omega, rfl, hb', by omega⟩
            case round =>
              obtain ⟨t, ht, rfl, hbq, hnoq⟩ := hrel
              have hszq := hbq.size
              have HNoq := hide hnoq
              clear hnoq
              have HO3 := hide (HO.out.below hbq)
              rcases HO3.out.1 with h | ⟨b, off, rfl, hc⟩
              · omega
              have ci := hc q hlt'
              clear hc
              by_cases hlq : t < n q
              · rcases HO3.out.2 q hlt' with h | ⟨b2, off2, ha, hc2⟩
                · omega
                rw [ha] at ci
                obtain ⟨d0, d1, d2⟩ := hc2 t hlq
                clear hc2 ha
                go_wp2_with fail
                refine (refFar_any _ _ _ _).mono ?_
                rintro e w1 ⟨rfl, hb1⟩
                have hb2 : Below w.heap.size w w1 := hbq.trans (hb1.mono hszq)
                clear hb1
                have hfb : (!(Num.wi (X q t) 4096 && Num.wi (Y q t) 4096)) = Num.farB (X q) (Y q) t := rfl
                rw [hfb]
                clear hfb
                cases hs : Num.farB (X q) (Y q) t
                · have HS := hide hs
                  clear hs
                  go_wp2
                  go_roundw
                  case rel =>
                    refine ⟨t + 1, by omega, by go_num, hb2, fun u hu => ?_⟩
                    by_cases ej : u = t
                    · subst ej; exact HS.out
                    · exact HNoq.out u (by omega)
                  case measure => simp [intOf]; omega
                · have hI : Num.farI (X q) (Y q) (n q) = t := Num.firstI_hit _ _ _ hlq hs HNoq.out
                  have hfa : Num.farAt n X Y q = true := by simp [Num.farAt, hI]
                  have HV := hide (Num.chk_far j n X Y K hm HNo.out q hlt' hfa HNo'.out)
                  have HI := hide hI
                  clear hs hI hfa
                  go_wp2
                  go_ret3
                  rw [HV.out, HI.out]
                  exact ⟨rfl, hb2⟩
              · have e : t = n q := by omega
                have hfa : Num.farAt n X Y q = false := by
                  have : Num.farI (X q) (Y q) (n q) = -1 := Num.firstI_none _ _ (by rw [← e]; exact HNoq.out)
                  simp [Num.farAt, this]
                have HF := hide hfa
                have htn : ¬ (t : Int) < (n q : Int) := by omega
                clear hfa e
                go_wp2
                go_roundw
                case rel =>
                  refine ⟨q + 1, by omega, by go_num, hbq, fun u hu => ?_⟩
                  by_cases ej : u = q
                  · subst ej; exact HF.out
                  · exact HNo'.out u (by omega)
                case measure => simp [intOf]; omega
          · have e : q = j := by omega
            subst e
            go_wp2
            go_ret3
            rw [Num.chk_ok q n X Y K hm HNo.out HNo'.out]
            exact ⟨rfl, hb'⟩
    · have HV := hide (Num.chk_many k n X Y K hm)
      have hor : 16 < k ∨ (k ≤ 16 ∧ 200 < Num.sumN n k) := by simp [Num.manyB] at hm; omega
      rcases hor with h | ⟨h, h'⟩
      all_goals
        go_wp2
        go_ret3
        rw [HV.out]
        exact ⟨rfl, Below.refl _ _⟩
end Go.Proofs.Ytkhcjkmifddlbaa
