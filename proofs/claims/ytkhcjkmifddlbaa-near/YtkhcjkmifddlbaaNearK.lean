/- What Near calls. -/
import Derived.Test.YtkhcjkmifddlbaaCrvP
import Derived.Test.YtkhcjkmifddlbaaNearV
namespace Go.Proofs.Ytkhcjkmifddlbaa
open Go.RowKit Go.Deep

set_option maxHeartbeats 400000 in
theorem keepSize_any (n : Int) (w : World) (h1 : -1000000000000000 ≤ n) (h2 : n ≤ 1000000000000000) :
    Calls Try.prog 70 #[.int .i64 n] w fun e w' => e = .returned (.int .i64 (Num.sz n)) ∧ w' = w := by
  by_cases a : n < 0
  · go_enter Try.func70, Try.ntmps70
    go_wp2
    go_ret
    exact ⟨ret_int (by unfold Num.sz; rw [if_pos (by omega)]), rfl⟩
  · go_enter Try.func70, Try.ntmps70
    go_wp2
    go_ret
    exact ⟨ret_int (by unfold Num.sz; rw [if_neg (by omega)]), rfl⟩

/-- Which of three. -/
def pick3 (c : Int) : Int := if c < 0 then (-(c + 1)).tmod 3 else c.tmod 3
theorem pick3_in (c : Int) : pick3 c = 0 ∨ pick3 c = 1 ∨ pick3 c = 2 := by
  unfold pick3
  split
  · obtain ⟨_, _, h2, h3, _⟩ := Num.tdiv_facts (-(c + 1)) 3 (by omega)
    have := h3 (by omega); omega
  · obtain ⟨_, _, h2, h3, _⟩ := Num.tdiv_facts c 3 (by omega)
    have := h3 (by omega); omega
set_option maxHeartbeats 400000 in
theorem keepPick_any (c : Int) (w : World) (h1 : -9223372036854775808 ≤ c) (h2 : c ≤ 9223372036854775807) :
    Calls Try.prog 21 #[.int .i64 c, .int .i64 3] w fun e w' => e = .returned (.int .i64 (pick3 c)) ∧ w' = w := by
  by_cases a : c < 0
  · obtain ⟨_, t1, t2, _, _⟩ := Num.tdiv_facts (-(c + 1)) 3 (by omega)
    go_enter Try.func21, Try.ntmps21
    go_wp2
    go_ret
    exact ⟨ret_int (by unfold pick3; rw [if_pos (by omega)]; first | rfl | rw [Int.neg_tmod]), rfl⟩
  · obtain ⟨_, t1, t2, _, _⟩ := Num.tdiv_facts c 3 (by omega)
    go_enter Try.func21, Try.ntmps21
    go_wp2
    go_ret
    exact ⟨ret_int (by unfold pick3; rw [if_neg (by omega)]; first | rfl | rw [Int.tmod_eq_emod_of_nonneg (by omega)]), rfl⟩

def nearN (c : Int) : Int := c.tmod 16385
theorem nearN_in (c : Int) : -16384 ≤ nearN c ∧ nearN c ≤ 16384 := by
  obtain ⟨_, h1, h2, _, _⟩ := Num.tdiv_facts c 16385 (by omega)
  unfold nearN; omega
set_option maxHeartbeats 400000 in
theorem keepNear_any (c : Int) (w : World) :
    Calls Try.prog 20 #[.int .i64 c, .int .i64 16384] w fun e w' => e = .returned (.int .i64 (nearN c)) ∧ w' = w := by
  obtain ⟨h1, h2⟩ := nearN_in c
  have HE : Hid (nearN c = c.tmod 16385) := rfl
  have e1 : -16384 ≤ c.tmod 16385 := h1
  have e2 : c.tmod 16385 ≤ 16384 := h2
  go_enter Try.func20, Try.ntmps20
  go_wp2
  go_ret
  exact ⟨ret_int HE.out.symm, rfl⟩

theorem sum_bd {s d B : Int} (hd : 1 ≤ d) (h1 : -B ≤ s * d) (h2 : s * d ≤ B) : -B ≤ s ∧ s ≤ B := by
  rcases Int.lt_or_le s 0 with h | h
  · have := Int.mul_le_mul_of_nonneg_left hd (show 0 ≤ -s by omega)
    rw [Int.mul_one, Int.neg_mul] at this
    omega
  · have := Int.mul_le_mul_of_nonneg_left hd h
    rw [Int.mul_one] at this
    omega

set_option maxHeartbeats 400000 in
theorem tight_any (ax ay bx b2 x y d : Int) (w : World) (hd1 : 1 ≤ d) (hd2 : d ≤ 1000000000) (hx : -10000000000000 ≤ x ∧ x ≤ 10000000000000) (hy : -10000000000000 ≤ y ∧ y ≤ 10000000000000)
    (tx : -(9 * d) ≤ 2 * x - (ax + bx) * d ∧ 2 * x - (ax + bx) * d ≤ 9 * d) (ty : -(9 * d) ≤ 2 * y - (ay + b2) * d ∧ 2 * y - (ay + b2) * d ≤ 9 * d) :
    Calls Try.prog 24 #[.agg #[.int .i64 ax, .int .i64 ay], .agg #[.int .i64 bx, .int .i64 b2], .int .i64 x, .int .i64 y, .int .i64 d] w fun e w' => e = .returned (.bool true) ∧ w' = (w.alloc (.cells #[.int .i64 ax, .int .i64 ay] 41)).alloc (.cells #[.int .i64 bx, .int .i64 b2] 41) := by
  have s1 := sum_bd (s := ax + bx) (d := d) (B := 40000000000000) hd1 (by omega) (by omega)
  have s2 := sum_bd (s := ay + b2) (d := d) (B := 40000000000000) hd1 (by omega) (by omega)
  have q1 : -40000000000000 ≤ (ax + bx) * d ∧ (ax + bx) * d ≤ 40000000000000 := by omega
  have q2 : -40000000000000 ≤ (ay + b2) * d ∧ (ay + b2) * d ≤ 40000000000000 := by omega
  have z1 := Num.sz_bd tx.1 tx.2
  have z2 := Num.sz_bd ty.1 ty.2
  have d1 : decide (Num.sz (2 * x - (ax + bx) * d) ≤ 9 * d) = true := by simp; omega
  have d2 : decide (Num.sz (2 * y - (ay + b2) * d) ≤ 9 * d) = true := by simp; omega
  go_enter Try.func24, Try.ntmps24
  go_wp2_with (go_at_call 70; refine (keepSize_any _ _ (by omega) (by omega)).mono ?_; rintro e w' ⟨rfl, rfl⟩)
  go_ret
  exact ⟨rfl, rfl⟩

set_option maxRecDepth 100000 in
set_option maxHeartbeats 1000000 in
theorem halfway0 (x0 y0 x1 y1 x2 y2 x3 y3 i n : Int) (w : World) (bx0 : -16384 ≤ x0 ∧ x0 ≤ 16384) (by0 : -16384 ≤ y0 ∧ y0 ≤ 16384) (bx3 : -16384 ≤ x3 ∧ x3 ≤ 16384) (by3 : -16384 ≤ y3 ∧ y3 ≤ 16384) (hi : 0 ≤ i) (hin : i < n) (hn : n ≤ 111) :
    Calls Try.prog 23 #[.agg #[.int .i64 0, .int .i64 x0, .int .i64 y0, .int .i64 x1, .int .i64 y1, .int .i64 x2, .int .i64 y2, .int .i64 x3, .int .i64 y3], .int .i64 i, .int .i64 n] w fun e w' => e = .returned (.tuple #[.int .i64 (Num.halfN (⟨0, x0, y0, x1, y1, x2, y2, x3, y3⟩ : Num.Sg) i n x0 x1 x2 x3), .int .i64 (Num.halfN (⟨0, x0, y0, x1, y1, x2, y2, x3, y3⟩ : Num.Sg) i n y0 y1 y2 y3), .int .i64 (Num.halfD (⟨0, x0, y0, x1, y1, x2, y2, x3, y3⟩ : Num.Sg) n)]) ∧ w' = w.alloc (.cells #[.int .i64 0, .int .i64 x0, .int .i64 y0, .int .i64 x1, .int .i64 y1, .int .i64 x2, .int .i64 y2, .int .i64 x3, .int .i64 y3] 44) := by
  have HX : Hid (Num.halfN (⟨0, x0, y0, x1, y1, x2, y2, x3, y3⟩ : Num.Sg) i n x0 x1 x2 x3 = ((2 * n - (2 * i + 1)) * x0 + (2 * i + 1) * x3)) := by unfold Hid Num.halfN; rw [if_neg (by show ¬ (0 : Int) = 1; decide), if_neg (by show ¬ (0 : Int) = 2; decide)]
  have HY : Hid (Num.halfN (⟨0, x0, y0, x1, y1, x2, y2, x3, y3⟩ : Num.Sg) i n y0 y1 y2 y3 = ((2 * n - (2 * i + 1)) * y0 + (2 * i + 1) * y3)) := by unfold Hid Num.halfN; rw [if_neg (by show ¬ (0 : Int) = 1; decide), if_neg (by show ¬ (0 : Int) = 2; decide)]
  have HD : Hid (Num.halfD (⟨0, x0, y0, x1, y1, x2, y2, x3, y3⟩ : Num.Sg) n = 2 * n) := by unfold Hid Num.halfD; rw [if_neg (by show ¬ (0 : Int) = 1; decide), if_neg (by show ¬ (0 : Int) = 2; decide)]
  rw [HX.out, HY.out, HD.out]
  have r0 : -222 ≤ 2 * n - (2 * i + 1) ∧ 2 * n - (2 * i + 1) ≤ 222 := by omega
  have k0 : -222 ≤ 2 * i + 1 ∧ 2 * i + 1 ≤ 222 := by omega
  have n0 : -111 ≤ n ∧ n ≤ 111 := by omega
  have m1 := Num.mul_bd _ _ _ _ r0 bx0
  have m1' := Num.mul_bd _ _ _ _ r0 by0
  have m2 := Num.mul_bd _ _ _ _ k0 bx3
  have m2' := Num.mul_bd _ _ _ _ k0 by3
  clear r0 k0 n0
  go_enter Try.func23, Try.ntmps23
  go_wp2
  go_ret3
  exact ⟨rfl, rfl⟩

set_option maxRecDepth 100000 in
set_option maxHeartbeats 1000000 in
theorem halfway1 (x0 y0 x1 y1 x2 y2 x3 y3 i n : Int) (w : World) (bx0 : -16384 ≤ x0 ∧ x0 ≤ 16384) (by0 : -16384 ≤ y0 ∧ y0 ≤ 16384) (bx1 : -16384 ≤ x1 ∧ x1 ≤ 16384) (by1 : -16384 ≤ y1 ∧ y1 ≤ 16384) (bx3 : -16384 ≤ x3 ∧ x3 ≤ 16384) (by3 : -16384 ≤ y3 ∧ y3 ≤ 16384) (hi : 0 ≤ i) (hin : i < n) (hn : n ≤ 111) :
    Calls Try.prog 23 #[.agg #[.int .i64 1, .int .i64 x0, .int .i64 y0, .int .i64 x1, .int .i64 y1, .int .i64 x2, .int .i64 y2, .int .i64 x3, .int .i64 y3], .int .i64 i, .int .i64 n] w fun e w' => e = .returned (.tuple #[.int .i64 (Num.halfN (⟨1, x0, y0, x1, y1, x2, y2, x3, y3⟩ : Num.Sg) i n x0 x1 x2 x3), .int .i64 (Num.halfN (⟨1, x0, y0, x1, y1, x2, y2, x3, y3⟩ : Num.Sg) i n y0 y1 y2 y3), .int .i64 (Num.halfD (⟨1, x0, y0, x1, y1, x2, y2, x3, y3⟩ : Num.Sg) n)]) ∧ w' = w.alloc (.cells #[.int .i64 1, .int .i64 x0, .int .i64 y0, .int .i64 x1, .int .i64 y1, .int .i64 x2, .int .i64 y2, .int .i64 x3, .int .i64 y3] 44) := by
  have HX : Hid (Num.halfN (⟨1, x0, y0, x1, y1, x2, y2, x3, y3⟩ : Num.Sg) i n x0 x1 x2 x3 = Num.qSum (2 * n - (2 * i + 1)) (2 * i + 1) x0 x1 x3) := by unfold Hid Num.halfN; rw [if_pos rfl]
  have HY : Hid (Num.halfN (⟨1, x0, y0, x1, y1, x2, y2, x3, y3⟩ : Num.Sg) i n y0 y1 y2 y3 = Num.qSum (2 * n - (2 * i + 1)) (2 * i + 1) y0 y1 y3) := by unfold Hid Num.halfN; rw [if_pos rfl]
  have HD : Hid (Num.halfD (⟨1, x0, y0, x1, y1, x2, y2, x3, y3⟩ : Num.Sg) n = 4 * n * n) := by unfold Hid Num.halfD; rw [if_pos rfl]
  rw [HX.out, HY.out, HD.out]
  have r0 : -222 ≤ 2 * n - (2 * i + 1) ∧ 2 * n - (2 * i + 1) ≤ 222 := by omega
  have k0 : -222 ≤ 2 * i + 1 ∧ 2 * i + 1 ≤ 222 := by omega
  have n0 : -111 ≤ n ∧ n ≤ 111 := by omega
  have j0 : -444 ≤ 2 * (2 * i + 1) ∧ 2 * (2 * i + 1) ≤ 444 := by omega
  have v0 : -444 ≤ 4 * n ∧ 4 * n ≤ 444 := by omega
  have m1 := Num.mul_bd _ _ _ _ r0 r0
  have m2 := Num.mul3_bd r0 r0 bx0
  have m2' := Num.mul3_bd r0 r0 by0
  have m3 := Num.mul_bd _ _ _ _ j0 r0
  have m4 := Num.mul3_bd j0 r0 bx1
  have m4' := Num.mul3_bd j0 r0 by1
  have m5 := Num.mul_bd _ _ _ _ k0 k0
  have m6 := Num.mul3_bd k0 k0 bx3
  have m6' := Num.mul3_bd k0 k0 by3
  have m7 := Num.mul_bd _ _ _ _ v0 n0
  clear r0 k0 n0 j0 v0
  go_enter Try.func23, Try.ntmps23
  go_wp2
  go_ret3
  exact ⟨rfl, rfl⟩

set_option maxRecDepth 100000 in
set_option maxHeartbeats 1000000 in
theorem halfway2 (x0 y0 x1 y1 x2 y2 x3 y3 i n : Int) (w : World) (bx0 : -16384 ≤ x0 ∧ x0 ≤ 16384) (by0 : -16384 ≤ y0 ∧ y0 ≤ 16384) (bx1 : -16384 ≤ x1 ∧ x1 ≤ 16384) (by1 : -16384 ≤ y1 ∧ y1 ≤ 16384) (bx2 : -16384 ≤ x2 ∧ x2 ≤ 16384) (by2 : -16384 ≤ y2 ∧ y2 ≤ 16384) (bx3 : -16384 ≤ x3 ∧ x3 ≤ 16384) (by3 : -16384 ≤ y3 ∧ y3 ≤ 16384) (hi : 0 ≤ i) (hin : i < n) (hn : n ≤ 111) :
    Calls Try.prog 23 #[.agg #[.int .i64 2, .int .i64 x0, .int .i64 y0, .int .i64 x1, .int .i64 y1, .int .i64 x2, .int .i64 y2, .int .i64 x3, .int .i64 y3], .int .i64 i, .int .i64 n] w fun e w' => e = .returned (.tuple #[.int .i64 (Num.halfN (⟨2, x0, y0, x1, y1, x2, y2, x3, y3⟩ : Num.Sg) i n x0 x1 x2 x3), .int .i64 (Num.halfN (⟨2, x0, y0, x1, y1, x2, y2, x3, y3⟩ : Num.Sg) i n y0 y1 y2 y3), .int .i64 (Num.halfD (⟨2, x0, y0, x1, y1, x2, y2, x3, y3⟩ : Num.Sg) n)]) ∧ w' = w.alloc (.cells #[.int .i64 2, .int .i64 x0, .int .i64 y0, .int .i64 x1, .int .i64 y1, .int .i64 x2, .int .i64 y2, .int .i64 x3, .int .i64 y3] 44) := by
  have HX : Hid (Num.halfN (⟨2, x0, y0, x1, y1, x2, y2, x3, y3⟩ : Num.Sg) i n x0 x1 x2 x3 = Num.cSum (2 * n - (2 * i + 1)) (2 * i + 1) x0 x1 x2 x3) := by unfold Hid Num.halfN; rw [if_neg (by show ¬ (2 : Int) = 1; decide), if_pos rfl]
  have HY : Hid (Num.halfN (⟨2, x0, y0, x1, y1, x2, y2, x3, y3⟩ : Num.Sg) i n y0 y1 y2 y3 = Num.cSum (2 * n - (2 * i + 1)) (2 * i + 1) y0 y1 y2 y3) := by unfold Hid Num.halfN; rw [if_neg (by show ¬ (2 : Int) = 1; decide), if_pos rfl]
  have HD : Hid (Num.halfD (⟨2, x0, y0, x1, y1, x2, y2, x3, y3⟩ : Num.Sg) n = 8 * n * n * n) := by unfold Hid Num.halfD; rw [if_neg (by show ¬ (2 : Int) = 1; decide), if_pos rfl]
  rw [HX.out, HY.out, HD.out]
  have r0 : -222 ≤ 2 * n - (2 * i + 1) ∧ 2 * n - (2 * i + 1) ≤ 222 := by omega
  have k0 : -222 ≤ 2 * i + 1 ∧ 2 * i + 1 ≤ 222 := by omega
  have n0 : -111 ≤ n ∧ n ≤ 111 := by omega
  have j0 : -666 ≤ 3 * (2 * i + 1) ∧ 3 * (2 * i + 1) ≤ 666 := by omega
  have v0 : -888 ≤ 8 * n ∧ 8 * n ≤ 888 := by omega
  have m1 := Num.mul_bd _ _ _ _ r0 r0
  have m2 := Num.mul3_bd r0 r0 r0
  have m3 := Num.mul4_bd r0 r0 r0 bx0
  have m3' := Num.mul4_bd r0 r0 r0 by0
  have m4 := Num.mul_bd _ _ _ _ j0 r0
  have m5 := Num.mul3_bd j0 r0 r0
  have m6 := Num.mul4_bd j0 r0 r0 bx1
  have m6' := Num.mul4_bd j0 r0 r0 by1
  have m7 := Num.mul_bd _ _ _ _ j0 k0
  have m8 := Num.mul3_bd j0 k0 r0
  have m9 := Num.mul4_bd j0 k0 r0 bx2
  have m9' := Num.mul4_bd j0 k0 r0 by2
  have p1 := Num.mul_bd _ _ _ _ k0 k0
  have p2 := Num.mul3_bd k0 k0 k0
  have p3 := Num.mul4_bd k0 k0 k0 bx3
  have p3' := Num.mul4_bd k0 k0 k0 by3
  have p4 := Num.mul_bd _ _ _ _ v0 n0
  have p5 := Num.mul3_bd v0 n0 n0
  clear r0 k0 n0 j0 v0
  go_enter Try.func23, Try.ntmps23
  go_wp2
  go_ret3
  exact ⟨rfl, rfl⟩

theorem half_bd {k x0 y0 x1 y1 x2 y2 x3 y3 i n : Int} (bx0 : -16384 ≤ x0 ∧ x0 ≤ 16384) (by0 : -16384 ≤ y0 ∧ y0 ≤ 16384) (bx1 : -16384 ≤ x1 ∧ x1 ≤ 16384) (by1 : -16384 ≤ y1 ∧ y1 ≤ 16384) (bx2 : -16384 ≤ x2 ∧ x2 ≤ 16384) (by2 : -16384 ≤ y2 ∧ y2 ≤ 16384) (bx3 : -16384 ≤ x3 ∧ x3 ≤ 16384) (by3 : -16384 ≤ y3 ∧ y3 ≤ 16384) (hk : k = 0 ∨ k = 1 ∨ k = 2) (hi : 0 ≤ i) (hin : i < n) (hn : n ≤ 111) :
    (-10000000000000 ≤ Num.halfN (⟨k, x0, y0, x1, y1, x2, y2, x3, y3⟩ : Num.Sg) i n x0 x1 x2 x3 ∧ Num.halfN (⟨k, x0, y0, x1, y1, x2, y2, x3, y3⟩ : Num.Sg) i n x0 x1 x2 x3 ≤ 10000000000000) ∧ (-10000000000000 ≤ Num.halfN (⟨k, x0, y0, x1, y1, x2, y2, x3, y3⟩ : Num.Sg) i n y0 y1 y2 y3 ∧ Num.halfN (⟨k, x0, y0, x1, y1, x2, y2, x3, y3⟩ : Num.Sg) i n y0 y1 y2 y3 ≤ 10000000000000) ∧ 1 ≤ Num.halfD (⟨k, x0, y0, x1, y1, x2, y2, x3, y3⟩ : Num.Sg) n ∧ Num.halfD (⟨k, x0, y0, x1, y1, x2, y2, x3, y3⟩ : Num.Sg) n ≤ 1000000000 := by
  have w1 : 1 ≤ n * n := by have := Int.mul_le_mul (show 1 ≤ n by omega) (show 1 ≤ n by omega) (by omega) (by omega); omega
  have w2 : 1 ≤ n * n * n := by have := Int.mul_le_mul w1 (show 1 ≤ n by omega) (by omega) (by omega); omega
  have w3 : 4 * n * n = 4 * (n * n) := Int.mul_assoc _ _ _
  have w4 : 8 * n * n * n = 8 * (n * n * n) := by simp only [Int.mul_assoc]
  rcases hk with rfl | rfl | rfl
  · have r0 : -222 ≤ 2 * n - (2 * i + 1) ∧ 2 * n - (2 * i + 1) ≤ 222 := by omega
    have k0 : -222 ≤ 2 * i + 1 ∧ 2 * i + 1 ≤ 222 := by omega
    have n0 : -111 ≤ n ∧ n ≤ 111 := by omega
    have m1 := Num.mul_bd _ _ _ _ r0 bx0
    have m1' := Num.mul_bd _ _ _ _ r0 by0
    have m2 := Num.mul_bd _ _ _ _ k0 bx3
    have m2' := Num.mul_bd _ _ _ _ k0 by3
    clear r0 k0 n0
    simp only [Num.halfN, Num.halfD, show ¬ (0 : Int) = 1 by decide, show ¬ (0 : Int) = 2 by decide, if_neg, not_false_eq_true]
    omega
  · have r0 : -222 ≤ 2 * n - (2 * i + 1) ∧ 2 * n - (2 * i + 1) ≤ 222 := by omega
    have k0 : -222 ≤ 2 * i + 1 ∧ 2 * i + 1 ≤ 222 := by omega
    have n0 : -111 ≤ n ∧ n ≤ 111 := by omega
    have j0 : -444 ≤ 2 * (2 * i + 1) ∧ 2 * (2 * i + 1) ≤ 444 := by omega
    have v0 : -444 ≤ 4 * n ∧ 4 * n ≤ 444 := by omega
    have m1 := Num.mul_bd _ _ _ _ r0 r0
    have m2 := Num.mul3_bd r0 r0 bx0
    have m2' := Num.mul3_bd r0 r0 by0
    have m3 := Num.mul_bd _ _ _ _ j0 r0
    have m4 := Num.mul3_bd j0 r0 bx1
    have m4' := Num.mul3_bd j0 r0 by1
    have m5 := Num.mul_bd _ _ _ _ k0 k0
    have m6 := Num.mul3_bd k0 k0 bx3
    have m6' := Num.mul3_bd k0 k0 by3
    have m7 := Num.mul_bd _ _ _ _ v0 n0
    clear r0 k0 n0 j0 v0
    simp only [Num.halfN, Num.halfD, if_pos]
    unfold Num.qSum
    omega
  · have r0 : -222 ≤ 2 * n - (2 * i + 1) ∧ 2 * n - (2 * i + 1) ≤ 222 := by omega
    have k0 : -222 ≤ 2 * i + 1 ∧ 2 * i + 1 ≤ 222 := by omega
    have n0 : -111 ≤ n ∧ n ≤ 111 := by omega
    have j0 : -666 ≤ 3 * (2 * i + 1) ∧ 3 * (2 * i + 1) ≤ 666 := by omega
    have v0 : -888 ≤ 8 * n ∧ 8 * n ≤ 888 := by omega
    have m1 := Num.mul_bd _ _ _ _ r0 r0
    have m2 := Num.mul3_bd r0 r0 r0
    have m3 := Num.mul4_bd r0 r0 r0 bx0
    have m3' := Num.mul4_bd r0 r0 r0 by0
    have m4 := Num.mul_bd _ _ _ _ j0 r0
    have m5 := Num.mul3_bd j0 r0 r0
    have m6 := Num.mul4_bd j0 r0 r0 bx1
    have m6' := Num.mul4_bd j0 r0 r0 by1
    have m7 := Num.mul_bd _ _ _ _ j0 k0
    have m8 := Num.mul3_bd j0 k0 r0
    have m9 := Num.mul4_bd j0 k0 r0 bx2
    have m9' := Num.mul4_bd j0 k0 r0 by2
    have p1 := Num.mul_bd _ _ _ _ k0 k0
    have p2 := Num.mul3_bd k0 k0 k0
    have p3 := Num.mul4_bd k0 k0 k0 bx3
    have p3' := Num.mul4_bd k0 k0 k0 by3
    have p4 := Num.mul_bd _ _ _ _ v0 n0
    have p5 := Num.mul3_bd v0 n0 n0
    clear r0 k0 n0 j0 v0
    simp only [Num.halfN, Num.halfD, show ¬ (2 : Int) = 1 by decide, if_neg, if_pos, not_false_eq_true]
    unfold Num.cSum
    omega

theorem halfway_any (k x0 y0 x1 y1 x2 y2 x3 y3 i n : Int) (w : World) (bx0 : -16384 ≤ x0 ∧ x0 ≤ 16384) (by0 : -16384 ≤ y0 ∧ y0 ≤ 16384) (bx1 : -16384 ≤ x1 ∧ x1 ≤ 16384) (by1 : -16384 ≤ y1 ∧ y1 ≤ 16384) (bx2 : -16384 ≤ x2 ∧ x2 ≤ 16384) (by2 : -16384 ≤ y2 ∧ y2 ≤ 16384) (bx3 : -16384 ≤ x3 ∧ x3 ≤ 16384) (by3 : -16384 ≤ y3 ∧ y3 ≤ 16384) (hk : k = 0 ∨ k = 1 ∨ k = 2) (hi : 0 ≤ i) (hin : i < n) (hn : n ≤ 111) :
    Calls Try.prog 23 #[.agg #[.int .i64 k, .int .i64 x0, .int .i64 y0, .int .i64 x1, .int .i64 y1, .int .i64 x2, .int .i64 y2, .int .i64 x3, .int .i64 y3], .int .i64 i, .int .i64 n] w fun e w' => e = .returned (.tuple #[.int .i64 (Num.halfN (⟨k, x0, y0, x1, y1, x2, y2, x3, y3⟩ : Num.Sg) i n x0 x1 x2 x3), .int .i64 (Num.halfN (⟨k, x0, y0, x1, y1, x2, y2, x3, y3⟩ : Num.Sg) i n y0 y1 y2 y3), .int .i64 (Num.halfD (⟨k, x0, y0, x1, y1, x2, y2, x3, y3⟩ : Num.Sg) n)]) ∧ w' = w.alloc (.cells #[.int .i64 k, .int .i64 x0, .int .i64 y0, .int .i64 x1, .int .i64 y1, .int .i64 x2, .int .i64 y2, .int .i64 x3, .int .i64 y3] 44) := by
  rcases hk with rfl | rfl | rfl
  · exact halfway0 _ _ _ _ _ _ _ _ _ _ _ bx0 by0 bx3 by3 hi hin hn
  · exact halfway1 _ _ _ _ _ _ _ _ _ _ _ bx0 by0 bx1 by1 bx3 by3 hi hin hn
  · exact halfway2 _ _ _ _ _ _ _ _ _ _ _ bx0 by0 bx1 by1 bx2 by2 bx3 by3 hi hin hn
end Go.Proofs.Ytkhcjkmifddlbaa
