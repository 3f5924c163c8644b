/- The program's Curve: what it calls. -/
import Derived.Test.YtkhcjkmifddlbabPlace
import Derived.Test.YtkhcjkmifddlbabChordB
namespace Go.Proofs.Ytkhcjkmifddlbab
open Go.RowKit

set_option maxHeartbeats 400000 in
theorem size_any (n : Int) (w : World) (h1 : -1000000 ≤ n) (h2 : n ≤ 1000000) :
    Calls Try.prog 80 #[.int .i64 n] w fun e w' => e = .returned (.int .i64 (Num.sz n)) ∧ w' = w := by
  by_cases a : n < 0
  · go_enter Try.func80, Try.ntmps80
    go_wp2
    go_ret
    exact ⟨ret_int (by unfold Num.sz; rw [if_pos (by omega)]), rfl⟩
  · go_enter Try.func80, Try.ntmps80
    go_wp2
    go_ret
    exact ⟨ret_int (by unfold Num.sz; rw [if_neg (by omega)]), rfl⟩

set_option maxHeartbeats 400000 in
theorem greater_any (a b : Int) (w : World) :
    Calls Try.prog 89 #[.int .i64 a, .int .i64 b] w fun e w' => e = .returned (.int .i64 (Num.gr a b)) ∧ w' = w := by
  by_cases h : b < a
  · go_enter Try.func89, Try.ntmps89
    go_wp2
    go_ret
    exact ⟨ret_int (by unfold Num.gr; rw [if_pos (by omega)]), rfl⟩
  · go_enter Try.func89, Try.ntmps89
    go_wp2
    go_ret
    exact ⟨ret_int (by unfold Num.gr; rw [if_neg (by omega)]), rfl⟩

set_option maxHeartbeats 400000 in
theorem bend_any (ax ay bx b2 cx cy : Int) (w : World) (h1 : -16384 ≤ ax ∧ ax ≤ 16384) (h2 : -16384 ≤ ay ∧ ay ≤ 16384) (h3 : -16384 ≤ bx ∧ bx ≤ 16384) (h4 : -16384 ≤ b2 ∧ b2 ≤ 16384) (h5 : -16384 ≤ cx ∧ cx ≤ 16384) (h6 : -16384 ≤ cy ∧ cy ≤ 16384) :
    Calls Try.prog 111 #[.agg #[.int .i64 ax, .int .i64 ay], .agg #[.int .i64 bx, .int .i64 b2], .agg #[.int .i64 cx, .int .i64 cy]] w fun e w' => e = .returned (.int .i64 (Num.bendV ax ay bx b2 cx cy)) ∧ Below w.heap.size w w' := by
  go_enter Try.func111, Try.ntmps111
  go_wp2_with (first | (go_at_call 80; refine (size_any _ _ (by omega) (by omega)).mono ?_; rintro e w' ⟨rfl, rfl⟩) | (go_at_call 89; refine (greater_any _ _ _).mono ?_; rintro e w' ⟨rfl, rfl⟩))
  go_ret
  exact ⟨rfl, by (repeat (any_goals (first | exact Below.refl _ _ | assumption | refine Below.drew ?_ | refine below_drewN ?_ _ | refine Below.setCell ?_ ?_ _ | refine Below.alloc ?_ ?_ _ | omega | (simp; done) | (simp; omega))))⟩

set_option maxHeartbeats 400000 in
theorem inRange_exact (x y : Int) (w : World) :
    Calls Try.prog 103 #[.agg #[.int .i64 x, .int .i64 y]] w fun e w' => e = .returned (.bool (Num.inB x y)) ∧ w' = w.alloc (.cells #[.int .i64 x, .int .i64 y] 53) := by
  go_enter Try.func103, Try.ntmps103
  go_wp2_with (go_at_call 86; refine (within_any _ _ _ (by omega) (by omega)).mono ?_; rintro e w' ⟨rfl, rfl⟩)
  all_goals
    go_ret
    exact ⟨ret_bool (by simp [Num.inB, *]), rfl⟩

set_option maxHeartbeats 1000000 in
theorem segRange_any (k x0 y0 x1 y1 x2 y2 x3 y3 : Int) (w : World) :
    Calls Try.prog 100 #[.agg #[.int .i64 k, .int .i64 x0, .int .i64 y0, .int .i64 x1, .int .i64 y1, .int .i64 x2, .int .i64 y2, .int .i64 x3, .int .i64 y3]] w fun e w' => e = .returned (.bool (Num.rangeB ⟨k, x0, y0, x1, y1, x2, y2, x3, y3⟩)) ∧ Below w.heap.size w w' := by
  by_cases h1 : k = 1
  · subst h1
    go_enter Try.func100, Try.ntmps100
    go_wp2_with (go_at_call 103; refine (inRange_exact _ _ _).mono ?_; rintro e w' ⟨rfl, rfl⟩)
    all_goals
      go_ret
      exact ⟨ret_bool (by simp [Num.rangeB, *]), by (repeat (any_goals (first | exact Below.refl _ _ | assumption | refine Below.drew ?_ | refine below_drewN ?_ _ | refine Below.setCell ?_ ?_ _ | refine Below.alloc ?_ ?_ _ | omega | (simp; done) | (simp; omega))))⟩
  · by_cases h2 : k = 2
    · subst h2
      go_enter Try.func100, Try.ntmps100
      go_wp2_with (go_at_call 103; refine (inRange_exact _ _ _).mono ?_; rintro e w' ⟨rfl, rfl⟩)
      all_goals
        go_ret
        exact ⟨ret_bool (by simp [Num.rangeB, *]), by (repeat (any_goals (first | exact Below.refl _ _ | assumption | refine Below.drew ?_ | refine below_drewN ?_ _ | refine Below.setCell ?_ ?_ _ | refine Below.alloc ?_ ?_ _ | omega | (simp; done) | (simp; omega))))⟩
    · have b1 : (k == 1) = false := by simpa using h1
      have b2 : (k == 2) = false := by simpa using h2
      go_enter Try.func100, Try.ntmps100
      go_wp2_with (go_at_call 103; refine (inRange_exact _ _ _).mono ?_; rintro e w' ⟨rfl, rfl⟩)
      all_goals
        go_ret
        exact ⟨ret_bool (by simp [Num.rangeB, *]), by (repeat (any_goals (first | exact Below.refl _ _ | assumption | refine Below.drew ?_ | refine below_drewN ?_ _ | refine Below.setCell ?_ ?_ _ | refine Below.alloc ?_ ?_ _ | omega | (simp; done) | (simp; omega))))⟩

set_option maxHeartbeats 400000 in
theorem quadAt_any (a b c i n : Int) (w : World) (ha : -16384 ≤ a ∧ a ≤ 16384) (hb : -16384 ≤ b ∧ b ≤ 16384) (hc : -16384 ≤ c ∧ c ≤ 16384) (hi : 0 ≤ i) (hin : i ≤ n) (h1 : 1 ≤ n) (hn : n ≤ 111) :
    Calls Try.prog 112 #[.int .i64 a, .int .i64 b, .int .i64 c, .int .i64 i, .int .i64 n] w fun e w' => e = .returned (.int .i64 (Num.hu (Num.qSum (n - i) i a b c) (n * n))) ∧ w' = w := by
  have k0 : -111 ≤ n - i ∧ n - i ≤ 111 := by omega
  have i0 : -111 ≤ i ∧ i ≤ 111 := by omega
  have n0 : -111 ≤ n ∧ n ≤ 111 := by omega
  have m1 := Num.mul_bd (n - i) (n - i) _ _ k0 k0
  have m2 := Num.mul3_bd k0 k0 ha
  have m3 := Num.mul3_bd (a := 2 * i) (A := 222) (by omega) k0 hb
  have m4 := Num.mul_bd (2 * i) (n - i) 222 _ (by omega) k0
  have m5 := Num.mul_bd i i _ _ i0 i0
  have m6 := Num.mul3_bd i0 i0 hc
  have m7 := Num.mul_bd n n _ _ n0 n0
  have m8 : 1 ≤ n * n := by have := Int.mul_le_mul h1 h1 (by omega) (by omega); omega
  clear k0 i0 n0
  go_enter Try.func112, Try.ntmps112
  go_wp2_with (go_at_call 81; refine (halfUp_any _ _ _ (by omega) (by omega) (by omega) (by omega)).mono ?_; rintro e w' ⟨rfl, rfl⟩)
  go_ret
  exact ⟨rfl, rfl⟩

set_option maxHeartbeats 400000 in
theorem cubicAt_any (a b c d i n : Int) (w : World) (ha : -16384 ≤ a ∧ a ≤ 16384) (hb : -16384 ≤ b ∧ b ≤ 16384) (hc : -16384 ≤ c ∧ c ≤ 16384) (hd : -16384 ≤ d ∧ d ≤ 16384) (hi : 0 ≤ i) (hin : i ≤ n) (h1 : 1 ≤ n) (hn : n ≤ 111) :
    Calls Try.prog 113 #[.int .i64 a, .int .i64 b, .int .i64 c, .int .i64 d, .int .i64 i, .int .i64 n] w fun e w' => e = .returned (.int .i64 (Num.hu (Num.cSum (n - i) i a b c d) (n * n * n))) ∧ w' = w := by
  have k0 : -111 ≤ n - i ∧ n - i ≤ 111 := by omega
  have i0 : -111 ≤ i ∧ i ≤ 111 := by omega
  have n0 : -111 ≤ n ∧ n ≤ 111 := by omega
  have j0 : -333 ≤ 3 * i ∧ 3 * i ≤ 333 := by omega
  have m1 := Num.mul_bd (n - i) (n - i) _ _ k0 k0
  have m2 := Num.mul3_bd k0 k0 k0
  have m3 := Num.mul4_bd k0 k0 k0 ha
  have m4 := Num.mul_bd (3 * i) (n - i) _ _ j0 k0
  have m5 := Num.mul3_bd j0 k0 k0
  have m6 := Num.mul4_bd j0 k0 k0 hb
  have m7 := Num.mul_bd (3 * i) i _ _ j0 i0
  have m8 := Num.mul3_bd j0 i0 k0
  have m9 := Num.mul4_bd j0 i0 k0 hc
  have p1 := Num.mul_bd i i _ _ i0 i0
  have p2 := Num.mul3_bd i0 i0 i0
  have p3 := Num.mul4_bd i0 i0 i0 hd
  have p4 := Num.mul_bd n n _ _ n0 n0
  have p5 := Num.mul3_bd n0 n0 n0
  have p6 : 1 ≤ n * n := by have := Int.mul_le_mul h1 h1 (by omega) (by omega); omega
  have p7 : 1 ≤ n * n * n := by have := Int.mul_le_mul p6 h1 (by omega) (by omega); omega
  have HS : Hid ((n - i) * (n - i) * (n - i) * a + 3 * i * (n - i) * (n - i) * b + (3 * i * i * (n - i) * c + i * i * i * d) = Num.cSum (n - i) i a b c d) := by unfold Hid Num.cSum; omega
  clear k0 i0 n0 j0
  go_enter Try.func113, Try.ntmps113
  go_wp2_with (go_at_call 81; refine (halfUp_any _ _ _ (by omega) (by omega) (by omega) (by omega)).mono ?_; rintro e w' ⟨rfl, rfl⟩)
  go_ret
  exact ⟨ret_int (by rw [HS.out]), rfl⟩

/-- The loop of chords. -/
theorem steps_round {d q S : Int} (h : Num.IsSteps d S) (h1 : 1 ≤ q) (h2 : q ≤ S) : (16 * q * q < d → q + 1 ≤ S) ∧ (¬ 16 * q * q < d → q = S) := by
  constructor
  · intro h3
    rcases Int.lt_or_le q S with h4 | h4
    · omega
    · have : q = S := by omega
      subst this
      have := h.2.1
      omega
  · intro h3
    rcases Int.lt_or_le q S with h4 | h4
    · have := h.2.2 q h1 h4; omega
    · omega
end Go.Proofs.Ytkhcjkmifddlbab
