/- The document's Lay: its parts. -/
import Derived.Test.YtkhcjkmifddlbabLayV
import Derived.Test.YtkhcjkmifddlbabHeldY
import Derived.Test.YtkhcjkmifddlbabCrv
namespace Go.Proofs.Ytkhcjkmifddlbab
open Go.RowKit Go.Deep

set_option maxRecDepth 100000 in
set_option maxHeartbeats 1000000 in
theorem isGray_any (a : Option Addr) (n c : Nat) (W H : Int) (w : World) :
    Calls Try.prog 57 #[.agg #[.int .i64 W, .int .i64 H, .slice a n c]] w fun e w' => e = .returned (.bool (Num.picB W H n)) ∧ w' = w.alloc (.cells #[.int .i64 W, .int .i64 H, .slice a n c] 57) := by
  by_cases h1 : 1 ≤ W ∧ W ≤ 64
  · by_cases h2 : 1 ≤ H ∧ H ≤ 64
    · have hm : 0 ≤ W * H ∧ W * H ≤ 4096 := by
        have h3 : W * H ≤ 64 * 64 := Int.mul_le_mul h1.2 h2.2 (by omega) (by omega)
        have h4 : 0 ≤ W * H := Int.mul_nonneg (by omega) (by omega)
        omega
      have hw : IntKind.i64.wrap (W * H) = W * H := by rw [IntKind.wrap_i64]; omega
      have hq : Num.picB W H n = decide ((n : Int) = W * H) := by simp [Num.picB, h1, h2]
      rw [hq]
      clear hq
      go_enter Try.func57, Try.ntmps57
      go_wp2
      go_ret
      exact ⟨ret_bool (by first | rfl | (simp; done) | (rw [hw])), rfl⟩
    · have hq : Num.picB W H n = false := by simp [Num.picB]; omega
      rw [hq]
      clear hq
      by_cases h3 : 1 ≤ H
      · have h4 : ¬ H ≤ 64 := by omega
        clear h2
        go_enter Try.func57, Try.ntmps57
        go_wp2
        go_ret
        exact ⟨rfl, rfl⟩
      · clear h2
        go_enter Try.func57, Try.ntmps57
        go_wp2
        go_ret
        exact ⟨rfl, rfl⟩
  · have hq : Num.picB W H n = false := by simp [Num.picB]; omega
    rw [hq]
    clear hq
    by_cases h3 : 1 ≤ W
    · have h4 : ¬ W ≤ 64 := by omega
      clear h1
      go_enter Try.func57, Try.ntmps57
      go_wp2
      go_ret
      exact ⟨rfl, rfl⟩
    · clear h1
      go_enter Try.func57, Try.ntmps57
      go_wp2
      go_ret
      exact ⟨rfl, rfl⟩

/-- The place at which a column has the other's. -/
def liesV (v : Int) (n k : Nat) : Int := if Num.covB v n k = true then (k : Int) - v else -1

set_option maxHeartbeats 1000000 in
theorem refLies_any (k n : Nat) (v : Int) (w : World) (hk : k < 64) (hn : n ≤ 64) :
    Calls Try.prog 58 #[.int .i64 k, .int .i64 v, .int .i64 n] w fun e w' => e = .returned (.int .i64 (liesV v n k)) ∧ w' = w := by
  unfold liesV
  by_cases hc : Num.covB v n k = true
  · rw [if_pos hc]
    have hc2 : v ≤ (k : Int) ∧ (k : Int) - v < (n : Int) := by simpa [Num.covB] using hc
    obtain ⟨t, ht⟩ : ∃ t : Nat, (t : Int) = (k : Int) - v := ⟨((k : Int) - v).toNat, by omega⟩
    rw [← ht]
    have h1 : v ≤ (k : Int) := hc2.1
    clear hc
    go_enter Try.func58, Try.ntmps58
    go_wp2_with fail
    go_loopw [7] (fun u wr => ∃ i : Nat, i ≤ t ∧ u = .int .i64 i ∧ wr = w) (fun u _ => t + 1 - (intOf u).toNat)
    case atStart => exact ⟨0, by omega, rfl, rfl⟩
    case round =>
      obtain ⟨i, hi, rfl, rfl⟩ := hrel
      have hin : i < n := by omega
      have hd1 : decide ((i : Int) < (n : Int)) = true := by simp; omega
      by_cases hlt : i < t
      · have hd2 : ((k : Int) - (i : Int) == v) = false := by simp; omega
        clear ht
        go_wp2
        go_roundw
        case rel => exact ⟨i + 1, by omega, by go_num, by first | rfl | trivial⟩
        case measure => simp [intOf]; omega
      · have hd2 : ((k : Int) - (i : Int) == v) = true := by simp; omega
        have e : Hid (i = t) := by unfold Hid; omega
        clear ht
        go_wp2
        go_ret
        exact ⟨ret_int (by rw [e.out]), rfl⟩
  · rw [if_neg hc]
    have hc2 : ¬ (v ≤ (k : Int) ∧ (k : Int) - v < (n : Int)) := by simpa [Num.covB] using hc
    clear hc
    go_enter Try.func58, Try.ntmps58
    go_wp2_with fail
    go_loopw [7] (fun u wr => ∃ i : Nat, i ≤ n ∧ u = .int .i64 i ∧ wr = w) (fun u _ => n - (intOf u).toNat)
    case atStart => exact ⟨0, by omega, rfl, rfl⟩
    case round =>
      obtain ⟨i, hi, rfl, rfl⟩ := hrel
      by_cases hlt : i < n
      · have hd1 : decide ((i : Int) < (n : Int)) = true := by simp; omega
        by_cases hv : v ≤ (k : Int)
        · have hd2 : ((k : Int) - (i : Int) == v) = false := by simp; omega
          clear hc2
          go_wp2
          go_roundw
          case rel => exact ⟨i + 1, by omega, by go_num, by first | rfl | trivial⟩
          case measure => simp [intOf]; omega
        · clear hc2
          go_wp2
          go_roundw
          case rel => exact ⟨i + 1, by omega, by go_num, by first | rfl | trivial⟩
          case measure => simp [intOf]; omega
      · have hd1 : decide ((i : Int) < (n : Int)) = false := by simp; omega
        clear hc2
        go_wp2
        go_ret
        exact ⟨rfl, rfl⟩

set_option maxHeartbeats 400000 in
theorem rleastY_any (a b : Int) (w : World) : Calls Try.prog 77 #[.int .i64 a, .int .i64 b] w fun e w' => e = .returned (.int .i64 (Num.lsY a b)) ∧ w' = w := by
  by_cases h : a < b
  · go_enter Try.func77, Try.ntmps77
    go_wp2
    go_ret
    exact ⟨ret_int (by unfold Num.lsY; rw [if_pos h]), rfl⟩
  · go_enter Try.func77, Try.ntmps77
    go_wp2
    go_ret
    exact ⟨ret_int (by unfold Num.lsY; rw [if_neg (by omega)]), rfl⟩
set_option maxHeartbeats 400000 in
theorem rmostY_any (a b : Int) (w : World) : Calls Try.prog 78 #[.int .i64 a, .int .i64 b] w fun e w' => e = .returned (.int .i64 (Num.gr a b)) ∧ w' = w := by
  by_cases h : b < a
  · go_enter Try.func78, Try.ntmps78
    go_wp2
    go_ret
    exact ⟨ret_int (by unfold Num.gr; rw [if_pos h]), rfl⟩
  · go_enter Try.func78, Try.ntmps78
    go_wp2
    go_ret
    exact ⟨ret_int (by unfold Num.gr; rw [if_neg (by omega)]), rfl⟩

set_option maxHeartbeats 1000000 in
theorem both_any (u v way : Int) (w : World) (hu : 0 ≤ u ∧ u ≤ 255) (hv : 0 ≤ v ∧ v ≤ 255) (hw : 0 ≤ way ∧ way ≤ 3) : Calls Try.prog 59 #[.int .i64 u, .int .i64 v, .int .i64 way] w fun e w' => e = .returned (.int .i64 (Num.mixV u v way)) ∧ w' = w := by
  obtain ⟨z, hz⟩ : ∃ z, z = Num.mixV u v way := ⟨_, rfl⟩
  rw [← hz]
  unfold Num.mixV at hz
  have HZ := hide hz
  clear hz
  rcases (show way = 0 ∨ way = 1 ∨ way = 2 ∨ way = 3 by omega) with rfl | rfl | rfl | rfl
  all_goals
    go_enter Try.func59, Try.ntmps59
    go_wp2_with (first | (go_at_call 78; refine (rmostY_any _ _ _).mono ?_; rintro e w' ⟨rfl, rfl⟩) | (go_at_call 77; refine (rleastY_any _ _ _).mono ?_; rintro e w' ⟨rfl, rfl⟩))
    all_goals
      go_ret
      exact ⟨ret_int (by rw [HZ.out]; first | (simp only [if_true, if_false, Int.reduceEq]; done) | (simp only [if_true, if_false, Int.reduceEq]; first | rfl | (unfold Num.lsY; rfl) | (unfold Num.gr; rfl))), rfl⟩
end Go.Proofs.Ytkhcjkmifddlbab
