/- The document's Lay: its parts. -/
import Derived.Test.YtkhcjkmifddlbabDoorLayV
import Derived.Test.YtkhcjkmifddlbabDoorHeldY
import Derived.Test.YtkhcjkmifddlbabDoorCrv
namespace Go.Proofs.YtkhcjkmifddlbabDoor
open Go.RowKit Go.Deep

set_option maxRecDepth 100000 in
set_option maxHeartbeats 1000000 in
theorem isGray_any (a : Option Addr) (n c : Nat) (W H : Int) (w : World) :
    Calls Tryd.prog 29 #[.agg #[.int .i64 W, .int .i64 H, .slice a n c]] w fun e w' => e = .returned (.bool (Num.picB W H n)) ∧ w' = w.alloc (.cells #[.int .i64 W, .int .i64 H, .slice a n c] 24) := by
  by_cases h1 : 1 ≤ W ∧ W ≤ 64
  · by_cases h2 : 1 ≤ H ∧ H ≤ 64
    · have hm : 0 ≤ W * H ∧ W * H ≤ 4096 := by
        have h3 : W * H ≤ 64 * 64 := Int.mul_le_mul h1.2 h2.2 (by omega) (by omega)
        have h4 : 0 ≤ W * H := Int.mul_nonneg (by omega) (by omega)
        omega
      have hw : IntKind.i64.wrap (W * H) = W * H := by rw [IntKind.wrap_i64]; omega
      have hq : Num.picB W H n = decide ((n : Int) = W * H) := by simp [Num.picB, h1, h2]
      rw [hq]
      clear hq
      go_enter Tryd.func29, Tryd.ntmps29
      go_wp2
      go_ret
      exact ⟨ret_bool (by first | rfl | (simp; done) | (rw [hw])), rfl⟩
    · have hq : Num.picB W H n = false := by simp [Num.picB]; omega
      rw [hq]
      clear hq
      by_cases h3 : 1 ≤ H
      · have h4 : ¬ H ≤ 64 := by omega
        clear h2
        go_enter Tryd.func29, Tryd.ntmps29
        go_wp2
        go_ret
        exact ⟨rfl, rfl⟩
      · clear h2
        go_enter Tryd.func29, Tryd.ntmps29
        go_wp2
        go_ret
        exact ⟨rfl, rfl⟩
  · have hq : Num.picB W H n = false := by simp [Num.picB]; omega
    rw [hq]
    clear hq
    by_cases h3 : 1 ≤ W
    · have h4 : ¬ W ≤ 64 := by omega
      clear h1
      go_enter Tryd.func29, Tryd.ntmps29
      go_wp2
      go_ret
      exact ⟨rfl, rfl⟩
    · clear h1
      go_enter Tryd.func29, Tryd.ntmps29
      go_wp2
      go_ret
      exact ⟨rfl, rfl⟩

/-- The place at which a column has the other's. -/
def liesV (v : Int) (n k : Nat) : Int := if Num.covB v n k = true then (k : Int) - v else -1

end Go.Proofs.YtkhcjkmifddlbabDoor
