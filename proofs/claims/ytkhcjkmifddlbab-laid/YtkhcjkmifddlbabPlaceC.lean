/- The law Placed, by its steps. -/
import Derived.Test.YtkhcjkmifddlbabPlaceB
namespace Go.Proofs.Ytkhcjkmifddlbab
open Go.RowKit

set_option maxHeartbeats 400000 in
theorem num_any (n : Int) (w : World) :
    Calls Try.prog 42 #[.int .i64 n] w fun e w' => e = .returned (.int .i64 n) ∧ w' = w := by
  go_enter Try.func42, Try.ntmps42
  go_wp2
  go_ret
  exact ⟨rfl, rfl⟩

end Go.Proofs.Ytkhcjkmifddlbab
