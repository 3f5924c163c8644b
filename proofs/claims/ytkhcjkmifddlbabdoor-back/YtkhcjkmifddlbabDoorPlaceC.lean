/- The law Placed, by its steps. -/
import Derived.Test.YtkhcjkmifddlbabDoorPlaceB
namespace Go.Proofs.YtkhcjkmifddlbabDoor
open Go.RowKit

set_option maxHeartbeats 400000 in
theorem num_any (n : Int) (w : World) :
    Calls Tryd.prog 19 #[.int .i64 n] w fun e w' => e = .returned (.int .i64 n) ∧ w' = w := by
  go_enter Tryd.func19, Tryd.ntmps19
  go_wp2
  go_ret
  exact ⟨rfl, rfl⟩

end Go.Proofs.YtkhcjkmifddlbabDoor
