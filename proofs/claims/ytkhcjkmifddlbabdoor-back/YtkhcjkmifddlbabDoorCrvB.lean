/- The program's Curve. -/
import Derived.Test.YtkhcjkmifddlbabDoorCrv
namespace Go.Proofs.YtkhcjkmifddlbabDoor
open Go.RowKit

end Go.Proofs.YtkhcjkmifddlbabDoor
