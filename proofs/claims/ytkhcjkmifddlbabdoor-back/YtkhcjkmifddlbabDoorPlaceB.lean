/- The document's Place; the law's steps on Place. -/
import Derived.Test.YtkhcjkmifddlbabDoorPlace
namespace Go.Proofs.YtkhcjkmifddlbabDoor
open Go.RowKit

theorem fair_false {a b c d x y : Int} (h : Num.wi a 65536 = false ∨ Num.wi b 65536 = false ∨ Num.wi c 65536 = false ∨ Num.wi d 65536 = false ∨ Num.wi x 16384 = false ∨ Num.wi y 16384 = false) : false = Num.fairB a b c d x y := by
  unfold Num.fairB
  rcases h with h | h | h | h | h | h <;> simp [h]

end Go.Proofs.YtkhcjkmifddlbabDoor
