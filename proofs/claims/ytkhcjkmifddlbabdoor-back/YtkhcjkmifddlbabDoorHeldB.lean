/- The marks; outline: the caller writes what was lent full of marks. -/
import Derived.Test.YtkhcjkmifddlbabDoorHeld
import Derived.Test.YtkhcjkmifddlbabDoorPlace
namespace Go.Proofs.YtkhcjkmifddlbabDoor
open Go.RowKit Go.Deep

set_option maxHeartbeats 400000 in
theorem mark_any (h : Nat) (s : HS) (w : World) (H : HeldInv w h s) (hn : s.n + 1 ≤ 1099511627776) :
    Calls Tryd.prog 31 #[.pointer (some ⟨h, 2, none⟩)] w fun e w' => e = .returned (.int .i64 (s.n + 1)) ∧ w' = w.setCell ⟨h, 2, none⟩ (.int .i64 (s.n + 1)) := by
  have c2 : w.cell? ⟨h, 2, none⟩ = some (.int .i64 s.n) := by rw [H.wd.cell (by omega)]; rfl
  have z2 := H.wd.frozen 2
  have l0 : 0 ≤ s.n := by have := H.lo; omega
  clear H
  go_enter Tryd.func31, Tryd.ntmps31
  go_wp2
  go_ret
  exact ⟨rfl, rfl⟩

set_option maxHeartbeats 400000 in
theorem markPoint_any (n : Int) (w : World) (h0 : 0 ≤ n) (h1 : n ≤ 1099511627776) :
    Calls Tryd.prog 39 #[.int .i64 n] w fun e w' => e = .returned (.agg #[.int .i64 (2199023255552 + n), .int .i64 (-7), .int .i64 9]) ∧ w' = w.alloc (.cells #[.int .i64 (2199023255552 + n), .int .i64 (-7), .int .i64 9] 83) := by
  go_enter Tryd.func39, Tryd.ntmps39
  go_wp2
  exact bodyPost_ret (v := .agg #[.int .i64 (2199023255552 + n), .int .i64 (-7), .int .i64 9]) (by simp [results, Tryd.results39, go_sem]) rfl ⟨rfl, rfl⟩

set_option maxHeartbeats 400000 in
theorem markSpot_any (n : Int) (w : World) (h0 : 0 ≤ n) (h1 : n ≤ 1099511627776) :
    Calls Tryd.prog 38 #[.int .i64 n] w fun e w' => e = .returned (.agg #[.int .i64 (2199023255552 + n), .int .i64 (-7)]) ∧ w' = w.alloc (.cells #[.int .i64 (2199023255552 + n), .int .i64 (-7)] 65) := by
  go_enter Tryd.func38, Tryd.ntmps38
  go_wp2
  exact bodyPost_ret (v := .agg #[.int .i64 (2199023255552 + n), .int .i64 (-7)]) (by simp [results, Tryd.results38, go_sem]) rfl ⟨rfl, rfl⟩

/-- A segment that is a mark. -/
def segMark (n : Int) : Value := .agg #[.int .i64 9, .int .i64 (2199023255552 + n), .int .i64 (-7), .int .i64 (2199023255552 + n), .int .i64 (-7), .int .i64 (2199023255552 + n), .int .i64 (-7), .int .i64 (2199023255552 + n), .int .i64 (-7)]

set_option maxHeartbeats 400000 in
theorem markSegment_any (n : Int) (w : World) (h0 : 0 ≤ n) (h1 : n ≤ 1099511627776) :
    Calls Tryd.prog 23 #[.int .i64 n] w fun e w' => e = .returned (segMark n) ∧ Below w.heap.size w w' := by
  go_enter Tryd.func23, Tryd.ntmps23
  go_wp2_with fail
  refine (markSpot_any _ _ h0 h1).mono ?_
  rintro e w1 ⟨rfl, rfl⟩
  go_wp2
  refine bodyPost_ret (v := segMark n) (by simp [results, Tryd.results23, go_sem, segMark]) rfl ⟨rfl, ?_⟩
  (repeat (any_goals (first | exact Below.refl _ _ | assumption | refine Below.drew ?_ | refine below_drewN ?_ _ | refine Below.setCell ?_ ?_ _ | refine Below.alloc ?_ ?_ _ | omega | (simp; done) | (simp; omega))))
theorem mkB_eq (n i q : Int) : IntKind.u8.wrap (IntKind.i64.wrap (n + IntKind.i64.wrap (i * q))) = IntKind.u8.wrap (n + i * q) := by
  rw [IntKind.wrap_u8, IntKind.wrap_u8, IntKind.wrap_i64, IntKind.wrap_i64]
  omega

set_option maxHeartbeats 400000 in
theorem markByte_any (n : Int) (i : Nat) (w : World) (h0 : 0 ≤ n) (h1 : n ≤ 1099511627776) :
    Calls Tryd.prog 24 #[.int .i64 n, .int .i64 i] w fun e w' => e = .returned (mkB n i) ∧ w' = w := by
  go_enter Tryd.func24, Tryd.ntmps24
  go_wp2
  go_ret
  refine ⟨?_, rfl⟩
  unfold mkB
  rw [← mkB_eq, IntKind.wrap_u8, IntKind.wrap_i64, IntKind.wrap_i64]
  show Ending.returned (.int .u8 (wrap64 (n + wrap64 ((i : Int) * (1 + n / 256))) % 256)) = _
  unfold wrap64
  rfl
end Go.Proofs.YtkhcjkmifddlbabDoor
