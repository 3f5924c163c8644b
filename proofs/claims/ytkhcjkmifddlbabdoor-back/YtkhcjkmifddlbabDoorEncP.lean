/- The library's Itoa, from 1 to 99. -/
import Derived.Test.YtkhcjkmifddlbabDoorDecU
namespace Go.Proofs.YtkhcjkmifddlbabDoor
open Go.RowKit Go.Deep

theorem ext_mk (l : List UInt8) (i j : Nat) : (ByteArray.mk l.toArray).extract i j = ⟨((l.drop i).take (j - i)).toArray⟩ := by
  apply ByteArray.ext
  rw [ByteArray.data_extract]
  apply Array.toList_inj.1
  simp
set_option maxRecDepth 100000 in
theorem small_a : ∀ v, v < 10 → (([48, 49, 50, 51, 52, 53, 54, 55, 56, 57, 97, 98, 99, 100, 101, 102, 103, 104, 105, 106, 107, 108, 109, 110, 111, 112, 113, 114, 115, 116, 117, 118, 119, 120, 121, 122] : List UInt8).drop v).take (v + 1 - v) = digL v := by decide
set_option maxRecDepth 100000 in
theorem small_b : ∀ v, v < 100 → ¬ v < 10 → (([48, 48, 48, 49, 48, 50, 48, 51, 48, 52, 48, 53, 48, 54, 48, 55, 48, 56, 48, 57, 49, 48, 49, 49, 49, 50, 49, 51, 49, 52, 49, 53, 49, 54, 49, 55, 49, 56, 49, 57, 50, 48, 50, 49, 50, 50, 50, 51, 50, 52, 50, 53, 50, 54, 50, 55, 50, 56, 50, 57, 51, 48, 51, 49, 51, 50, 51, 51, 51, 52, 51, 53, 51, 54, 51, 55, 51, 56, 51, 57, 52, 48, 52, 49, 52, 50, 52, 51, 52, 52, 52, 53, 52, 54, 52, 55, 52, 56, 52, 57, 53, 48, 53, 49, 53, 50, 53, 51, 53, 52, 53, 53, 53, 54, 53, 55, 53, 56, 53, 57, 54, 48, 54, 49, 54, 50, 54, 51, 54, 52, 54, 53, 54, 54, 54, 55, 54, 56, 54, 57, 55, 48, 55, 49, 55, 50, 55, 51, 55, 52, 55, 53, 55, 54, 55, 55, 55, 56, 55, 57, 56, 48, 56, 49, 56, 50, 56, 51, 56, 52, 56, 53, 56, 54, 56, 55, 56, 56, 56, 57, 57, 48, 57, 49, 57, 50, 57, 51, 57, 52, 57, 53, 57, 54, 57, 55, 57, 56, 57, 57] : List UInt8).drop (v * 2)).take (v * 2 + 2 - v * 2) = digL v := by decide

set_option maxRecDepth 100000 in
set_option maxHeartbeats 1000000 in
theorem small_any (v : Nat) (w : World) (h2 : v ≤ 99) : Calls Tryd.prog 54 #[.int .i64 v] w fun e w' => e = .returned (.string (digS v)) ∧ w' = w := by
  by_cases h : v < 10
  · have hd : decide ((v : Int) < 10) = true := by simp; omega
    have w1 : IntKind.i64.wrap ((v : Int) + 1) = (v : Int) + 1 := wrap_ok _ (by omega) (by omega)
    have g1 : (0 : Int) ≤ (v : Int) := by omega
    have g2 : (v : Int) ≤ (v : Int) + 1 := by omega
    have g3 : (v : Int) + 1 ≤ 36 := by omega
    have g4 : ((v : Int) + 1).toNat = v + 1 := by omega
    have g5 : v + 1 ≤ 36 := by omega
    have g6 : (0 : Int) ≤ (v : Int) + 1 := by omega
    go_enter Tryd.func54, Tryd.ntmps54
    go_wp2
    go_ret
    exact ⟨congrArg (fun t => Ending.returned (Value.string t)) ((ext_mk _ _ _).trans (congrArg (fun l => ByteArray.mk l.toArray) (small_a v h))), rfl⟩
  · have hd : decide ((v : Int) < 10) = false := by simp; omega
    have w1 : IntKind.i64.wrap ((v : Int) * 2) = (v : Int) * 2 := wrap_ok _ (by omega) (by omega)
    have w2 : IntKind.i64.wrap ((v : Int) * 2 + 2) = (v : Int) * 2 + 2 := wrap_ok _ (by omega) (by omega)
    have g1 : (0 : Int) ≤ (v : Int) * 2 := by omega
    have g2 : (v : Int) * 2 ≤ (v : Int) * 2 + 2 := by omega
    have g3 : (v : Int) * 2 + 2 ≤ 200 := by omega
    have g4 : ((v : Int) * 2 + 2).toNat = v * 2 + 2 := by omega
    have g5 : ((v : Int) * 2).toNat = v * 2 := by omega
    have g6 : (0 : Int) ≤ (v : Int) * 2 + 2 := by omega
    go_enter Tryd.func54, Tryd.ntmps54
    go_wp2
    go_ret
    exact ⟨congrArg (fun t => Ending.returned (Value.string t)) ((ext_mk _ _ _).trans (congrArg (fun l => ByteArray.mk l.toArray) (small_b v (by omega) h))), rfl⟩

set_option maxRecDepth 100000 in
set_option maxHeartbeats 1000000 in
theorem formatInt_any (v : Nat) (w : World) (h2 : v ≤ 99) : Calls Tryd.prog 53 #[.int .i64 v, .int .i64 10] w fun e w' => e = .returned (.string (digS v)) ∧ w' = w := by
  have g1 : decide ((0 : Int) ≤ (v : Int)) = true := by simp
  have g2 : decide ((v : Int) < 100) = true := by simp; omega
  have HC := hide (fun w' => small_any v w' h2)
  go_enter Tryd.func53, Tryd.ntmps53
  go_wp2_with (go_at_call 54; refine (HC.out _).mono ?_; rintro e w' ⟨rfl, hw'⟩; rw [hw']; clear hw')
  go_ret
  exact ⟨rfl, rfl⟩
set_option maxHeartbeats 1000000 in
theorem itoaI_any (v : Nat) (w : World) (h2 : v ≤ 99) : Calls Tryd.prog 49 #[.int .i64 v] w fun e w' => e = .returned (.string (digS v)) ∧ w' = w := by
  have HC := hide (fun w' => formatInt_any v w' h2)
  go_enter Tryd.func49, Tryd.ntmps49
  go_wp2_with (go_at_call 53; refine (HC.out _).mono ?_; rintro e w' ⟨rfl, hw'⟩; rw [hw']; clear hw')
  go_ret
  exact ⟨rfl, rfl⟩
set_option maxHeartbeats 1000000 in
theorem itoa_any (v : Nat) (w : World) (h2 : v ≤ 99) : Calls Tryd.prog 41 #[.int .i64 v] w fun e w' => e = .returned (.string (digS v)) ∧ w' = w := by
  have HC := hide (fun w' => itoaI_any v w' h2)
  go_enter Tryd.func41, Tryd.ntmps41
  go_wp2_with (go_at_call 49; refine (HC.out _).mono ?_; rintro e w' ⟨rfl, hw'⟩; rw [hw']; clear hw')
  go_ret
  exact ⟨rfl, rfl⟩
end Go.Proofs.YtkhcjkmifddlbabDoor
