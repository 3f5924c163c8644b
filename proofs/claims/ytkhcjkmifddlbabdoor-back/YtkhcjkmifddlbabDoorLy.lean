/- The program's Lay. -/
import Derived.Test.YtkhcjkmifddlbabDoorLayV
import Derived.Test.YtkhcjkmifddlbabDoorHeldY
import Derived.Test.YtkhcjkmifddlbabDoorCrv
namespace Go.Proofs.YtkhcjkmifddlbabDoor
open Go.RowKit Go.Deep

def sideP (n : Int) : Bool := decide (1 ≤ n ∧ n ≤ 64)
set_option maxHeartbeats 400000 in
theorem isSideP_any (n : Int) (w : World) : Calls Tryd.prog 48 #[.int .i64 n] w fun e w' => e = .returned (.bool (sideP n)) ∧ w' = w := by
  by_cases a : 1 ≤ n
  · by_cases b : n ≤ 64
    · go_enter Tryd.func48, Tryd.ntmps48
      go_wp2
      go_ret
      exact ⟨ret_bool (by simp [sideP, a, b]), rfl⟩
    · go_enter Tryd.func48, Tryd.ntmps48
      go_wp2
      go_ret
      exact ⟨ret_bool (by simp [sideP, b]), rfl⟩
  · go_enter Tryd.func48, Tryd.ntmps48
    go_wp2
    go_ret
    exact ⟨ret_bool (by simp [sideP]; omega), rfl⟩

set_option maxRecDepth 100000 in
set_option maxHeartbeats 1000000 in
theorem isPicture_any (a : Option Addr) (n c : Nat) (W H : Int) (w : World) :
    Calls Tryd.prog 40 #[.agg #[.int .i64 W, .int .i64 H, .slice a n c]] w fun e w' => e = .returned (.bool (Num.picB W H n)) ∧ w' = w.alloc (.cells #[.int .i64 W, .int .i64 H, .slice a n c] 24) := by
  by_cases h1 : 1 ≤ W ∧ W ≤ 64
  · by_cases h2 : 1 ≤ H ∧ H ≤ 64
    · have e1 : sideP W = true := by simp [sideP]; omega
      have e2 : sideP H = true := by simp [sideP]; omega
      have hm : 0 ≤ W * H ∧ W * H ≤ 4096 := by
        have h3 : W * H ≤ 64 * 64 := Int.mul_le_mul h1.2 h2.2 (by omega) (by omega)
        have h4 : 0 ≤ W * H := Int.mul_nonneg (by omega) (by omega)
        omega
      have hw : IntKind.i64.wrap (W * H) = W * H := by rw [IntKind.wrap_i64]; omega
      have hq : Num.picB W H n = decide ((n : Int) = W * H) := by simp [Num.picB, h1, h2]
      rw [hq]
      clear hq
      go_enter Tryd.func40, Tryd.ntmps40
      go_wp2_with (go_at_call 48; refine (isSideP_any _ _).mono ?_; rintro e w' ⟨rfl, rfl⟩)
      go_ret
      exact ⟨ret_bool (by first | rfl | (simp; done) | (rw [hw])), rfl⟩
    · have e1 : sideP W = true := by simp [sideP]; omega
      have e2 : sideP H = false := by simp [sideP]; omega
      have hq : Num.picB W H n = false := by simp [Num.picB]; omega
      rw [hq]
      clear hq
      go_enter Tryd.func40, Tryd.ntmps40
      go_wp2_with (go_at_call 48; refine (isSideP_any _ _).mono ?_; rintro e w' ⟨rfl, rfl⟩)
      go_ret
      exact ⟨rfl, rfl⟩
  · have e1 : sideP W = false := by simp [sideP]; omega
    have hq : Num.picB W H n = false := by simp [Num.picB]; omega
    rw [hq]
    clear hq
    go_enter Tryd.func40, Tryd.ntmps40
    go_wp2_with (go_at_call 48; refine (isSideP_any _ _).mono ?_; rintro e w' ⟨rfl, rfl⟩)
    go_ret
    exact ⟨rfl, rfl⟩

/-- What is asked of two pictures. -/
theorem picB_yes {W H : Int} {n : Nat} (h : Num.picB W H n = true) : ∃ a b : Nat, W = a ∧ H = b ∧ 1 ≤ a ∧ a ≤ 64 ∧ 1 ≤ b ∧ b ≤ 64 ∧ n = a * b := by
  simp [Num.picB] at h
  obtain ⟨h1, h2, h3, h4, h5⟩ := h
  refine ⟨W.toNat, H.toNat, by omega, by omega, by omega, by omega, by omega, by omega, ?_⟩
  have e1 : ((W.toNat : Nat) : Int) = W := by omega
  have e2 : ((H.toNat : Nat) : Int) = H := by omega
  have : (n : Int) = ((W.toNat * H.toNat : Nat) : Int) := by rw [Int.natCast_mul, e1, e2]; exact h5
  omega

/-- Lay's answer: columns, rows, bytes. -/
def layR (UW UH : Int) (n : Nat) (OW OH : Int) (m : Nat) (U O : Nat → Int) (x y way : Int) : Int × Int × List Int :=
  if Num.layE UW UH n OW OH m way 8 9 = 0 then (UW, UH, Num.layL UW.toNat OW.toNat OH.toNat U O x y way (UW.toNat * UH.toNat)) else (0, 0, [])

theorem cellBy {w : World} {a : Option Addr} {n k : Nat} {X : Nat → Int} (h : ByAt w a n X) (hk : k < n) : ∃ b off, a = some ⟨b, off, none⟩ ∧ w.cell? ⟨b, off + k, none⟩ = some (.int .u8 (X k)) ∧ b < w.heap.size := by
  rcases h with h | ⟨b, off, rfl, hc⟩
  · omega
  · exact ⟨b, off, rfl, hc k hk, World.block_lt_of_cell? w _ (hc k hk)⟩

def gz (a b : Int) (v : Value) (q : Nat) : Value := [Value.int .i64 a, .int .i64 b, v][q]?.getD undef
theorem gz_row (a b : Int) (v : Value) (w : World) (t : TypeId) : (w.alloc (.cells #[.int .i64 a, .int .i64 b, v] t)).rowIs w.heap.size t 3 (gz a b v) := by
  refine World.rowIs_alloc w #[.int .i64 a, .int .i64 b, v] t _ (fun i hi => ?_)
  have hi : i < 3 := hi
  rcases (show i = 0 ∨ i = 1 ∨ i = 2 by omega) with rfl | rfl | rfl <;> rfl
theorem gz_cells {w : World} {p : Nat} {t : TypeId} {a b : Int} {v : Value} (h : w.rowIs p t 3 (gz a b v)) : w.cell? ⟨p, 0, none⟩ = some (.int .i64 a) ∧ w.cell? ⟨p, 1, none⟩ = some (.int .i64 b) ∧ w.cell? ⟨p, 2, none⟩ = some v :=
  ⟨h.cell (i := 0) (by omega), h.cell (i := 1) (by omega), h.cell (i := 2) (by omega)⟩
theorem gz_set {w : World} {p : Nat} {t : TypeId} {f : Nat → Value} (h : w.rowIs p t 3 f) (a b : Int) (v : Value) : (((w.setCell ⟨p, 0, none⟩ (.int .i64 a)).setCell ⟨p, 1, none⟩ (.int .i64 b)).setCell ⟨p, 2, none⟩ v).rowIs p t 3 (gz a b v) := by
  refine (((h.set 0 _).set 1 _).set 2 _).congr fun q hq => ?_
  rcases (show q = 0 ∨ q = 1 ∨ q = 2 by omega) with rfl | rfl | rfl <;> rfl
def byC (l : List Int) : List Value := l.map (Value.int .u8)
theorem byC_snoc (l : List Int) (z : Int) : byC (l ++ [z]) = byC l ++ [.int .u8 z] := by simp [byC]
theorem info_by : (Tryd.prog.info? 5).map (fun i => (i.zero, i.size, i.bytes)) = some (some (.int .u8 0), 1, 1) := by kernel_rfl

end Go.Proofs.YtkhcjkmifddlbabDoor
