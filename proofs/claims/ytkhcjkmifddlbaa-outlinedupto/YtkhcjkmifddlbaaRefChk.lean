/- Check: the document's. -/
import Derived.Test.YtkhcjkmifddlbaaChkB
namespace Go.Proofs.Ytkhcjkmifddlbaa
open Go.RowKit

set_option maxHeartbeats 400000 in
theorem at_any (a : Option Addr) (n c : Nat) (X Y K : Nat → Int) (i : Int) (w : World) (h0 : 0 ≤ i) (h1 : i ≤ 1099511627776) (hp : 0 < n) (hn : n ≤ 4294967296) (hr : RingAt w a n X Y K) :
    Calls Try.prog 145 #[.slice a n c, .int .i64 i] w fun e w' => e = .returned (.agg #[.int .i64 (X (i.toNat % n)), .int .i64 (Y (i.toNat % n)), .int .i64 (K (i.toNat % n))]) ∧ Below w.heap.size w w' := by
  obtain ⟨j, rfl⟩ := Int.eq_ofNat_of_zero_le h0
  rw [Int.toNat_natCast]
  rcases hr with h | ⟨b, off, rfl, hc⟩
  · omega
  have hlt : j % n < n := Nat.mod_lt _ hp
  obtain ⟨c0, c1, c2⟩ := hc (j % n) hlt
  have hbw : b < w.heap.size := World.block_lt_of_cell? w _ c0
  clear hc
  obtain ⟨m, hm⟩ : ∃ m, m = j % n := ⟨_, rfl⟩
  rw [← hm] at c0 c1 c2 hlt ⊢
  have e : (j : Int) % (n : Int) = (m : Int) := by rw [hm]; simp
  clear hm
  have hn0 : ¬ (n : Int) = 0 := by omega
  have g1 : (m : Int) < (n : Int) := by omega
  go_enter Try.func145, Try.ntmps145
  go_wp2
  refine bodyPost_ret (v := .agg #[.int .i64 (X m), .int .i64 (Y m), .int .i64 (K m)]) (by simp [results, Try.results145, go_sem]) rfl ⟨rfl, ?_⟩
  (repeat (any_goals (first | exact Below.refl _ _ | assumption | refine Below.drew ?_ | refine below_drewN ?_ _ | refine Below.setCell ?_ ?_ _ | refine Below.alloc ?_ ?_ _ | omega | (simp; done) | (simp; omega))))

set_option maxHeartbeats 400000 in
theorem refMayStand_any (a : Option Addr) (n c : Nat) (X Y K : Nat → Int) (i : Nat) (w : World) (hi : i < n) (hn : n ≤ 4294967296) (hr : RingAt w a n X Y K) :
    Calls Try.prog 118 #[.slice a n c, .int .i64 i] w fun e w' => e = .returned (.bool (!Num.badB K n i)) ∧ Below w.heap.size w w' := by
  have hbad : (!Num.badB K n i) = Num.mayB (K ((i + n - 1) % n)) (K i) (K ((i + 1) % n)) := by
    rw [Num.prevK_mod K n i hi, Num.nextK_mod K n i hi]; simp [Num.badB]
  rw [hbad]
  clear hbad
  have HR := hide hr
  clear hr
  rcases HR.out with h | ⟨b, off, rfl, hc⟩
  · omega
  obtain ⟨_, _, c2⟩ := hc i hi
  have hbw : b < w.heap.size := World.block_lt_of_cell? w _ c2
  clear hc
  have g1 : (i : Int) < (n : Int) := by omega
  by_cases h2 : K i = 2
  · rw [h2] at c2 ⊢
    go_enter Try.func118, Try.ntmps118
    go_wp2_with fail
    refine (at_any _ _ _ X Y K _ _ (by omega) (by omega) (by omega) hn HR.out).mono ?_
    rw [show ((i : Int) + (n : Int) - 1).toNat = i + n - 1 by omega]
    rintro e w1 ⟨rfl, hb⟩
    have HR1 := hide (HR.out.below hb)
    have hz : w.heap.size ≤ w1.heap.size := hb.size
    go_wp2_with fail
    refine (at_any _ _ _ X Y K _ _ (by omega) (by omega) (by omega) hn (HR1.out.below (by (repeat (any_goals (first | exact Below.refl _ _ | assumption | refine Below.drew ?_ | refine below_drewN ?_ _ | refine Below.setCell ?_ ?_ _ | refine Below.alloc ?_ ?_ _ | omega | (simp; done) | (simp; omega))))))).mono ?_
    rw [show ((i : Int) + 1).toNat = i + 1 by omega]
    rintro e w2 ⟨rfl, hb2⟩
    obtain ⟨hc2, hfz2⟩ := bcell hb2
    have hz2 : w1.heap.size < w2.heap.size := by have := hb2.size; simp at this; omega
    have q2 : w2.cell? ⟨w1.heap.size, 2, none⟩ = some (.int .i64 (K ((i + n - 1) % n))) := by rw [hc2 _ _ (by simp)]; go_simp
    have hb3 : Below w.heap.size w w2 := Below.trans (by (repeat (any_goals (first | exact Below.refl _ _ | assumption | refine Below.drew ?_ | refine below_drewN ?_ _ | refine Below.setCell ?_ ?_ _ | refine Below.alloc ?_ ?_ _ | omega | (simp; done) | (simp; omega))))) (hb2.mono (by simp; omega))
    clear hb2 hc2 hfz2
    go_wp2
    all_goals
      go_ret
      refine ⟨ret_bool ?_, by (repeat (any_goals (first | exact Below.refl _ _ | assumption | refine Below.drew ?_ | refine below_drewN ?_ _ | refine Below.setCell ?_ ?_ _ | refine Below.alloc ?_ ?_ _ | omega | (simp; done) | (simp; omega))))⟩
      simp_all [Num.mayB]
  · have hne : (K i != 2) = true := by simpa using h2
    have e : Num.mayB (K ((i + n - 1) % n)) (K i) (K ((i + 1) % n)) = (K i == 0 || K i == 1) := by simp [Num.mayB, h2]
    rw [e]
    clear e
    go_enter Try.func118, Try.ntmps118
    go_wp2
    all_goals
      go_ret
      refine ⟨ret_bool ?_, by (repeat (any_goals (first | exact Below.refl _ _ | assumption | refine Below.drew ?_ | refine below_drewN ?_ _ | refine Below.setCell ?_ ?_ _ | refine Below.alloc ?_ ?_ _ | omega | (simp; done) | (simp; omega))))⟩
      simp_all

set_option maxHeartbeats 400000 in
theorem refFar_any (x y k : Int) (w : World) :
    Calls Try.prog 85 #[.agg #[.int .i64 x, .int .i64 y, .int .i64 k]] w fun e w' => e = .returned (.bool (!(Num.wi x 4096 && Num.wi y 4096))) ∧ Below w.heap.size w w' := by
  go_enter Try.func85, Try.ntmps85
  go_wp2
  all_goals
    go_ret
    refine ⟨ret_bool ?_, by (repeat (any_goals (first | exact Below.refl _ _ | assumption | refine Below.drew ?_ | refine below_drewN ?_ _ | refine Below.setCell ?_ ?_ _ | refine Below.alloc ?_ ?_ _ | omega | (simp; done) | (simp; omega))))⟩
    rw [Bool.eq_iff_iff]
    simp [Num.wi]
    omega

set_option maxHeartbeats 400000 in
theorem refShape_any (a : Option Addr) (n c : Nat) (X Y K : Nat → Int) (w : World) (hn : n ≤ 4294967296) (hr : RingAt w a n X Y K) :
    Calls Try.prog 84 #[.slice a n c] w fun e w' => e = .returned (.int .i64 (Num.shapeI K n)) ∧ Below w.heap.size w w' := by
  have HR := hide hr
  clear hr
  by_cases h2 : n < 2
  · have e : Num.shapeI K n = n := by unfold Num.shapeI; rw [if_pos h2]
    rw [e]
    clear e
    go_enter Try.func84, Try.ntmps84
    go_wp2_with fail
    go_ret
    exact ⟨rfl, Below.refl _ _⟩
  · have e : Num.shapeI K n = Num.firstI (Num.badB K n) n := by unfold Num.shapeI; rw [if_neg h2]
    rw [e]
    clear e
    go_enter Try.func84, Try.ntmps84
    go_wp2_with fail
    go_loopw [3] (fun i wr => ∃ k : Nat, k ≤ n ∧ i = .int .i64 k ∧ Below w.heap.size w wr ∧ ∀ j, j < k → Num.badB K n j = false) (fun i _ => n - (intOf i).toNat)
    case atStart => exact ⟨0, by omega, rfl, Below.refl _ _, by omega⟩
    case round =>
      obtain ⟨k, hk, rfl, hb, hno⟩ := hrel
      have hsz := hb.size
      have HN := hide hno
      clear hno
      by_cases hlt : k < n
      · go_wp2_with fail
        refine (refMayStand_any _ _ _ _ _ _ k _ hlt hn (HR.out.below hb)).mono ?_
        rintro e w1 ⟨rfl, hb1⟩
        have hb2 : Below w.heap.size w w1 := hb.trans (hb1.mono hsz)
        clear hb1
        cases hs : Num.badB K n k
        · have HS := hide hs
          clear hs
          go_wp2
          go_roundw
          case rel =>
            refine ⟨k + 1, by omega, by go_num, hb2, fun j hj => ?_⟩
            by_cases ej : j = k
            · subst ej; exact HS.out
            · exact HN.out j (by omega)
          case measure => simp [intOf]; omega
        · have HS := hide hs
          clear hs
          go_wp2
          go_ret
          exact ⟨ret_int (Num.firstI_hit _ _ _ hlt HS.out HN.out).symm, hb2⟩
      · have e : k = n := by omega
        subst e
        go_wp2
        go_ret
        exact ⟨ret_int (Num.firstI_none _ _ HN.out).symm, hb⟩
end Go.Proofs.Ytkhcjkmifddlbaa
