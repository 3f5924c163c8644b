/- Check: the program's contracts. -/
import Derived.Test.YtkhcjkmifddlbaaMem
import Derived.Test.YtkhcjkmifddlbaaPlace
namespace Go.Proofs.Ytkhcjkmifddlbaa
open Go.RowKit

set_option maxHeartbeats 400000 in
theorem mayStand_any (a k b : Int) (w : World) :
    Calls Try.prog 144 #[.int .i64 a, .int .i64 k, .int .i64 b] w fun e w' => e = .returned (.bool (Num.mayB a k b)) ∧ w' = w := by
  go_enter Try.func144, Try.ntmps144
  go_wp2
  all_goals
    go_ret
    refine ⟨ret_bool ?_, rfl⟩
    simp_all [Num.mayB]

set_option maxHeartbeats 400000 in
theorem firstFar_any (a : Option Addr) (n c : Nat) (X Y K : Nat → Int) (w : World) (hn : n ≤ 4294967296) (hr : RingAt w a n X Y K) :
    Calls Try.prog 117 #[.slice a n c] w fun e w' => e = .returned (.int .i64 (Num.farI X Y n)) ∧ Below w.heap.size w w' := by
  go_enter Try.func117, Try.ntmps117
  go_wp2
  go_loopw [7] (fun i wr => ∃ k : Nat, k ≤ n ∧ i = .int .i64 k ∧ Below w.heap.size w wr ∧ ∀ j, j < k → Num.farB X Y j = false) (fun i _ => n - (intOf i).toNat)
  case atStart => exact ⟨0, by omega, rfl, Below.refl _ _, by omega⟩
  case round =>
    obtain ⟨k, hk, rfl, hb, hno⟩ := hrel
    have hsz := hb.size
    have HN := hide hno
    clear hno
    by_cases hlt : k < n
    · rcases hr.below hb with h | ⟨b, off, rfl, hc⟩
      · omega
      · obtain ⟨c0, c1, c2⟩ := hc k hlt
        clear hc hr
        cases hx : Num.wi (X k) 4096
        · have hf : Num.farB X Y k = true := by simp [Num.farB, hx]
          have HF := hide hf
          clear hf
          go_wp2_with (go_at_call 122; refine (within_any _ _ _ (by omega) (by omega)).mono ?_; rintro e w' ⟨rfl, rfl⟩)
          go_ret
          exact ⟨ret_int (Num.firstI_hit _ _ _ hlt HF.out HN.out).symm, by (repeat (any_goals (first | exact Below.refl _ _ | assumption | refine Below.drew ?_ | refine below_drewN ?_ _ | refine Below.setCell ?_ ?_ _ | refine Below.alloc ?_ ?_ _ | omega | (simp; done) | (simp; omega))))⟩
        · cases hy : Num.wi (Y k) 4096
          · have hf : Num.farB X Y k = true := by simp [Num.farB, hy]
            have HF := hide hf
            clear hf
            go_wp2_with (go_at_call 122; refine (within_any _ _ _ (by omega) (by omega)).mono ?_; rintro e w' ⟨rfl, rfl⟩)
            go_ret
            exact ⟨ret_int (Num.firstI_hit _ _ _ hlt HF.out HN.out).symm, by (repeat (any_goals (first | exact Below.refl _ _ | assumption | refine Below.drew ?_ | refine below_drewN ?_ _ | refine Below.setCell ?_ ?_ _ | refine Below.alloc ?_ ?_ _ | omega | (simp; done) | (simp; omega))))⟩
          · have hf : Num.farB X Y k = false := by simp [Num.farB, hx, hy]
            have HF := hide hf
            clear hf
            go_wp2_with (go_at_call 122; refine (within_any _ _ _ (by omega) (by omega)).mono ?_; rintro e w' ⟨rfl, rfl⟩)
            go_roundw
            case rel =>
              refine ⟨k + 1, by omega, by go_num, by (repeat (any_goals (first | exact Below.refl _ _ | assumption | refine Below.drew ?_ | refine below_drewN ?_ _ | refine Below.setCell ?_ ?_ _ | refine Below.alloc ?_ ?_ _ | omega | (simp; done) | (simp; omega)))), fun j hj => ?_⟩
              by_cases ej : j = k
              · subst ej; exact HF.out
              · exact HN.out j (by omega)
            case measure => simp [intOf]; omega
    · go_wp2
      go_ret
      have e : k = n := by omega
      subst e
      exact ⟨ret_int (Num.firstI_none _ _ HN.out).symm, hb⟩

set_option maxHeartbeats 400000 in
theorem shapeFault_any (a : Option Addr) (n c : Nat) (X Y K : Nat → Int) (w : World) (hn : n ≤ 4294967296) (hr : RingAt w a n X Y K) :
    Calls Try.prog 116 #[.slice a n c] w fun e w' => e = .returned (.int .i64 (Num.shapeI K n)) ∧ Below w.heap.size w w' := by
  by_cases h2 : n < 2
  · have e : Num.shapeI K n = n := by unfold Num.shapeI; rw [if_pos h2]
    rw [e]
    clear e
    go_enter Try.func116, Try.ntmps116
    go_wp2_with fail
    go_ret
    exact ⟨rfl, Below.refl _ _⟩
  · have e : Num.shapeI K n = Num.firstI (Num.badB K n) n := by unfold Num.shapeI; rw [if_neg h2]
    rw [e]
    clear e
    rcases hr with h | ⟨b, off, rfl, hc⟩
    · omega
    obtain ⟨c0, c1, c2⟩ := hc (n - 1) (by omega)
    have hlt0 : b < w.heap.size := World.block_lt_of_cell? w _ c0
    have HC := hide hc
    clear hc
    go_enter Try.func116, Try.ntmps116
    go_wp2_with fail
    go_loopw [20] (fun i wr => ∃ k : Nat, k ≤ n ∧ i = .int .i64 k ∧ Below w.heap.size w wr ∧ w.heap.size < wr.heap.size ∧ (∃ px py, wr.cell? ⟨w.heap.size, 0, none⟩ = some (.int .i64 px) ∧ wr.cell? ⟨w.heap.size, 1, none⟩ = some (.int .i64 py)) ∧ wr.cell? ⟨w.heap.size, 2, none⟩ = some (.int .i64 (Num.prevK K n k)) ∧ wr.frozen? ⟨w.heap.size, 0, none⟩ = false ∧ wr.frozen? ⟨w.heap.size, 1, none⟩ = false ∧ wr.frozen? ⟨w.heap.size, 2, none⟩ = false ∧ ∀ j, j < k → Num.badB K n j = false) (fun i _ => n - (intOf i).toNat)
    case atStart =>
      refine ⟨0, by omega, rfl, by (repeat (any_goals (first | exact Below.refl _ _ | assumption | refine Below.drew ?_ | refine below_drewN ?_ _ | refine Below.setCell ?_ ?_ _ | refine Below.alloc ?_ ?_ _ | omega | (simp; done) | (simp; omega)))), by simp, ⟨X (n - 1), Y (n - 1), ?_, ?_⟩, ?_, ?_, ?_, ?_, by omega⟩
      all_goals (first | (go_simp; done) | (simp [Num.prevK]; done))
    case round =>
      obtain ⟨k, hk, rfl, hb, hsz, ⟨px, py, q0, q1⟩, q2, z0, z1, z2, hno⟩ := hrel
      have HN := hide hno
      clear hno
      by_cases hlt : k < n
      · have hc : ∀ k, k < n → wr.cell? ⟨b, off + k * 3, none⟩ = some (.int .i64 (X k)) ∧ wr.cell? ⟨b, off + k * 3 + 1, none⟩ = some (.int .i64 (Y k)) ∧ wr.cell? ⟨b, off + k * 3 + 2, none⟩ = some (.int .i64 (K k)) := by
          intro k hk
          obtain ⟨c0, c1, c2⟩ := HC.out k hk
          exact ⟨(hb.cell (p := ⟨b, _, none⟩) hlt0).trans c0, (hb.cell (p := ⟨b, _, none⟩) hlt0).trans c1, (hb.cell (p := ⟨b, _, none⟩) hlt0).trans c2⟩
        obtain ⟨d0, d1, d2⟩ := hc k hlt
        obtain ⟨e0, e1, e2⟩ := hc 0 (by omega)
        simp only [Nat.zero_mul, Nat.add_zero] at e0 e1 e2
        have hpn : Num.prevK K n (k + 1) = K k := by simp [Num.prevK]
        have HP := hide hpn
        have hbw : b < wr.heap.size := by omega
        clear hpn
        by_cases hl2 : k + 1 < n
        · obtain ⟨f0, f1, f2⟩ := hc (k + 1) hl2
          clear hc c0 c1 c2
          have hnx : Num.nextK K n k = K (k + 1) := by unfold Num.nextK; rw [if_pos hl2]
          have hbad : Num.badB K n k = !Num.mayB (Num.prevK K n k) (K k) (K (k + 1)) := by unfold Num.badB; rw [hnx]
          have HBad := hide hbad
          clear hbad hnx
          go_wp2_with fail
          refine (mayStand_any _ _ _ _).mono ?_
          rintro e w' ⟨rfl, rfl⟩
          cases hm : Num.mayB (Num.prevK K n k) (K k) (K (k + 1))
          · go_wp2
            go_ret
            exact ⟨ret_int (Num.firstI_hit _ _ _ hlt (by rw [HBad.out, hm]; rfl) HN.out).symm, by (repeat (any_goals (first | exact Below.refl _ _ | assumption | refine Below.drew ?_ | refine below_drewN ?_ _ | refine Below.setCell ?_ ?_ _ | refine Below.alloc ?_ ?_ _ | omega | (simp; done) | (simp; omega))))⟩
          · go_wp2
            go_roundw
            case rel =>
              refine ⟨k + 1, by omega, by go_num, by (repeat (any_goals (first | exact Below.refl _ _ | assumption | refine Below.drew ?_ | refine below_drewN ?_ _ | refine Below.setCell ?_ ?_ _ | refine Below.alloc ?_ ?_ _ | omega | (simp; done) | (simp; omega)))), by simp; omega, ⟨X k, Y k, ?_, ?_⟩, ?_, ?_, ?_, ?_, fun j hj => ?_⟩
              case refine_7 =>
                by_cases ej : j = k
                · subst ej; rw [HBad.out, hm]; rfl
                · exact HN.out j (by omega)
              all_goals (try rw [HP.out])
              all_goals go_simp
            case measure => simp [intOf]; omega
        · clear hc c0 c1 c2
          have hnx : Num.nextK K n k = K 0 := by unfold Num.nextK; rw [if_neg hl2]
          have hbad : Num.badB K n k = !Num.mayB (Num.prevK K n k) (K k) (K 0) := by unfold Num.badB; rw [hnx]
          have HBad := hide hbad
          clear hbad hnx
          go_wp2_with fail
          refine (mayStand_any _ _ _ _).mono ?_
          rintro e w' ⟨rfl, rfl⟩
          cases hm : Num.mayB (Num.prevK K n k) (K k) (K 0)
          · go_wp2
            go_ret
            exact ⟨ret_int (Num.firstI_hit _ _ _ hlt (by rw [HBad.out, hm]; rfl) HN.out).symm, by (repeat (any_goals (first | exact Below.refl _ _ | assumption | refine Below.drew ?_ | refine below_drewN ?_ _ | refine Below.setCell ?_ ?_ _ | refine Below.alloc ?_ ?_ _ | omega | (simp; done) | (simp; omega))))⟩
          · go_wp2
            go_roundw
            case rel =>
              refine ⟨k + 1, by omega, by go_num, by (repeat (any_goals (first | exact Below.refl _ _ | assumption | refine Below.drew ?_ | refine below_drewN ?_ _ | refine Below.setCell ?_ ?_ _ | refine Below.alloc ?_ ?_ _ | omega | (simp; done) | (simp; omega)))), by simp; omega, ⟨X k, Y k, ?_, ?_⟩, ?_, ?_, ?_, ?_, fun j hj => ?_⟩
              case refine_7 =>
                by_cases ej : j = k
                · subst ej; rw [HBad.out, hm]; rfl
                · exact HN.out j (by omega)
              all_goals (try rw [HP.out])
              all_goals go_simp
            case measure => simp [intOf]; omega
      · go_wp2
        go_ret
        have e : k = n := by omega
        subst e
        exact ⟨ret_int (Num.firstI_none _ _ HN.out).symm, hb⟩
end Go.Proofs.Ytkhcjkmifddlbaa
