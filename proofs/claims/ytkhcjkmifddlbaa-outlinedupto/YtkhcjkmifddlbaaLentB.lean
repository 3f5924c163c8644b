/- The caller's lists: samePoints, lent. -/
import Derived.Test.YtkhcjkmifddlbaaLend
namespace Go.Proofs.Ytkhcjkmifddlbaa
open Go.RowKit Go.Deep

set_option maxHeartbeats 400000 in
theorem samePoints_any (a a' : Option Addr) (n c c' : Nat) (X Y K : Nat → Int) (w : World) (hn : n ≤ 4294967296) (hr : RingAt w a n X Y K) (hr' : RingAt w a' n X Y K) :
    Calls Try.prog 86 #[.slice a n c, .slice a' n c'] w fun e w' => e = .returned (.bool true) ∧ ∃ nd, w' = w.drewN nd := by
  have HR := hide hr
  have HR' := hide hr'
  clear hr hr'
  go_enter Try.func86, Try.ntmps86
  go_wp2_with fail
  go_loopw [5] (fun i wr => ∃ k nd : Nat, k ≤ n ∧ i = .int .i64 k ∧ wr = w.drewN nd) (fun i _ => n - (intOf i).toNat)
  case atStart => exact ⟨0, 0, by omega, rfl, rfl⟩
  case round =>
    obtain ⟨k, nd, hk, rfl, rfl⟩ := hrel
    by_cases hlt : k < n
    · rcases HR.out with h | ⟨b, off, rfl, hc⟩
      · omega
      rcases HR'.out with h | ⟨b', off', rfl, hc'⟩
      · omega
      obtain ⟨c0, c1, c2⟩ := hc k hlt
      obtain ⟨d0, d1, d2⟩ := hc' k hlt
      clear hc hc'
      have g0 : (0 : Int) ≤ (k : Int) := by omega
      have g1 : (k : Int) < (n : Int) := by omega
      go_wp2
      go_quiet (fail)
      go_wp2
      go_roundw
      case rel => exact ⟨k + 1, nd + nq, by omega, by go_num, rfl⟩
      case measure => simp [intOf]; omega
    · go_wp2
      go_ret
      exact ⟨rfl, nd, rfl⟩

set_option maxHeartbeats 400000 in
theorem ink_exact (w : World) :
    Calls Try.prog 82 #[] w fun e w' => e = .returned (.agg #[.int .i64 1099511627776, .int .i64 (-7), .int .i64 9]) ∧ w' = w.alloc (.cells #[.int .i64 1099511627776, .int .i64 (-7), .int .i64 9] 133) := by
  go_enter Try.func82, Try.ntmps82
  go_wp2
  exact bodyPost_ret (v := .agg #[.int .i64 1099511627776, .int .i64 (-7), .int .i64 9]) (by simp [results, Try.results82, go_sem]) rfl ⟨rfl, rfl⟩

set_option maxHeartbeats 1000000 in
theorem lent_any (a : Option Addr) (N c base ob : Nat) (A : Nat → Option Addr) (C n B : Nat → Nat) (X Y K : Nat → Nat → Int) (w : World) (hN : N ≤ 4294967295) (hn : ∀ i, i < N → n i ≤ 4294967295)
    (hl : Lent w base ob N B n X Y K) (ho : OutAt w a N A C n X Y K) :
    Calls Try.prog 47 #[.slice (some ⟨ob, 0, none⟩) N (N + 2), .slice a N c] w fun e w' => e = .returned (.bool true) ∧ Below w.heap.size w w' := by
  have HN := hide hn
  have HO := hide ho
  have HL := hide hl
  clear hn ho hl
  go_enter Try.func47, Try.ntmps47
  go_wp2_with fail
  go_loopw [6] (fun i wr => ∃ k : Nat, k ≤ N + 2 ∧ i = .int .i64 k ∧ Below w.heap.size w wr) (fun i _ => N + 2 - (intOf i).toNat)
  case atStart => exact ⟨0, by omega, rfl, Below.refl _ _⟩
  case round =>
    obtain ⟨wo, rfl⟩ : ∃ wo, wo = wr := ⟨wr, rfl⟩
    obtain ⟨i, hi, rfl, hb⟩ := hrel
    have hsz := hb.size
    by_cases hlt : i < N + 2
    · have hd1 : decide ((i : Int) < (N : Int) + 2) = true := by simp; omega
      have HL2 := hide (HL.out.below hb)
      have oi := HL2.out.outer.cell (i := i) hlt
      by_cases hiN : i < N
      · have hln : ln N n i = n i := by unfold ln; rw [if_pos hiN]
        have HO2 := hide (HO.out.below hb)
        rcases HO2.out.1 with h | ⟨b, off, rfl, hc⟩
        · omega
        have ci := hc i hiN
        clear hc
        have hni := HN.out i hiN
        have HLN := hide hln
        rw [hln] at oi
        clear hln
        have g0 : (0 : Int) ≤ (i : Int) := by omega
        have g1 : (i : Int) < (N : Int) := by omega
        have g2 : (i : Int) < (N : Int) + 2 := by omega
        go_wp2_with fail
        have R1 := hide (HL2.out.out.2 i hiN)
        have R2 := hide (HO2.out.2 i hiN)
        go_region_held3 (fun w' => w'.cell? ⟨ob, i, none⟩ = some (.slice (some ⟨B i, 0, none⟩) (n i) (n i + 2)) ∧ w'.cell? ⟨b, off + i, none⟩ = some (.slice (A i) (n i) (C i))) (go_keep) ((go_at_call 86; refine (samePoints_any _ _ _ _ _ (X i) (Y i) (K i) _ (by omega) (by exact R1.out.below (by (repeat (any_goals (first | exact Below.refl _ _ | assumption | refine Below.drew ?_ | refine below_drewN ?_ _ | refine Below.setCell ?_ ?_ _ | refine Below.alloc ?_ ?_ _ | omega | (simp; done) | (simp; omega)))))) (by exact R2.out.below (by (repeat (any_goals (first | exact Below.refl _ _ | assumption | refine Below.drew ?_ | refine below_drewN ?_ _ | refine Below.setCell ?_ ?_ _ | refine Below.alloc ?_ ?_ _ | omega | (simp; done) | (simp; omega))))))).mono ?_; rintro e w' ⟨rfl, nd, rfl⟩))
        go_wp2_with fail
        go_loopw [10] (fun q wr => ∃ k : Nat, n i ≤ k ∧ k ≤ n i + 2 ∧ q = .int .i64 k ∧ Below w.heap.size w wr) (fun q _ => n i + 2 - (intOf q).toNat)
        case atStart => exact ⟨n i, by omega, by omega, rfl, by (repeat (any_goals (first | exact Below.refl _ _ | assumption | refine Below.drew ?_ | refine below_drewN ?_ _ | refine Below.setCell ?_ ?_ _ | refine Below.alloc ?_ ?_ _ | omega | (simp; done) | (simp; omega))))⟩
        case round =>
          obtain ⟨k, hk0, hk, rfl, hbr⟩ := hrel
          have hszr := hbr.size
          by_cases hk2 : k < n i + 2
          · have hd2 : decide ((k : Int) < ((n i : Int) + 2)) = true := by simp; omega
            obtain ⟨q0, q1, q2⟩ := row_cells ((HL.out.below hbr).inner i hlt) k (by rw [HLN.out]; omega)
            have hnl : ¬ k < ln N n i := by rw [HLN.out]; omega
            simp only [lx, ly, lk, if_neg hnl] at q0 q1 q2
            have g3 : (0 : Int) ≤ (k : Int) := by omega
            have g4 : (k : Int) < (n i : Int) + 2 := by omega
            clear hnl
            go_wp2_with fail
            go_region_held3 (fun w' => w'.cell? ⟨B i, k * 3, none⟩ = some (.int .i64 1099511627776) ∧ w'.cell? ⟨B i, k * 3 + 1, none⟩ = some (.int .i64 (-7)) ∧ w'.cell? ⟨B i, k * 3 + 2, none⟩ = some (.int .i64 9)) (go_keep) ((go_at_call 82; refine (ink_exact _).mono ?_; rintro e w' ⟨rfl, rfl⟩))
            all_goals
              go_wp2
              go_roundw
              case rel => exact ⟨k + 1, by omega, by omega, by go_num, by (repeat (any_goals (first | exact Below.refl _ _ | assumption | refine Below.drew ?_ | refine below_drewN ?_ _ | refine Below.setCell ?_ ?_ _ | refine Below.alloc ?_ ?_ _ | omega | (simp; done) | (simp; omega))))⟩
              case measure => simp [intOf]; omega
          · go_wp2
            go_roundw
            case rel => exact ⟨i + 1, by omega, by go_num, by (repeat (any_goals (first | exact Below.refl _ _ | assumption | refine Below.drew ?_ | refine below_drewN ?_ _ | refine Below.setCell ?_ ?_ _ | refine Below.alloc ?_ ?_ _ | omega | (simp; done) | (simp; omega))))⟩
            case measure => simp [intOf]; omega
      · have hln : ln N n i = 0 := by unfold ln; rw [if_neg hiN]
        have HLN := hide hln
        rw [hln] at oi
        clear hln
        have hd3 : decide ((i : Int) < (N : Int)) = false := by simp; omega
        go_wp2_with fail
        go_loopw [10] (fun q wr => ∃ k : Nat, 0 ≤ k ∧ k ≤ 2 ∧ q = .int .i64 k ∧ Below w.heap.size w wr) (fun q _ => 2 - (intOf q).toNat)
        case atStart => exact ⟨0, by omega, by omega, rfl, by (repeat (any_goals (first | exact Below.refl _ _ | assumption | refine Below.drew ?_ | refine below_drewN ?_ _ | refine Below.setCell ?_ ?_ _ | refine Below.alloc ?_ ?_ _ | omega | (simp; done) | (simp; omega))))⟩
        case round =>
          obtain ⟨k, hk0, hk, rfl, hbr⟩ := hrel
          have hszr := hbr.size
          by_cases hk2 : k < 2
          · have hd2 : decide ((k : Int) < (2)) = true := by simp; omega
            obtain ⟨q0, q1, q2⟩ := row_cells ((HL.out.below hbr).inner i hlt) k (by rw [HLN.out]; omega)
            have hnl : ¬ k < ln N n i := by rw [HLN.out]; omega
            simp only [lx, ly, lk, if_neg hnl] at q0 q1 q2
            have g3 : (0 : Int) ≤ (k : Int) := by omega
            have g4 : (k : Int) < 2 := by omega
            clear hnl
            go_wp2_with fail
            go_region_held3 (fun w' => w'.cell? ⟨B i, k * 3, none⟩ = some (.int .i64 1099511627776) ∧ w'.cell? ⟨B i, k * 3 + 1, none⟩ = some (.int .i64 (-7)) ∧ w'.cell? ⟨B i, k * 3 + 2, none⟩ = some (.int .i64 9)) (go_keep) ((go_at_call 82; refine (ink_exact _).mono ?_; rintro e w' ⟨rfl, rfl⟩))
            all_goals
              go_wp2
              go_roundw
              case rel => exact ⟨k + 1, by omega, by omega, by go_num, by (repeat (any_goals (first | exact Below.refl _ _ | assumption | refine Below.drew ?_ | refine below_drewN ?_ _ | refine Below.setCell ?_ ?_ _ | refine Below.alloc ?_ ?_ _ | omega | (simp; done) | (simp; omega))))⟩
              case measure => simp [intOf]; omega
          · go_wp2
            go_roundw
            case rel => exact ⟨i + 1, by omega, by go_num, by (repeat (any_goals (first | exact Below.refl _ _ | assumption | refine Below.drew ?_ | refine below_drewN ?_ _ | refine Below.setCell ?_ ?_ _ | refine Below.alloc ?_ ?_ _ | omega | (simp; done) | (simp; omega))))⟩
            case measure => simp [intOf]; omega
    · go_wp2
      go_ret
      exact ⟨rfl, hb⟩
end Go.Proofs.Ytkhcjkmifddlbaa
