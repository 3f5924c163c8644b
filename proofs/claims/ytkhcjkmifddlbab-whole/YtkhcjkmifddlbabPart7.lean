/- Joined: Chk, ChkB, RefChk, RefSeg, HeldB, RingS, HeldC, RingT, RefSegB, RefRing, RingU, RngP. -/
import Derived.Test.YtkhcjkmifddlbabPart1
import Derived.Test.YtkhcjkmifddlbabPart3
import Derived.Test.YtkhcjkmifddlbabPart2
import Derived.BigRegion
import Derived.Test.YtkhcjkmifddlbabPart4
/- Chk -/
namespace Go.Proofs.Ytkhcjkmifddlbab
open Go.RowKit

set_option maxHeartbeats 400000 in
theorem mayStand_any (a k b : Int) (w : World) :
    Calls Try.prog 109 #[.int .i64 a, .int .i64 k, .int .i64 b] w fun e w' => e = .returned (.bool (Num.mayB a k b)) ∧ w' = w := by
  go_enter Try.func109, Try.ntmps109
  go_wp2
  all_goals
    go_ret
    refine ⟨ret_bool ?_, rfl⟩
    simp_all [Num.mayB]

set_option maxHeartbeats 400000 in
theorem firstFar_any (a : Option Addr) (n c : Nat) (X Y K : Nat → Int) (w : World) (hn : n ≤ 4294967296) (hr : RingAt w a n X Y K) :
    Calls Try.prog 94 #[.slice a n c] w fun e w' => e = .returned (.int .i64 (Num.farI X Y n)) ∧ Below w.heap.size w w' := by
  go_enter Try.func94, Try.ntmps94
  go_wp2
  go_loopw [7] (fun i wr => ∃ k : Nat, k ≤ n ∧ i = .int .i64 k ∧ Below w.heap.size w wr ∧ ∀ j, j < k → Num.farB X Y j = false) (fun i _ => n - (intOf i).toNat)
  case atStart => exact ⟨0, by omega, rfl, Below.refl _ _, by omega⟩
  case round =>
    obtain ⟨k, hk, rfl, hb, hno⟩ := hrel
    have hsz := hb.size
    have HN := hide hno
    clear hno
    by_cases hlt : k < n
    · rcases hr.below hb with h | ⟨b, off, rfl, hc⟩
      · omega
      · obtain ⟨c0, c1, c2⟩ := hc k hlt
        clear hc hr
        cases hx : Num.wi (X k) 4096
        · have hf : Num.farB X Y k = true := by simp [Num.farB, hx]
          have HF := hide hf
          clear hf
          go_wp2_with (go_at_call 86; refine (within_any _ _ _ (by omega) (by omega)).mono ?_; rintro e w' ⟨rfl, rfl⟩)
          go_ret
          exact ⟨ret_int (Num.firstI_hit _ _ _ hlt HF.out HN.out).symm, by (repeat (any_goals (first | exact Below.refl _ _ | assumption | refine Below.drew ?_ | refine below_drewN ?_ _ | refine Below.setCell ?_ ?_ _ | refine Below.alloc ?_ ?_ _ | omega | (simp; done) | (simp; omega))))⟩
        · cases hy : Num.wi (Y k) 4096
          · have hf : Num.farB X Y k = true := by simp [Num.farB, hy]
            have HF := hide hf
            clear hf
            go_wp2_with (go_at_call 86; refine (within_any _ _ _ (by omega) (by omega)).mono ?_; rintro e w' ⟨rfl, rfl⟩)
            go_ret
            exact ⟨ret_int (Num.firstI_hit _ _ _ hlt HF.out HN.out).symm, by (repeat (any_goals (first | exact Below.refl _ _ | assumption | refine Below.drew ?_ | refine below_drewN ?_ _ | refine Below.setCell ?_ ?_ _ | refine Below.alloc ?_ ?_ _ | omega | (simp; done) | (simp; omega))))⟩
          · have hf : Num.farB X Y k = false := by simp [Num.farB, hx, hy]
            have HF := hide hf
            clear hf
            go_wp2_with (go_at_call 86; refine (within_any _ _ _ (by omega) (by omega)).mono ?_; rintro e w' ⟨rfl, rfl⟩)
            go_roundw
            case rel =>
              refine ⟨k + 1, by omega, by go_num, by (repeat (any_goals (first | exact Below.refl _ _ | assumption | refine Below.drew ?_ | refine below_drewN ?_ _ | refine Below.setCell ?_ ?_ _ | refine Below.alloc ?_ ?_ _ | omega | (simp; done) | (simp; omega)))), fun j hj => ?_⟩
              by_cases ej : j = k
              · subst ej; exact HF.out
              · exact HN.out j (by omega)
            case measure => simp [intOf]; omega
    · go_wp2
      go_ret
      have e : k = n := by omega
      subst e
      exact ⟨ret_int (Num.firstI_none _ _ HN.out).symm, hb⟩

set_option maxHeartbeats 400000 in
theorem shapeFault_any (a : Option Addr) (n c : Nat) (X Y K : Nat → Int) (w : World) (hn : n ≤ 4294967296) (hr : RingAt w a n X Y K) :
    Calls Try.prog 93 #[.slice a n c] w fun e w' => e = .returned (.int .i64 (Num.shapeI K n)) ∧ Below w.heap.size w w' := by
  by_cases h2 : n < 2
  · have e : Num.shapeI K n = n := by unfold Num.shapeI; rw [if_pos h2]
    rw [e]
    clear e
    go_enter Try.func93, Try.ntmps93
    go_wp2_with fail
    go_ret
    exact ⟨rfl, Below.refl _ _⟩
  · have e : Num.shapeI K n = Num.firstI (Num.badB K n) n := by unfold Num.shapeI; rw [if_neg h2]
    rw [e]
    clear e
    rcases hr with h | ⟨b, off, rfl, hc⟩
    · omega
    obtain ⟨c0, c1, c2⟩ := hc (n - 1) (by omega)
    have hlt0 : b < w.heap.size := World.block_lt_of_cell? w _ c0
    have HC := hide hc
    clear hc
    go_enter Try.func93, Try.ntmps93
    go_wp2_with fail
    go_loopw [20] (fun i wr => ∃ k : Nat, k ≤ n ∧ i = .int .i64 k ∧ Below w.heap.size w wr ∧ w.heap.size < wr.heap.size ∧ (∃ px py, wr.cell? ⟨w.heap.size, 0, none⟩ = some (.int .i64 px) ∧ wr.cell? ⟨w.heap.size, 1, none⟩ = some (.int .i64 py)) ∧ wr.cell? ⟨w.heap.size, 2, none⟩ = some (.int .i64 (Num.prevK K n k)) ∧ wr.frozen? ⟨w.heap.size, 0, none⟩ = false ∧ wr.frozen? ⟨w.heap.size, 1, none⟩ = false ∧ wr.frozen? ⟨w.heap.size, 2, none⟩ = false ∧ ∀ j, j < k → Num.badB K n j = false) (fun i _ => n - (intOf i).toNat)
    case atStart =>
      refine ⟨0, by omega, rfl, by (repeat (any_goals (first | exact Below.refl _ _ | assumption | refine Below.drew ?_ | refine below_drewN ?_ _ | refine Below.setCell ?_ ?_ _ | refine Below.alloc ?_ ?_ _ | omega | (simp; done) | (simp; omega)))), by simp, ⟨X (n - 1), Y (n - 1), ?_, ?_⟩, ?_, ?_, ?_, ?_, by omega⟩
      all_goals (first | (go_simp; done) | (simp [Num.prevK]; done))
    case round =>
      obtain ⟨k, hk, rfl, hb, hsz, ⟨px, py, q0, q1⟩, q2, z0, z1, z2, hno⟩ := hrel
      have HN := hide hno
      clear hno
      by_cases hlt : k < n
      · have hc : ∀ k, k < n → wr.cell? ⟨b, off + k * 3, none⟩ = some (.int .i64 (X k)) ∧ wr.cell? ⟨b, off + k * 3 + 1, none⟩ = some (.int .i64 (Y k)) ∧ wr.cell? ⟨b, off + k * 3 + 2, none⟩ = some (.int .i64 (K k)) := by
          intro k hk
          obtain ⟨c0, c1, c2⟩ := HC.out k hk
          exact ⟨(hb.cell (p := ⟨b, _, none⟩) hlt0).trans c0, (hb.cell (p := ⟨b, _, none⟩) hlt0).trans c1, (hb.cell (p := ⟨b, _, none⟩) hlt0).trans c2⟩
        obtain ⟨d0, d1, d2⟩ := hc k hlt
        obtain ⟨e0, e1, e2⟩ := hc 0 (by omega)
        simp only [Nat.zero_mul, Nat.add_zero] at e0 e1 e2
        have hpn : Num.prevK K n (k + 1) = K k := by simp [Num.prevK]
        have HP := hide hpn
        have hbw : b < wr.heap.size := by omega
        clear hpn
        by_cases hl2 : k + 1 < n
        · obtain ⟨f0, f1, f2⟩ := hc (k + 1) hl2
          clear hc c0 c1 c2
          have hnx : Num.nextK K n k = K (k + 1) := by unfold Num.nextK; rw [if_pos hl2]
          have hbad : Num.badB K n k = !Num.mayB (Num.prevK K n k) (K k) (K (k + 1)) := by unfold Num.badB; rw [hnx]
          have HBad := hide hbad
          clear hbad hnx
          go_wp2_with fail
          refine (mayStand_any _ _ _ _).mono ?_
          rintro e w' ⟨rfl, rfl⟩
          cases hm : Num.mayB (Num.prevK K n k) (K k) (K (k + 1))
          · go_wp2
            go_ret
            exact ⟨ret_int (Num.firstI_hit _ _ _ hlt (by rw [HBad.out, hm]; rfl) HN.out).symm, by (repeat (any_goals (first | exact Below.refl _ _ | assumption | refine Below.drew ?_ | refine below_drewN ?_ _ | refine Below.setCell ?_ ?_ _ | refine Below.alloc ?_ ?_ _ | omega | (simp; done) | (simp; omega))))⟩
          · go_wp2
            go_roundw
            case rel =>
              refine ⟨k + 1, by omega, by go_num, by (repeat (any_goals (first | exact Below.refl _ _ | assumption | refine Below.drew ?_ | refine below_drewN ?_ _ | refine Below.setCell ?_ ?_ _ | refine Below.alloc ?_ ?_ _ | omega | (simp; done) | (simp; omega)))), by simp; omega, ⟨X k, Y k, ?_, ?_⟩, ?_, ?_, ?_, ?_, fun j hj => ?_⟩
              case refine_7 =>
                by_cases ej : j = k
                · subst ej; rw [HBad.out, hm]; rfl
                · exact HN.out j (by omega)
              all_goals (try rw [HP.out])
              all_goals go_simp
            case measure => simp [intOf]; omega
        · clear hc c0 c1 c2
          have hnx : Num.nextK K n k = K 0 := by unfold Num.nextK; rw [if_neg hl2]
          have hbad : Num.badB K n k = !Num.mayB (Num.prevK K n k) (K k) (K 0) := by unfold Num.badB; rw [hnx]
          have HBad := hide hbad
          clear hbad hnx
          go_wp2_with fail
          refine (mayStand_any _ _ _ _).mono ?_
          rintro e w' ⟨rfl, rfl⟩
          cases hm : Num.mayB (Num.prevK K n k) (K k) (K 0)
          · go_wp2
            go_ret
            exact ⟨ret_int (Num.firstI_hit _ _ _ hlt (by rw [HBad.out, hm]; rfl) HN.out).symm, by (repeat (any_goals (first | exact Below.refl _ _ | assumption | refine Below.drew ?_ | refine below_drewN ?_ _ | refine Below.setCell ?_ ?_ _ | refine Below.alloc ?_ ?_ _ | omega | (simp; done) | (simp; omega))))⟩
          · go_wp2
            go_roundw
            case rel =>
              refine ⟨k + 1, by omega, by go_num, by (repeat (any_goals (first | exact Below.refl _ _ | assumption | refine Below.drew ?_ | refine below_drewN ?_ _ | refine Below.setCell ?_ ?_ _ | refine Below.alloc ?_ ?_ _ | omega | (simp; done) | (simp; omega)))), by simp; omega, ⟨X k, Y k, ?_, ?_⟩, ?_, ?_, ?_, ?_, fun j hj => ?_⟩
              case refine_7 =>
                by_cases ej : j = k
                · subst ej; rw [HBad.out, hm]; rfl
                · exact HN.out j (by omega)
              all_goals (try rw [HP.out])
              all_goals go_simp
            case measure => simp [intOf]; omega
      · go_wp2
        go_ret
        have e : k = n := by omega
        subst e
        exact ⟨ret_int (Num.firstI_none _ _ HN.out).symm, hb⟩
end Go.Proofs.Ytkhcjkmifddlbab

/- ChkB -/
namespace Go.Proofs.Ytkhcjkmifddlbab
open Go.RowKit

theorem many_of_sum {N : Nat} {n : Nat → Nat} {k : Nat} (hk : k ≤ N) (h : 200 < Num.sumN n k) : Num.manyB N n = true := by
  have := Num.sumN_mono n hk
  simp [Num.manyB]; omega

set_option maxHeartbeats 400000 in
theorem tooMany_any (a : Option Addr) (N c : Nat) (A : Nat → Option Addr) (C n : Nat → Nat) (X Y K : Nat → Nat → Int) (w : World) (hN : N ≤ 4294967296) (hn : ∀ i, i < N → n i ≤ 4294967296) (ho : OutAt w a N A C n X Y K) :
    Calls Try.prog 92 #[.slice a N c] w fun e w' => e = .returned (.bool (Num.manyB N n)) ∧ w' = w := by
  have hout := ho.1
  clear ho
  by_cases h16 : 16 < N
  · have e : Num.manyB N n = true := by simp [Num.manyB, h16]
    rw [e]
    clear e hn
    go_enter Try.func92, Try.ntmps92
    go_wp2_with fail
    go_ret
    exact ⟨rfl, rfl⟩
  · have h16' : N ≤ 16 := by omega
    have HN := hide hn
    clear hn
    go_enter Try.func92, Try.ntmps92
    go_wp2_with fail
    go_loop [3, 11] (fun l i => ∃ k : Nat, k ≤ N ∧ i = .int .i64 k ∧ l = .int .i64 (200 - (Num.sumN n k : Int)) ∧ Num.sumN n k ≤ 200) (fun _ i => N - (intOf i).toNat)
    case atStart => exact ⟨0, by omega, rfl, by simp [Num.sumN], by simp [Num.sumN]⟩
    case round =>
      obtain ⟨k, hk, rfl, rfl, hs⟩ := hrel
      by_cases hlt : k < N
      · rcases hout with h | ⟨b, off, rfl, hc⟩
        · omega
        have ci := hc k hlt
        have hnk := HN.out k hlt
        clear hc
        have hsum : Num.sumN n (k + 1) = Num.sumN n k + n k := rfl
        have HS := hide hsum
        clear hsum
        by_cases hov : 200 - (Num.sumN n k : Int) < (n k : Int)
        · go_wp2
          go_ret
          exact ⟨ret_bool (many_of_sum (k := k + 1) (by omega) (by have := HS.out; omega)).symm, rfl⟩
        · go_wp2
          go_round
          case rel => exact ⟨k + 1, by omega, by go_num, by rw [HS.out]; go_num, by rw [HS.out]; omega⟩
          case measure => simp [intOf]; omega
      · go_wp2
        go_ret
        have e : k = N := by omega
        subst e
        exact ⟨ret_bool (by simp [Num.manyB]; omega), rfl⟩

set_option maxHeartbeats 400000 in
theorem check_any (a : Option Addr) (N c : Nat) (A : Nat → Option Addr) (C n : Nat → Nat) (X Y K : Nat → Nat → Int) (w : World) (hN : N ≤ 4294967296) (hn : ∀ i, i < N → n i ≤ 4294967296) (ho : OutAt w a N A C n X Y K) :
    Calls Try.prog 84 #[.slice a N c] w fun e w' =>
      e = .returned (.tuple #[.int .i64 (Num.chkV N n X Y K).1, .int .i64 (Num.chkV N n X Y K).2.1, .int .i64 (Num.chkV N n X Y K).2.2]) ∧ Below w.heap.size w w' := by
  have HN := hide hn
  have HO := hide ho
  clear hn ho
  cases hm : Num.manyB N n
  · go_enter Try.func84, Try.ntmps84
    go_wp2_with fail
    refine (tooMany_any _ _ _ A C n X Y K _ hN HN.out HO.out).mono ?_
    rintro e w' ⟨rfl, hw⟩
    rw [hm, hw]
    clear hw
    go_wp2_with fail
    go_loopw [15] (fun i wr => ∃ k : Nat, k ≤ N ∧ i = .int .i64 k ∧ Below w.heap.size w wr ∧ ∀ j, j < k → Num.shapeAt n K j = false) (fun i _ => N - (intOf i).toNat)
    case atStart => exact ⟨0, by omega, rfl, Below.refl _ _, by omega⟩
    case round =>
      obtain ⟨k, hk, rfl, hb, hno⟩ := hrel
      have hsz := hb.size
      have HNo := hide hno
      clear hno
      have HO2 := hide (HO.out.below hb)
      by_cases hlt : k < N
      · rcases HO2.out.1 with h | ⟨b, off, rfl, hc⟩
        · omega
        have ci := hc k hlt
        clear hc
        go_wp2_with fail
        refine (shapeFault_any _ _ _ _ _ _ _ (HN.out k hlt) (HO2.out.2 k hlt)).mono ?_
        rintro e w1 ⟨rfl, hb1⟩
        have hb2 : Below w.heap.size w w1 := hb.trans (hb1.mono hsz)
        clear hb1
        cases hs : Num.shapeAt n K k
        · have hs' : Num.shapeI (K k) (n k) = -1 := by simpa [Num.shapeAt] using hs
          rw [hs']
          have HS := hide hs
          clear hs hs'
          go_wp2
          go_roundw
          case rel =>
            refine ⟨k + 1, by omega, by go_num, hb2, fun j hj => ?_⟩
            by_cases ej : j = k
            · subst ej; exact HS.out
            · exact HNo.out j (by omega)
          case measure => simp [intOf]; omega
        · have hs' : (Num.shapeI (K k) (n k) != -1) = true := by simpa [Num.shapeAt] using hs
          have hv := Num.chk_shape N n X Y K hm k hlt hs HNo.out
          have HV := hide hv
          clear hs hv
          go_wp2
          go_ret3
          rw [HV.out]
          exact ⟨rfl, hb2⟩
      · have e : k = N := by omega
        subst e
        go_wp2_with fail
        go_loopw [29] (fun i wr' => ∃ j : Nat, j ≤ k ∧ i = .int .i64 j ∧ Below w.heap.size w wr' ∧ ∀ q, q < j → Num.farAt n X Y q = false) (fun i _ => k - (intOf i).toNat)
        case atStart => exact ⟨0, by omega, rfl, hb, by omega⟩
        case round =>
          obtain ⟨j, hj, rfl, hb', hno'⟩ := hrel
          have hsz' := hb'.size
          have HNo' := hide hno'
          clear hno'
          have HO3 := hide (HO.out.below hb')
          by_cases hlt' : j < k
          · rcases HO3.out.1 with h | ⟨b, off, rfl, hc⟩
            · omega
            have ci := hc j hlt'
            clear hc
            go_wp2_with fail
            refine (firstFar_any _ _ _ _ _ _ _ (HN.out j hlt') (HO3.out.2 j hlt')).mono ?_
            rintro e w1 ⟨rfl, hb1⟩
            have hb2 : Below w.heap.size w w1 := hb'.trans (hb1.mono hsz')
            clear hb1
            cases hs : Num.farAt n X Y j
            · have hs' : Num.farI (X j) (Y j) (n j) = -1 := by simpa [Num.farAt] using hs
              rw [hs']
              have HS := hide hs
              clear hs hs'
              go_wp2
              go_roundw
              case rel =>
                refine ⟨j + 1, by omega, by go_num, hb2, fun q hq => ?_⟩
                by_cases ej : q = j
                · subst ej; exact HS.out
                · exact HNo'.out q (by omega)
              case measure => simp [intOf]; omega
            · have hs' : (Num.farI (X j) (Y j) (n j) != -1) = true := by simpa [Num.farAt] using hs
              have hv := Num.chk_far k n X Y K hm HNo.out j hlt' hs HNo'.out
              have HV := hide hv
              clear hs hv
              go_wp2
              go_ret3
              rw [HV.out]
              exact ⟨rfl, hb2⟩
          · have e : j = k := by omega
            subst e
            go_wp2
            go_ret3
            rw [Num.chk_ok j n X Y K hm HNo.out HNo'.out]
            exact ⟨rfl, hb'⟩
  · rw [Num.chk_many N n X Y K hm]
    go_enter Try.func84, Try.ntmps84
    go_wp2_with fail
    refine (tooMany_any _ _ _ A C n X Y K _ hN HN.out HO.out).mono ?_
    rintro e w' ⟨rfl, hw⟩
    rw [hm, hw]
    clear hw
    go_wp2
    go_ret3
    exact ⟨rfl, Below.refl _ _⟩

end Go.Proofs.Ytkhcjkmifddlbab

/- RefChk -/
namespace Go.Proofs.Ytkhcjkmifddlbab
open Go.RowKit

end Go.Proofs.Ytkhcjkmifddlbab

/- RefSeg -/
namespace Go.Proofs.Ytkhcjkmifddlbab
open Go.RowKit

def thereB (K : Nat → Int) (n t : Nat) : Bool := if t % 2 = 0 then true else (K (t / 2 % n) == 1 && K ((t / 2 + 1) % n) == 1)
theorem stp_there {X Y K : Nat → Int} {n t : Nat} : Num.stp X Y K n t = if thereB K n t = true then some (Num.stv X Y K n t) else none := by
  unfold Num.stp thereB Num.stv
  by_cases h : t % 2 = 0
  · simp [h]
  · simp only [if_neg h]
    by_cases h2 : K (t / 2 % n) = 1 ∧ K ((t / 2 + 1) % n) = 1
    · rw [if_pos h2, if_pos (by simp [h2])]
    · rw [if_neg h2, if_neg (by simpa using h2)]

end Go.Proofs.Ytkhcjkmifddlbab

/- HeldB -/
namespace Go.Proofs.Ytkhcjkmifddlbab
open Go.RowKit Go.Deep

set_option maxHeartbeats 400000 in
theorem mark_any (h : Nat) (s : HS) (w : World) (H : HeldInv w h s) (hn : s.n + 1 ≤ 1099511627776) :
    Calls Try.prog 61 #[.pointer (some ⟨h, 2, none⟩)] w fun e w' => e = .returned (.int .i64 (s.n + 1)) ∧ w' = w.setCell ⟨h, 2, none⟩ (.int .i64 (s.n + 1)) := by
  have c2 : w.cell? ⟨h, 2, none⟩ = some (.int .i64 s.n) := by rw [H.wd.cell (by omega)]; rfl
  have z2 := H.wd.frozen 2
  have l0 : 0 ≤ s.n := by have := H.lo; omega
  clear H
  go_enter Try.func61, Try.ntmps61
  go_wp2
  go_ret
  exact ⟨rfl, rfl⟩

set_option maxHeartbeats 400000 in
theorem markPoint_any (n : Int) (w : World) (h0 : 0 ≤ n) (h1 : n ≤ 1099511627776) :
    Calls Try.prog 63 #[.int .i64 n] w fun e w' => e = .returned (.agg #[.int .i64 (2199023255552 + n), .int .i64 (-7), .int .i64 9]) ∧ w' = w.alloc (.cells #[.int .i64 (2199023255552 + n), .int .i64 (-7), .int .i64 9] 90) := by
  go_enter Try.func63, Try.ntmps63
  go_wp2
  exact bodyPost_ret (v := .agg #[.int .i64 (2199023255552 + n), .int .i64 (-7), .int .i64 9]) (by simp [results, Try.results63, go_sem]) rfl ⟨rfl, rfl⟩

set_option maxHeartbeats 400000 in
theorem markSpot_any (n : Int) (w : World) (h0 : 0 ≤ n) (h1 : n ≤ 1099511627776) :
    Calls Try.prog 62 #[.int .i64 n] w fun e w' => e = .returned (.agg #[.int .i64 (2199023255552 + n), .int .i64 (-7)]) ∧ w' = w.alloc (.cells #[.int .i64 (2199023255552 + n), .int .i64 (-7)] 53) := by
  go_enter Try.func62, Try.ntmps62
  go_wp2
  exact bodyPost_ret (v := .agg #[.int .i64 (2199023255552 + n), .int .i64 (-7)]) (by simp [results, Try.results62, go_sem]) rfl ⟨rfl, rfl⟩

/-- A segment that is a mark. -/
def segMark (n : Int) : Value := .agg #[.int .i64 9, .int .i64 (2199023255552 + n), .int .i64 (-7), .int .i64 (2199023255552 + n), .int .i64 (-7), .int .i64 (2199023255552 + n), .int .i64 (-7), .int .i64 (2199023255552 + n), .int .i64 (-7)]

set_option maxHeartbeats 400000 in
theorem markSegment_any (n : Int) (w : World) (h0 : 0 ≤ n) (h1 : n ≤ 1099511627776) :
    Calls Try.prog 43 #[.int .i64 n] w fun e w' => e = .returned (segMark n) ∧ Below w.heap.size w w' := by
  go_enter Try.func43, Try.ntmps43
  go_wp2_with fail
  refine (markSpot_any _ _ h0 h1).mono ?_
  rintro e w1 ⟨rfl, rfl⟩
  go_wp2
  refine bodyPost_ret (v := segMark n) (by simp [results, Try.results43, go_sem, segMark]) rfl ⟨rfl, ?_⟩
  (repeat (any_goals (first | exact Below.refl _ _ | assumption | refine Below.drew ?_ | refine below_drewN ?_ _ | refine Below.setCell ?_ ?_ _ | refine Below.alloc ?_ ?_ _ | omega | (simp; done) | (simp; omega))))
theorem mkB_eq (n i q : Int) : IntKind.u8.wrap (IntKind.i64.wrap (n + IntKind.i64.wrap (i * q))) = IntKind.u8.wrap (n + i * q) := by
  rw [IntKind.wrap_u8, IntKind.wrap_u8, IntKind.wrap_i64, IntKind.wrap_i64]
  omega

set_option maxHeartbeats 400000 in
theorem markByte_any (n : Int) (i : Nat) (w : World) (h0 : 0 ≤ n) (h1 : n ≤ 1099511627776) :
    Calls Try.prog 44 #[.int .i64 n, .int .i64 i] w fun e w' => e = .returned (mkB n i) ∧ w' = w := by
  go_enter Try.func44, Try.ntmps44
  go_wp2
  go_ret
  refine ⟨?_, rfl⟩
  unfold mkB
  rw [← mkB_eq, IntKind.wrap_u8, IntKind.wrap_i64, IntKind.wrap_i64]
  show Ending.returned (.int .u8 (wrap64 (n + wrap64 ((i : Int) * (1 + n / 256))) % 256)) = _
  unfold wrap64
  rfl
end Go.Proofs.Ytkhcjkmifddlbab

/- RingS -/
namespace Go.Proofs.Ytkhcjkmifddlbab
open Go.RowKit Go.Deep

/-- A segment as a value, and its cells. -/
def sgC (g : Num.Sg) : List Value := [.int .i64 g.k, .int .i64 g.x0, .int .i64 g.y0, .int .i64 g.x1, .int .i64 g.y1, .int .i64 g.x2, .int .i64 g.y2, .int .i64 g.x3, .int .i64 g.y3]
def sgF (g : Num.Sg) (q : Nat) : Value := (sgC g)[q]?.getD undef

set_option maxHeartbeats 400000 in
theorem spot_any (x y k : Int) (w : World) :
    Calls Try.prog 97 #[.agg #[.int .i64 x, .int .i64 y, .int .i64 k]] w fun e w' => e = .returned (.agg #[.int .i64 x, .int .i64 y]) ∧ w' = (w.alloc (.cells #[.int .i64 x, .int .i64 y, .int .i64 k] 90)).alloc (.cells #[.int .i64 x, .int .i64 y] 53) := by
  go_enter Try.func97, Try.ntmps97
  go_wp2
  exact bodyPost_ret (v := .agg #[.int .i64 x, .int .i64 y]) (by simp [results, Try.results97, go_sem]) rfl ⟨rfl, rfl⟩

set_option maxRecDepth 100000 in
set_option maxHeartbeats 1000000 in
theorem withControl_any (g : Num.Sg) (p : Int × Int × Int) (w : World) :
    Calls Try.prog 98 #[.agg #[.int .i64 g.k, .int .i64 g.x0, .int .i64 g.y0, .int .i64 g.x1, .int .i64 g.y1, .int .i64 g.x2, .int .i64 g.y2, .int .i64 g.x3, .int .i64 g.y3], .agg #[.int .i64 p.1, .int .i64 p.2.1, .int .i64 p.2.2]] w fun e w' => e = .returned (.agg #[.int .i64 (Num.addP g p).k, .int .i64 (Num.addP g p).x0, .int .i64 (Num.addP g p).y0, .int .i64 (Num.addP g p).x1, .int .i64 (Num.addP g p).y1, .int .i64 (Num.addP g p).x2, .int .i64 (Num.addP g p).y2, .int .i64 (Num.addP g p).x3, .int .i64 (Num.addP g p).y3]) ∧ Below w.heap.size w w' := by
  obtain ⟨k, x0, y0, x1, y1, x2, y2, x3, y3⟩ := g
  obtain ⟨px, py, pk⟩ := p
  by_cases h0 : k = 0
  · have e : Num.addP ⟨k, x0, y0, x1, y1, x2, y2, x3, y3⟩ (px, py, pk) = ⟨pk, x0, y0, px, py, x2, y2, x3, y3⟩ := by simp [Num.addP, h0]
    rw [e]
    clear e
    have hb : (k == 0) = true := by simp [h0]
    clear h0
    go_enter Try.func98, Try.ntmps98
    go_wp2_with (go_at_call 97; refine (spot_any _ _ _ _).mono ?_; rintro e w' ⟨rfl, rfl⟩)
    refine bodyPost_ret (v := .agg #[.int .i64 pk, .int .i64 x0, .int .i64 y0, .int .i64 px, .int .i64 py, .int .i64 x2, .int .i64 y2, .int .i64 x3, .int .i64 y3]) (by simp [results, Try.results98, go_sem]) rfl ⟨rfl, ?_⟩
    (repeat (any_goals (first | exact Below.refl _ _ | assumption | refine Below.drew ?_ | refine below_drewN ?_ _ | refine Below.setCell ?_ ?_ _ | refine Below.alloc ?_ ?_ _ | omega | (simp; done) | (simp; omega))))
  · have e : Num.addP ⟨k, x0, y0, x1, y1, x2, y2, x3, y3⟩ (px, py, pk) = ⟨k, x0, y0, x1, y1, px, py, x3, y3⟩ := by simp [Num.addP, h0]
    rw [e]
    clear e
    have hb : (k == 0) = false := by simp [h0]
    clear h0
    go_enter Try.func98, Try.ntmps98
    go_wp2_with (go_at_call 97; refine (spot_any _ _ _ _).mono ?_; rintro e w' ⟨rfl, rfl⟩)
    refine bodyPost_ret (v := .agg #[.int .i64 k, .int .i64 x0, .int .i64 y0, .int .i64 x1, .int .i64 y1, .int .i64 px, .int .i64 py, .int .i64 x3, .int .i64 y3]) (by simp [results, Try.results98, go_sem]) rfl ⟨rfl, ?_⟩
    (repeat (any_goals (first | exact Below.refl _ _ | assumption | refine Below.drew ?_ | refine below_drewN ?_ _ | refine Below.setCell ?_ ?_ _ | refine Below.alloc ?_ ?_ _ | omega | (simp; done) | (simp; omega))))

set_option maxHeartbeats 400000 in
theorem firstOn_any (a : Option Addr) (n c : Nat) (X Y K : Nat → Int) (w : World) (hn : n ≤ 4294967296) (hr : RingAt w a n X Y K) :
    Calls Try.prog 96 #[.slice a n c] w fun e w' => e = .returned (.int .i64 (Num.firstI (fun j => K j == 0) n)) ∧ Below w.heap.size w w' := by
  have HR := hide hr
  clear hr
  go_enter Try.func96, Try.ntmps96
  go_wp2_with fail
  go_loopw [7] (fun i wr => ∃ k : Nat, k ≤ n ∧ i = .int .i64 k ∧ Below w.heap.size w wr ∧ ∀ j, j < k → (K j == 0) = false) (fun i _ => n - (intOf i).toNat)
  case atStart => exact ⟨0, by omega, rfl, Below.refl _ _, by omega⟩
  case round =>
    obtain ⟨k, hk, rfl, hb, hno⟩ := hrel
    have hsz := hb.size
    have HN := hide hno
    clear hno
    by_cases hlt : k < n
    · rcases HR.out.below hb with h | ⟨b, off, rfl, hc⟩
      · omega
      obtain ⟨c0, c1, c2⟩ := hc k hlt
      clear hc
      cases hz : (K k == 0)
      · go_wp2
        go_roundw
        case rel =>
          refine ⟨k + 1, by omega, by go_num, by (repeat (any_goals (first | exact Below.refl _ _ | assumption | refine Below.drew ?_ | refine below_drewN ?_ _ | refine Below.setCell ?_ ?_ _ | refine Below.alloc ?_ ?_ _ | omega | (simp; done) | (simp; omega)))), fun j hj => ?_⟩
          by_cases ej : j = k
          · subst ej; exact hz
          · exact HN.out j (by omega)
        case measure => simp [intOf]; omega
      · go_wp2
        go_ret
        exact ⟨ret_int (Num.firstI_hit _ _ _ hlt hz HN.out).symm, by (repeat (any_goals (first | exact Below.refl _ _ | assumption | refine Below.drew ?_ | refine below_drewN ?_ _ | refine Below.setCell ?_ ?_ _ | refine Below.alloc ?_ ?_ _ | omega | (simp; done) | (simp; omega))))⟩
    · go_wp2
      go_ret
      have e : k = n := by omega
      subst e
      exact ⟨ret_int (Num.firstI_none _ _ HN.out).symm, hb⟩
end Go.Proofs.Ytkhcjkmifddlbab

/- HeldC -/
namespace Go.Proofs.Ytkhcjkmifddlbab
open Go.RowKit Go.Deep

/-- Behind an append to one of the caller's rows: every block of another type is as it was. -/
theorem grown_other {w w2 : World} {o : Obj} {row : Option Nat} {t : TypeId} (hg : (w.alloc o).grownBy w2 row) (hr : ∀ b, row = some b → tyOf w b = some t) {b : Nat} (hlt : b < w.heap.size) (ht : tyOf w b ≠ some t) : w2.heap[b]? = w.heap[b]? := by
  rw [hg.block b (by rw [nblk_alloc]; omega) (fun e => ht (hr b e.symm)), blk_alloc_lt _ _ _ hlt]

theorem ty_lt {w : World} {b : Nat} {t : TypeId} (h : tyOf w b = some t) : b < w.heap.size := by
  rcases Nat.lt_or_ge b w.heap.size with hlt | hge
  · exact hlt
  · simp [tyOf, Array.getElem?_eq_none hge] at h

theorem set_other {w2 : World} {h q : Nat} {v : Value} {b : Nat} (hb : b ≠ h) : (w2.setCell ⟨h, q, none⟩ v).heap[b]? = w2.heap[b]? := blk_setCell_other _ _ _ _ (by simpa using hb)

theorem row_of_step {w w2 : World} {o : Obj} {row : Option Nat} {t : TypeId} {h q : Nat} {v : Value} (hg : (w.alloc o).grownBy w2 row) (hr : ∀ b, row = some b → tyOf w b = some t) (hh : tyOf w h = some 70)
    {b : Nat} {t' : TypeId} {n : Nat} {f : Nat → Value} (hrow : w.rowIs b t' n f) (ht : t' ≠ t) (ht' : t' ≠ 70) : (w2.setCell ⟨h, q, none⟩ v).rowIs b t' n f := by
  refine hrow.of_block ?_
  rw [set_other (fun e => by rw [e] at hrow; rw [row_ty hrow] at hh; simp at hh; exact ht' hh)]
  exact grown_other hg hr hrow.lt (by rw [row_ty hrow]; simpa using ht)

theorem owns_of_step {w w2 : World} {o : Obj} {row : Option Nat} {t : TypeId} {h q : Nat} {v : Value} (hg : (w.alloc o).grownBy w2 row) (hr : ∀ b, row = some b → tyOf w b = some t) (hh : tyOf w h = some 70)
    {base : Nat} {t' : TypeId} {sz : Nat} {u : Value} {n : Nat} {xs : List Value} (hown : w.ownsRow base t' sz u n xs) (ht : t' ≠ t) (ht' : t' ≠ 70) : (w2.setCell ⟨h, q, none⟩ v).ownsRow base t' sz u n xs := by
  refine owns_of_block hown fun b hb => ?_
  have hty := owns_ty hown hb
  rw [set_other (fun e => by rw [e] at hty; rw [hty] at hh; simp at hh; exact ht' hh)]
  exact grown_other hg hr (ty_lt hty) (by rw [hty]; simpa using ht)

theorem owns_set_world {w2 : World} {h q : Nat} {v : Value} {base : Nat} {t : TypeId} {sz : Nat} {u : Value} {n : Nat} {xs : List Value} (hown : w2.ownsRow base t sz u n xs) (hne : u.ownBlock ≠ some h) : (w2.setCell ⟨h, q, none⟩ v).ownsRow base t sz u n xs :=
  owns_of_block hown fun b hb => set_other (fun e => hne (by rw [hb, e]))

theorem HeldInv.pushP {w w2 : World} {h : Nat} {s : HS} (H : HeldInv w h s) {b m g cap : Nat} {o : Obj} (hrow : w.rowIs b 90 (m * 3) (mkP s.n)) (hm : m ≤ 1099511627776)
    (hc : (s.P.length : Int) + s.O.length + s.S.length + s.T.length + s.R.length + s.B.length + 1 ≤ s.n)
    (hown : w2.ownsRow h 122 2 (.slice (some ⟨g, 0, none⟩) (s.P.length + 1) cap) (s.P.length + 1) (s.P.flatMap peC ++ [.slice (some ⟨b, 0, none⟩) m m, .int .i64 s.n]))
    (hg : (w.alloc o).grownBy w2 s.vP.ownBlock) (hat : s.vP.ownBlock = some g ∨ g = w.heap.size + 1) :
    HeldInv (w2.setCell ⟨h, 3, none⟩ (.slice (some ⟨g, 0, none⟩) (s.P.length + 1) cap)) h { s with vP := .slice (some ⟨g, 0, none⟩) (s.P.length + 1) cap, P := s.P ++ [(b, m, s.n)] } := by
  have hh := row_ty H.wd
  have hr : ∀ b, s.vP.ownBlock = some b → tyOf w b = some 122 := fun b hb => owns_ty H.oP hb
  have hgh : g ≠ h := by
    rcases hat with hat | hat
    · intro e; have := hr g hat; rw [e, hh] at this; simp at this
    · have := H.wd.lt; omega
  refine { wd := ?wd, oP := ?oP, oO := (owns_of_step hg hr hh H.oO (by decide) (by decide)), oS := (owns_of_step hg hr hh H.oS (by decide) (by decide)), oT := (owns_of_step hg hr hh H.oT (by decide) (by decide)), oR := (owns_of_step hg hr hh H.oR (by decide) (by decide)), eP := ?eP, eO := (fun x hx => row_of_step hg hr hh (H.eO x hx) (by decide) (by decide)), eI := (fun x hx i hi => row_of_step hg hr hh (H.eI x hx i hi) (by decide) (by decide)), eS := (fun x hx y hy => row_of_step hg hr hh (H.eS x hx y hy) (by decide) (by decide)), eN := H.eN, eT := (fun x hx y hy => row_of_step hg hr hh (H.eT x hx y hy) (by decide) (by decide)), eU := H.eU, eR := (fun x hx y hy => row_of_step hg hr hh (H.eR x hx y hy) (by decide) (by decide)), eJ := (fun x hx i hi => row_of_step hg hr hh (H.eJ x hx i hi) (by decide) (by decide)), eM := H.eM, lo := ?lo, hi := H.hi, mP := ?mP, mO := H.mO, mS := H.mS, mT := H.mT, mR := H.mR, oB := (owns_of_step hg hr hh H.oB (by decide) (by decide)), eB := (fun x hx y hy => row_of_step hg hr hh (H.eB x hx y hy) (by decide) (by decide)), eV := H.eV, mB := H.mB }
  case wd =>
    refine ((H.wd.of_block (grown_other hg hr H.wd.lt (by rw [hh]; decide))).set 3 _).congr fun q hq => ?_
    by_cases e : q = 3
    · subst e; simp [wc]
    · simp only [if_neg e, wc]
  case oP =>
    have e1 : (s.P ++ [(b, m, s.n)]).length = s.P.length + 1 := by simp
    have e2 : (s.P ++ [(b, m, s.n)]).flatMap peC = s.P.flatMap peC ++ [.slice (some ⟨b, 0, none⟩) m m, .int .i64 s.n] := by simp [peC]
    show World.ownsRow _ h _ 2 _ (s.P ++ [(b, m, s.n)]).length ((s.P ++ [(b, m, s.n)]).flatMap peC)
    rw [e1, e2]
    exact owns_set_world hown (by simpa [Value.ownBlock] using hgh)
  case eP =>
    intro x hx
    rcases List.mem_append.1 hx with hx | hx
    · exact row_of_step hg hr hh (H.eP x hx) (by decide) (by decide)
    · simp at hx; subst hx; exact row_of_step hg hr hh hrow (by decide) (by decide)
  case lo =>
    show ((s.P ++ [(b, m, s.n)]).length : Int) + (s.O.length : Int) + (s.S.length : Int) + (s.T.length : Int) + (s.R.length : Int) + (s.B.length : Int) ≤ s.n
    simp; omega
  case mP =>
    intro x hx
    rcases List.mem_append.1 hx with hx | hx
    · exact H.mP x hx
    · simp at hx; subst hx; exact ⟨by show (0 : Int) ≤ s.n; omega, H.hi, hm⟩

theorem HeldInv.pushO {w w2 : World} {h : Nat} {s : HS} (H : HeldInv w h s) {b m g cap : Nat} {F : Nat → Nat} {o : Obj} (hrow : w.rowIs b 41 m (fun i => .slice (some ⟨F i, 0, none⟩) 1 1)) (hin : ∀ i, i < m → w.rowIs (F i) 90 3 (mkP s.n)) (hm : m ≤ 1099511627776)
    (hc : (s.P.length : Int) + s.O.length + s.S.length + s.T.length + s.R.length + s.B.length + 1 ≤ s.n)
    (hown : w2.ownsRow h 125 2 (.slice (some ⟨g, 0, none⟩) (s.O.length + 1) cap) (s.O.length + 1) (s.O.flatMap oeC ++ [.slice (some ⟨b, 0, none⟩) m m, .int .i64 s.n]))
    (hg : (w.alloc o).grownBy w2 s.vO.ownBlock) (hat : s.vO.ownBlock = some g ∨ g = w.heap.size + 1) :
    HeldInv (w2.setCell ⟨h, 4, none⟩ (.slice (some ⟨g, 0, none⟩) (s.O.length + 1) cap)) h { s with vO := .slice (some ⟨g, 0, none⟩) (s.O.length + 1) cap, O := s.O ++ [(b, m, F, s.n)] } := by
  have hh := row_ty H.wd
  have hr : ∀ b, s.vO.ownBlock = some b → tyOf w b = some 125 := fun b hb => owns_ty H.oO hb
  have hgh : g ≠ h := by
    rcases hat with hat | hat
    · intro e; have := hr g hat; rw [e, hh] at this; simp at this
    · have := H.wd.lt; omega
  refine { wd := ?wd, oP := (owns_of_step hg hr hh H.oP (by decide) (by decide)), oO := ?oO, oS := (owns_of_step hg hr hh H.oS (by decide) (by decide)), oT := (owns_of_step hg hr hh H.oT (by decide) (by decide)), oR := (owns_of_step hg hr hh H.oR (by decide) (by decide)), eP := (fun x hx => row_of_step hg hr hh (H.eP x hx) (by decide) (by decide)), eO := ?eO, eI := ?eI, eS := (fun x hx y hy => row_of_step hg hr hh (H.eS x hx y hy) (by decide) (by decide)), eN := H.eN, eT := (fun x hx y hy => row_of_step hg hr hh (H.eT x hx y hy) (by decide) (by decide)), eU := H.eU, eR := (fun x hx y hy => row_of_step hg hr hh (H.eR x hx y hy) (by decide) (by decide)), eJ := (fun x hx i hi => row_of_step hg hr hh (H.eJ x hx i hi) (by decide) (by decide)), eM := H.eM, lo := ?lo, hi := H.hi, mP := H.mP, mO := ?mO, mS := H.mS, mT := H.mT, mR := H.mR, oB := (owns_of_step hg hr hh H.oB (by decide) (by decide)), eB := (fun x hx y hy => row_of_step hg hr hh (H.eB x hx y hy) (by decide) (by decide)), eV := H.eV, mB := H.mB }
  case wd =>
    refine ((H.wd.of_block (grown_other hg hr H.wd.lt (by rw [hh]; decide))).set 4 _).congr fun q hq => ?_
    by_cases e : q = 4
    · subst e; simp [wc]
    · simp only [if_neg e, wc]
  case oO =>
    have e1 : (s.O ++ [(b, m, F, s.n)]).length = s.O.length + 1 := by simp
    have e2 : (s.O ++ [(b, m, F, s.n)]).flatMap oeC = s.O.flatMap oeC ++ [.slice (some ⟨b, 0, none⟩) m m, .int .i64 s.n] := by simp [oeC]
    show World.ownsRow _ h _ 2 _ (s.O ++ [(b, m, F, s.n)]).length ((s.O ++ [(b, m, F, s.n)]).flatMap oeC)
    rw [e1, e2]
    exact owns_set_world hown (by simpa [Value.ownBlock] using hgh)
  case eO =>
    intro x hx
    rcases List.mem_append.1 hx with hx | hx
    · exact row_of_step hg hr hh (H.eO x hx) (by decide) (by decide)
    · simp at hx; subst hx; exact row_of_step hg hr hh hrow (by decide) (by decide)
  case eI =>
    intro x hx i hi
    rcases List.mem_append.1 hx with hx | hx
    · exact row_of_step hg hr hh (H.eI x hx i hi) (by decide) (by decide)
    · simp at hx; subst hx; exact row_of_step hg hr hh (hin i hi) (by decide) (by decide)
  case lo =>
    show (s.P.length : Int) + ((s.O ++ [(b, m, F, s.n)]).length : Int) + (s.S.length : Int) + (s.T.length : Int) + (s.R.length : Int) + (s.B.length : Int) ≤ s.n
    simp; omega
  case mO =>
    intro x hx
    rcases List.mem_append.1 hx with hx | hx
    · exact H.mO x hx
    · simp at hx; subst hx; exact ⟨by show (0 : Int) ≤ s.n; omega, H.hi, hm⟩

theorem HeldInv.pushS {w w2 : World} {h : Nat} {s : HS} (H : HeldInv w h s) {b : Option Nat} {m g cap : Nat} {o : Obj} (hrow : ∀ x, b = some x → w.rowIs x 105 (m * 9) (mkS s.n)) (hnil : b = none → m = 0) (hm : (m : Int) ≤ 9223372036854775807)
    (hc : (s.P.length : Int) + s.O.length + s.S.length + s.T.length + s.R.length + s.B.length + 1 ≤ s.n)
    (hown : w2.ownsRow h 103 2 (.slice (some ⟨g, 0, none⟩) (s.S.length + 1) cap) (s.S.length + 1) (s.S.flatMap seC ++ [.slice (b.map fun b => ⟨b, 0, none⟩) m m, .int .i64 s.n]))
    (hg : (w.alloc o).grownBy w2 s.vS.ownBlock) (hat : s.vS.ownBlock = some g ∨ g = w.heap.size + 1) :
    HeldInv (w2.setCell ⟨h, 5, none⟩ (.slice (some ⟨g, 0, none⟩) (s.S.length + 1) cap)) h { s with vS := .slice (some ⟨g, 0, none⟩) (s.S.length + 1) cap, S := s.S ++ [(b, m, s.n)] } := by
  have hh := row_ty H.wd
  have hr : ∀ b, s.vS.ownBlock = some b → tyOf w b = some 103 := fun b hb => owns_ty H.oS hb
  have hgh : g ≠ h := by
    rcases hat with hat | hat
    · intro e; have := hr g hat; rw [e, hh] at this; simp at this
    · have := H.wd.lt; omega
  refine { wd := ?wd, oP := (owns_of_step hg hr hh H.oP (by decide) (by decide)), oO := (owns_of_step hg hr hh H.oO (by decide) (by decide)), oS := ?oS, oT := (owns_of_step hg hr hh H.oT (by decide) (by decide)), oR := (owns_of_step hg hr hh H.oR (by decide) (by decide)), eP := (fun x hx => row_of_step hg hr hh (H.eP x hx) (by decide) (by decide)), eO := (fun x hx => row_of_step hg hr hh (H.eO x hx) (by decide) (by decide)), eI := (fun x hx i hi => row_of_step hg hr hh (H.eI x hx i hi) (by decide) (by decide)), eS := ?eS, eN := ?eN, eT := (fun x hx y hy => row_of_step hg hr hh (H.eT x hx y hy) (by decide) (by decide)), eU := H.eU, eR := (fun x hx y hy => row_of_step hg hr hh (H.eR x hx y hy) (by decide) (by decide)), eJ := (fun x hx i hi => row_of_step hg hr hh (H.eJ x hx i hi) (by decide) (by decide)), eM := H.eM, lo := ?lo, hi := H.hi, mP := H.mP, mO := H.mO, mS := ?mS, mT := H.mT, mR := H.mR, oB := (owns_of_step hg hr hh H.oB (by decide) (by decide)), eB := (fun x hx y hy => row_of_step hg hr hh (H.eB x hx y hy) (by decide) (by decide)), eV := H.eV, mB := H.mB }
  case wd =>
    refine ((H.wd.of_block (grown_other hg hr H.wd.lt (by rw [hh]; decide))).set 5 _).congr fun q hq => ?_
    by_cases e : q = 5
    · subst e; simp [wc]
    · simp only [if_neg e, wc]
  case oS =>
    have e1 : (s.S ++ [(b, m, s.n)]).length = s.S.length + 1 := by simp
    have e2 : (s.S ++ [(b, m, s.n)]).flatMap seC = s.S.flatMap seC ++ [.slice (b.map fun b => ⟨b, 0, none⟩) m m, .int .i64 s.n] := by simp [seC]
    show World.ownsRow _ h _ 2 _ (s.S ++ [(b, m, s.n)]).length ((s.S ++ [(b, m, s.n)]).flatMap seC)
    rw [e1, e2]
    exact owns_set_world hown (by simpa [Value.ownBlock] using hgh)
  case eS =>
    intro x hx y hy
    rcases List.mem_append.1 hx with hx | hx
    · exact row_of_step hg hr hh (H.eS x hx y hy) (by decide) (by decide)
    · simp at hx; subst hx; exact row_of_step hg hr hh (hrow y hy) (by decide) (by decide)
  case eN =>
    intro x hx hy
    rcases List.mem_append.1 hx with hx | hx
    · exact H.eN x hx hy
    · simp at hx; subst hx; exact hnil hy
  case lo =>
    show (s.P.length : Int) + (s.O.length : Int) + ((s.S ++ [(b, m, s.n)]).length : Int) + (s.T.length : Int) + (s.R.length : Int) + (s.B.length : Int) ≤ s.n
    simp; omega
  case mS =>
    intro x hx
    rcases List.mem_append.1 hx with hx | hx
    · exact H.mS x hx
    · simp at hx; subst hx; exact ⟨by show (0 : Int) ≤ s.n; omega, H.hi, hm⟩

theorem HeldInv.pushT {w w2 : World} {h : Nat} {s : HS} (H : HeldInv w h s) {b : Option Nat} {m g cap : Nat} {o : Obj} (hrow : ∀ x, b = some x → w.rowIs x 53 (m * 2) (mkT s.n)) (hnil : b = none → m = 0) (hm : (m : Int) ≤ 9223372036854775807)
    (hc : (s.P.length : Int) + s.O.length + s.S.length + s.T.length + s.R.length + s.B.length + 1 ≤ s.n)
    (hown : w2.ownsRow h 127 2 (.slice (some ⟨g, 0, none⟩) (s.T.length + 1) cap) (s.T.length + 1) (s.T.flatMap seC ++ [.slice (b.map fun b => ⟨b, 0, none⟩) m m, .int .i64 s.n]))
    (hg : (w.alloc o).grownBy w2 s.vT.ownBlock) (hat : s.vT.ownBlock = some g ∨ g = w.heap.size + 1) :
    HeldInv (w2.setCell ⟨h, 6, none⟩ (.slice (some ⟨g, 0, none⟩) (s.T.length + 1) cap)) h { s with vT := .slice (some ⟨g, 0, none⟩) (s.T.length + 1) cap, T := s.T ++ [(b, m, s.n)] } := by
  have hh := row_ty H.wd
  have hr : ∀ b, s.vT.ownBlock = some b → tyOf w b = some 127 := fun b hb => owns_ty H.oT hb
  have hgh : g ≠ h := by
    rcases hat with hat | hat
    · intro e; have := hr g hat; rw [e, hh] at this; simp at this
    · have := H.wd.lt; omega
  refine { wd := ?wd, oP := (owns_of_step hg hr hh H.oP (by decide) (by decide)), oO := (owns_of_step hg hr hh H.oO (by decide) (by decide)), oS := (owns_of_step hg hr hh H.oS (by decide) (by decide)), oT := ?oT, oR := (owns_of_step hg hr hh H.oR (by decide) (by decide)), eP := (fun x hx => row_of_step hg hr hh (H.eP x hx) (by decide) (by decide)), eO := (fun x hx => row_of_step hg hr hh (H.eO x hx) (by decide) (by decide)), eI := (fun x hx i hi => row_of_step hg hr hh (H.eI x hx i hi) (by decide) (by decide)), eS := (fun x hx y hy => row_of_step hg hr hh (H.eS x hx y hy) (by decide) (by decide)), eN := H.eN, eT := ?eT, eU := ?eU, eR := (fun x hx y hy => row_of_step hg hr hh (H.eR x hx y hy) (by decide) (by decide)), eJ := (fun x hx i hi => row_of_step hg hr hh (H.eJ x hx i hi) (by decide) (by decide)), eM := H.eM, lo := ?lo, hi := H.hi, mP := H.mP, mO := H.mO, mS := H.mS, mT := ?mT, mR := H.mR, oB := (owns_of_step hg hr hh H.oB (by decide) (by decide)), eB := (fun x hx y hy => row_of_step hg hr hh (H.eB x hx y hy) (by decide) (by decide)), eV := H.eV, mB := H.mB }
  case wd =>
    refine ((H.wd.of_block (grown_other hg hr H.wd.lt (by rw [hh]; decide))).set 6 _).congr fun q hq => ?_
    by_cases e : q = 6
    · subst e; simp [wc]
    · simp only [if_neg e, wc]
  case lo =>
    show (s.P.length : Int) + (s.O.length : Int) + (s.S.length : Int) + ((s.T ++ [(b, m, s.n)]).length : Int) + (s.R.length : Int) + (s.B.length : Int) ≤ s.n
    simp; omega
  case oT =>
    have e1 : (s.T ++ [(b, m, s.n)]).length = s.T.length + 1 := by simp
    have e2 : (s.T ++ [(b, m, s.n)]).flatMap seC = s.T.flatMap seC ++ [.slice (b.map fun b => ⟨b, 0, none⟩) m m, .int .i64 s.n] := by simp [seC]
    show World.ownsRow _ h _ 2 _ (s.T ++ [(b, m, s.n)]).length ((s.T ++ [(b, m, s.n)]).flatMap seC)
    rw [e1, e2]
    exact owns_set_world hown (by simpa [Value.ownBlock] using hgh)
  case eT =>
    intro x hx y hy
    rcases List.mem_append.1 hx with hx | hx
    · exact row_of_step hg hr hh (H.eT x hx y hy) (by decide) (by decide)
    · simp at hx; subst hx; exact row_of_step hg hr hh (hrow y hy) (by decide) (by decide)
  case eU =>
    intro x hx hy
    rcases List.mem_append.1 hx with hx | hx
    · exact H.eU x hx hy
    · simp at hx; subst hx; exact hnil hy
  case mT =>
    intro x hx
    rcases List.mem_append.1 hx with hx | hx
    · exact H.mT x hx
    · simp at hx; subst hx; exact ⟨by show (0 : Int) ≤ s.n; omega, H.hi, hm⟩

theorem HeldInv.pushR {w w2 : World} {h : Nat} {s : HS} (H : HeldInv w h s) {b : Option Nat} {m g cap : Nat} {F : Nat → Nat} {o : Obj} (hrow : ∀ x, b = some x → w.rowIs x 51 m (fun i => .slice (some ⟨F i, 0, none⟩) 1 1)) (hin : ∀ i, i < m → w.rowIs (F i) 53 2 (mkT s.n)) (hnil : b = none → m = 0) (hm : (m : Int) ≤ 9223372036854775807)
    (hc : (s.P.length : Int) + s.O.length + s.S.length + s.T.length + s.R.length + s.B.length + 1 ≤ s.n)
    (hown : w2.ownsRow h 129 2 (.slice (some ⟨g, 0, none⟩) (s.R.length + 1) cap) (s.R.length + 1) (s.R.flatMap reC ++ [.slice (b.map fun b => ⟨b, 0, none⟩) m m, .int .i64 s.n]))
    (hg : (w.alloc o).grownBy w2 s.vR.ownBlock) (hat : s.vR.ownBlock = some g ∨ g = w.heap.size + 1) :
    HeldInv (w2.setCell ⟨h, 7, none⟩ (.slice (some ⟨g, 0, none⟩) (s.R.length + 1) cap)) h { s with vR := .slice (some ⟨g, 0, none⟩) (s.R.length + 1) cap, R := s.R ++ [(b, m, F, s.n)] } := by
  have hh := row_ty H.wd
  have hr : ∀ b, s.vR.ownBlock = some b → tyOf w b = some 129 := fun b hb => owns_ty H.oR hb
  have hgh : g ≠ h := by
    rcases hat with hat | hat
    · intro e; have := hr g hat; rw [e, hh] at this; simp at this
    · have := H.wd.lt; omega
  refine { wd := ?wd, oP := (owns_of_step hg hr hh H.oP (by decide) (by decide)), oO := (owns_of_step hg hr hh H.oO (by decide) (by decide)), oS := (owns_of_step hg hr hh H.oS (by decide) (by decide)), oT := (owns_of_step hg hr hh H.oT (by decide) (by decide)), oR := ?oR, eP := (fun x hx => row_of_step hg hr hh (H.eP x hx) (by decide) (by decide)), eO := (fun x hx => row_of_step hg hr hh (H.eO x hx) (by decide) (by decide)), eI := (fun x hx i hi => row_of_step hg hr hh (H.eI x hx i hi) (by decide) (by decide)), eS := (fun x hx y hy => row_of_step hg hr hh (H.eS x hx y hy) (by decide) (by decide)), eN := H.eN, eT := (fun x hx y hy => row_of_step hg hr hh (H.eT x hx y hy) (by decide) (by decide)), eU := H.eU, eR := ?eR, eJ := ?eJ, eM := ?eM, lo := ?lo, hi := H.hi, mP := H.mP, mO := H.mO, mS := H.mS, mT := H.mT, mR := ?mR, oB := (owns_of_step hg hr hh H.oB (by decide) (by decide)), eB := (fun x hx y hy => row_of_step hg hr hh (H.eB x hx y hy) (by decide) (by decide)), eV := H.eV, mB := H.mB }
  case wd =>
    refine ((H.wd.of_block (grown_other hg hr H.wd.lt (by rw [hh]; decide))).set 7 _).congr fun q hq => ?_
    by_cases e : q = 7
    · subst e; simp [wc]
    · simp only [if_neg e, wc]
  case lo =>
    show (s.P.length : Int) + (s.O.length : Int) + (s.S.length : Int) + (s.T.length : Int) + ((s.R ++ [(b, m, F, s.n)]).length : Int) + (s.B.length : Int) ≤ s.n
    simp; omega
  case oR =>
    have e1 : (s.R ++ [(b, m, F, s.n)]).length = s.R.length + 1 := by simp
    have e2 : (s.R ++ [(b, m, F, s.n)]).flatMap reC = s.R.flatMap reC ++ [.slice (b.map fun b => ⟨b, 0, none⟩) m m, .int .i64 s.n] := by simp [reC]
    show World.ownsRow _ h _ 2 _ (s.R ++ [(b, m, F, s.n)]).length ((s.R ++ [(b, m, F, s.n)]).flatMap reC)
    rw [e1, e2]
    exact owns_set_world hown (by simpa [Value.ownBlock] using hgh)
  case eR =>
    intro x hx y hy
    rcases List.mem_append.1 hx with hx | hx
    · exact row_of_step hg hr hh (H.eR x hx y hy) (by decide) (by decide)
    · simp at hx; subst hx; exact row_of_step hg hr hh (hrow y hy) (by decide) (by decide)
  case eJ =>
    intro x hx i hi
    rcases List.mem_append.1 hx with hx | hx
    · exact row_of_step hg hr hh (H.eJ x hx i hi) (by decide) (by decide)
    · simp at hx; subst hx; exact row_of_step hg hr hh (hin i hi) (by decide) (by decide)
  case eM =>
    intro x hx hy
    rcases List.mem_append.1 hx with hx | hx
    · exact H.eM x hx hy
    · simp at hx; subst hx; exact hnil hy
  case mR =>
    intro x hx
    rcases List.mem_append.1 hx with hx | hx
    · exact H.mR x hx
    · simp at hx; subst hx; exact ⟨by show (0 : Int) ≤ s.n; omega, H.hi, hm⟩

theorem HeldInv.pushB {w w2 : World} {h : Nat} {s : HS} (H : HeldInv w h s) {b : Option Nat} {m g cap : Nat} {o : Obj} (hrow : ∀ x, b = some x → w.rowIs x 5 m (mkB s.n)) (hnil : b = none → m = 0) (hm : (m : Int) ≤ 9223372036854775807)
    (hc : (s.P.length : Int) + s.O.length + s.S.length + s.T.length + s.R.length + s.B.length + 1 ≤ s.n)
    (hown : w2.ownsRow h 108 2 (.slice (some ⟨g, 0, none⟩) (s.B.length + 1) cap) (s.B.length + 1) (s.B.flatMap seC ++ [.slice (b.map fun b => ⟨b, 0, none⟩) m m, .int .i64 s.n]))
    (hg : (w.alloc o).grownBy w2 s.vB.ownBlock) (hat : s.vB.ownBlock = some g ∨ g = w.heap.size + 1) :
    HeldInv (w2.setCell ⟨h, 8, none⟩ (.slice (some ⟨g, 0, none⟩) (s.B.length + 1) cap)) h { s with vB := .slice (some ⟨g, 0, none⟩) (s.B.length + 1) cap, B := s.B ++ [(b, m, s.n)] } := by
  have hh := row_ty H.wd
  have hr : ∀ b, s.vB.ownBlock = some b → tyOf w b = some 108 := fun b hb => owns_ty H.oB hb
  have hgh : g ≠ h := by
    rcases hat with hat | hat
    · intro e; have := hr g hat; rw [e, hh] at this; simp at this
    · have := H.wd.lt; omega
  refine { wd := ?wd, oP := (owns_of_step hg hr hh H.oP (by decide) (by decide)), oO := (owns_of_step hg hr hh H.oO (by decide) (by decide)), oS := (owns_of_step hg hr hh H.oS (by decide) (by decide)), oT := (owns_of_step hg hr hh H.oT (by decide) (by decide)), oR := (owns_of_step hg hr hh H.oR (by decide) (by decide)), eP := (fun x hx => row_of_step hg hr hh (H.eP x hx) (by decide) (by decide)), eO := (fun x hx => row_of_step hg hr hh (H.eO x hx) (by decide) (by decide)), eI := (fun x hx i hi => row_of_step hg hr hh (H.eI x hx i hi) (by decide) (by decide)), eS := (fun x hx y hy => row_of_step hg hr hh (H.eS x hx y hy) (by decide) (by decide)), eN := H.eN, eT := (fun x hx y hy => row_of_step hg hr hh (H.eT x hx y hy) (by decide) (by decide)), eU := H.eU, eR := (fun x hx y hy => row_of_step hg hr hh (H.eR x hx y hy) (by decide) (by decide)), eJ := (fun x hx i hi => row_of_step hg hr hh (H.eJ x hx i hi) (by decide) (by decide)), eM := H.eM, lo := ?lo, hi := H.hi, mP := H.mP, mO := H.mO, mS := H.mS, mT := H.mT, mR := H.mR, oB := ?oB, eB := ?eB, eV := ?eV, mB := ?mB }
  case wd =>
    refine ((H.wd.of_block (grown_other hg hr H.wd.lt (by rw [hh]; decide))).set 8 _).congr fun q hq => ?_
    by_cases e : q = 8
    · subst e; simp [wc]
    · have e0 : (q = 0 ∨ q = 1 ∨ q = 2 ∨ q = 3 ∨ q = 4 ∨ q = 5 ∨ q = 6 ∨ q = 7) := by omega
      rcases e0 with rfl | rfl | rfl | rfl | rfl | rfl | rfl | rfl <;> rfl
  case lo =>
    show (s.P.length : Int) + (s.O.length : Int) + (s.S.length : Int) + (s.T.length : Int) + (s.R.length : Int) + ((s.B ++ [(b, m, s.n)]).length : Int) ≤ s.n
    simp; omega
  case oB =>
    have e1 : (s.B ++ [(b, m, s.n)]).length = s.B.length + 1 := by simp
    have e2 : (s.B ++ [(b, m, s.n)]).flatMap seC = s.B.flatMap seC ++ [.slice (b.map fun b => ⟨b, 0, none⟩) m m, .int .i64 s.n] := by simp [seC]
    show World.ownsRow _ h _ 2 _ (s.B ++ [(b, m, s.n)]).length ((s.B ++ [(b, m, s.n)]).flatMap seC)
    rw [e1, e2]
    exact owns_set_world hown (by simpa [Value.ownBlock] using hgh)
  case eB =>
    intro x hx y hy
    rcases List.mem_append.1 hx with hx | hx
    · exact row_of_step hg hr hh (H.eB x hx y hy) (by decide) (by decide)
    · simp at hx; subst hx; exact row_of_step hg hr hh (hrow y hy) (by decide) (by decide)
  case eV =>
    intro x hx hy
    rcases List.mem_append.1 hx with hx | hx
    · exact H.eV x hx hy
    · simp at hx; subst hx; exact hnil hy
  case mB =>
    intro x hx
    rcases List.mem_append.1 hx with hx | hx
    · exact H.mB x hx
    · simp at hx; subst hx; exact ⟨by show (0 : Int) ≤ s.n; omega, H.hi, hm⟩
end Go.Proofs.Ytkhcjkmifddlbab

/- RingT -/
namespace Go.Proofs.Ytkhcjkmifddlbab
open Go.RowKit Go.Deep

theorem flat3 {α : Type} (f : α → List Value) (hf : ∀ e, (f e).length = 3) : ∀ (l : List α) (i q : Nat) (hi : i < l.length), q < 3 → (l.flatMap f)[i * 3 + q]? = (f l[i])[q]? := by
  intro l
  induction l with
  | nil => intro i q hi; simp at hi
  | cons x r ih =>
    intro i q hi hq
    rw [List.flatMap_cons]
    have h2 := hf x
    cases i with
    | zero =>
      simp only [Nat.zero_mul, Nat.zero_add, List.getElem_cons_zero]
      rw [List.getElem?_append_left (by omega)]
    | succ j =>
      have := ih j q (by simpa using hi) hq
      simp only [List.getElem_cons_succ]
      rw [List.getElem?_append_right (by omega), h2, show (j + 1) * 3 + q - 3 = j * 3 + q by omega]
      exact this

/-- The numbers of point j of a list. -/
def gX (R : List (Int × Int × Int)) (j : Nat) : Int := (R[j]?.getD (0, 0, 0)).1
def gY (R : List (Int × Int × Int)) (j : Nat) : Int := (R[j]?.getD (0, 0, 0)).2.1
def gK (R : List (Int × Int × Int)) (j : Nat) : Int := (R[j]?.getD (0, 0, 0)).2.2
theorem gAll {R : List (Int × Int × Int)} {j : Nat} (h : j < R.length) : (gX R j, gY R j, gK R j) = R[j] := by
  unfold gX gY gK; rw [List.getElem?_eq_getElem h]; rfl

theorem owns_ring {w : World} {base g cap : Nat} {R : List (Int × Int × Int)} (h : w.ownsRow base 90 3 (.slice (some ⟨g, 0, none⟩) R.length cap) R.length (R.flatMap ptC)) : RingAt w (some ⟨g, 0, none⟩) R.length (gX R) (gY R) (gK R) := by
  refine .inr ⟨g, 0, rfl, fun k hk => ?_⟩
  have e : ∀ j, j < R.length * 3 → w.cell? ⟨g, j, none⟩ = (R.flatMap ptC)[j]? := fun j hj => h.cellAt j hj
  have f := gAll hk
  rw [Nat.zero_add]
  have q0 := flat3 ptC (fun _ => rfl) R k 0 hk (by omega)
  have q1 := flat3 ptC (fun _ => rfl) R k 1 hk (by omega)
  have q2 := flat3 ptC (fun _ => rfl) R k 2 hk (by omega)
  rw [← f] at q0 q1 q2
  refine ⟨?_, ?_, ?_⟩
  · rw [e _ (by omega)]; exact q0
  · rw [e _ (by omega)]; exact q1
  · rw [e _ (by omega)]; exact q2

theorem first_of {R : List (Int × Int × Int)} {f : Nat} {p : Int × Int × Int} (hp : R[f]? = some p) (h0 : p.2.2 = 0) (hb : ∀ (j : Nat) (q : Int × Int × Int), j < f → R[j]? = some q → q.2.2 ≠ 0) : Num.firstI (fun j => gK R j == 0) R.length = f := by
  have hlt : f < R.length := by
    rcases Nat.lt_or_ge f R.length with h | h
    · exact h
    · rw [List.getElem?_eq_none h] at hp; cases hp
  refine Num.firstI_hit _ _ _ hlt ?_ ?_
  · simp [gK, hp, h0]
  · intro j hj
    have hj2 : j < R.length := by omega
    have := hb j R[j] hj (List.getElem?_eq_getElem hj2)
    simp [gK, List.getElem?_eq_getElem hj2, this]

theorem imp_pos {X Y K : Nat → Int} {n : Nat} (h : 0 < n) : 0 < (impU X Y K n n).length := by
  obtain ⟨m, rfl⟩ : ∃ m, n = m + 1 := ⟨n - 1, by omega⟩
  rw [impU_succ, List.length_append]
  have : 0 < (Num.impF X Y K (m + 1) m).length := by unfold Num.impF; simp
  omega

/-- A segment is stored. -/
def set9 (w : World) (b : Nat) (g : Num.Sg) : World := (((((((((w.setCell ⟨b, 0, none⟩ (.int .i64 g.k)).setCell ⟨b, 1, none⟩ (.int .i64 g.x0)).setCell ⟨b, 2, none⟩ (.int .i64 g.y0)).setCell ⟨b, 3, none⟩ (.int .i64 g.x1)).setCell ⟨b, 4, none⟩ (.int .i64 g.y1)).setCell ⟨b, 5, none⟩ (.int .i64 g.x2)).setCell ⟨b, 6, none⟩ (.int .i64 g.y2)).setCell ⟨b, 7, none⟩ (.int .i64 g.x3)).setCell ⟨b, 8, none⟩ (.int .i64 g.y3))
theorem set9_size (w : World) (b : Nat) (g : Num.Sg) : (set9 w b g).heap.size = w.heap.size := by unfold set9; simp only [nblk_setCell]
theorem set9_other (w : World) (b : Nat) (g : Num.Sg) {x : Nat} (h : x ≠ b) : (set9 w b g).heap[x]? = w.heap[x]? := by
  unfold set9
  simp only [blk_setCell_other _ _ _ _ (show x ≠ (⟨b, _, none⟩ : Addr).block from h)]
theorem set9_row {w : World} {b : Nat} {t : TypeId} {f : Nat → Value} (h : w.rowIs b t 9 f) (g : Num.Sg) : (set9 w b g).rowIs b t 9 (sgF g) := by
  unfold set9
  refine (((((((((h.set 0 _).set 1 _).set 2 _).set 3 _).set 4 _).set 5 _).set 6 _).set 7 _).set 8 _).congr fun q hq => ?_
  rcases (show q = 0 ∨ q = 1 ∨ q = 2 ∨ q = 3 ∨ q = 4 ∨ q = 5 ∨ q = 6 ∨ q = 7 ∨ q = 8 by omega) with rfl | rfl | rfl | rfl | rfl | rfl | rfl | rfl | rfl <;> rfl
theorem set9_touch {S : Nat → Prop} {w0 w : World} (h : Touch S w0 w) {b : Nat} (hb : S b ∨ w0.heap.size ≤ b) (g : Num.Sg) : Touch S w0 (set9 w b g) := by
  unfold set9
  exact (((((((((h.setCell (p := ⟨b, 0, none⟩) hb _).setCell (p := ⟨b, 1, none⟩) hb _).setCell (p := ⟨b, 2, none⟩) hb _).setCell (p := ⟨b, 3, none⟩) hb _).setCell (p := ⟨b, 4, none⟩) hb _).setCell (p := ⟨b, 5, none⟩) hb _).setCell (p := ⟨b, 6, none⟩) hb _).setCell (p := ⟨b, 7, none⟩) hb _).setCell (p := ⟨b, 8, none⟩) hb _)
theorem set9_below {B : Nat} {w0 w : World} (h : Below B w0 w) {b : Nat} (hb : B ≤ b) (g : Num.Sg) : Below B w0 (set9 w b g) := by
  unfold set9
  exact (((((((((h.setCell (p := ⟨b, 0, none⟩) hb _).setCell (p := ⟨b, 1, none⟩) hb _).setCell (p := ⟨b, 2, none⟩) hb _).setCell (p := ⟨b, 3, none⟩) hb _).setCell (p := ⟨b, 4, none⟩) hb _).setCell (p := ⟨b, 5, none⟩) hb _).setCell (p := ⟨b, 6, none⟩) hb _).setCell (p := ⟨b, 7, none⟩) hb _).setCell (p := ⟨b, 8, none⟩) hb _)
theorem sg_cells {w : World} {b : Nat} {t : TypeId} {g : Num.Sg} (h : w.rowIs b t 9 (sgF g)) :
    w.cell? ⟨b, 0, none⟩ = some (.int .i64 g.k) ∧ w.cell? ⟨b, 1, none⟩ = some (.int .i64 g.x0) ∧ w.cell? ⟨b, 2, none⟩ = some (.int .i64 g.y0) ∧ w.cell? ⟨b, 3, none⟩ = some (.int .i64 g.x1) ∧ w.cell? ⟨b, 4, none⟩ = some (.int .i64 g.y1) ∧ w.cell? ⟨b, 5, none⟩ = some (.int .i64 g.x2) ∧ w.cell? ⟨b, 6, none⟩ = some (.int .i64 g.y2) ∧ w.cell? ⟨b, 7, none⟩ = some (.int .i64 g.x3) ∧ w.cell? ⟨b, 8, none⟩ = some (.int .i64 g.y3) :=
  ⟨h.cell (i := 0) (by omega), h.cell (i := 1) (by omega), h.cell (i := 2) (by omega), h.cell (i := 3) (by omega), h.cell (i := 4) (by omega), h.cell (i := 5) (by omega), h.cell (i := 6) (by omega), h.cell (i := 7) (by omega), h.cell (i := 8) (by omega)⟩

theorem row_sg (W : World) (g : Num.Sg) (t : TypeId) : (W.alloc (.cells (sgC g).toArray t)).rowIs W.heap.size t 9 (sgF g) := by
  refine World.rowIs_alloc W (sgC g).toArray t (sgF g) (fun q hq => ?_)
  have hq : q < 9 := hq
  rcases (show q = 0 ∨ q = 1 ∨ q = 2 ∨ q = 3 ∨ q = 4 ∨ q = 5 ∨ q = 6 ∨ q = 7 ∨ q = 8 by omega) with rfl | rfl | rfl | rfl | rfl | rfl | rfl | rfl | rfl <;> rfl
theorem set2_row {w : World} {b : Nat} {t : TypeId} {g : Num.Sg} (h : w.rowIs b t 9 (sgF g)) (p : Int × Int × Int) : ((w.setCell ⟨b, 7, none⟩ (.int .i64 p.1)).setCell ⟨b, 8, none⟩ (.int .i64 p.2.1)).rowIs b t 9 (sgF (Num.setTo g p)) := by
  refine ((h.set 7 _).set 8 _).congr fun q hq => ?_
  rcases (show q = 0 ∨ q = 1 ∨ q = 2 ∨ q = 3 ∨ q = 4 ∨ q = 5 ∨ q = 6 ∨ q = 7 ∨ q = 8 by omega) with rfl | rfl | rfl | rfl | rfl | rfl | rfl | rfl | rfl <;> rfl

/-- The next place in a ring of r, from f on. -/
def wrp (r x : Nat) : Nat := if x < r then x else x - r
theorem wrp_lt {r f j : Nat} (hf : f < r) (hj : j ≤ r) : wrp r (f + j) < r := by unfold wrp; split <;> omega
theorem wrp_succ {r f j : Nat} (hf : f < r) (hj : j < r) : wrp r (f + (j + 1)) = if wrp r (f + j) + 1 = r then 0 else wrp r (f + j) + 1 := by
  unfold wrp; split <;> split <;> (try split) <;> omega

theorem rot_drop {R : List (Int × Int × Int)} {f j : Nat} (hf : f < R.length) (hj : j < R.length) :
    (R.drop (f + 1) ++ R.take (f + 1)).drop j = (gX R (wrp R.length (f + (j + 1))), gY R (wrp R.length (f + (j + 1))), gK R (wrp R.length (f + (j + 1)))) :: (R.drop (f + 1) ++ R.take (f + 1)).drop (j + 1) := by
  have hl : (R.drop (f + 1) ++ R.take (f + 1)).length = R.length := by simp; omega
  have hy : wrp R.length (f + (j + 1)) < R.length := by unfold wrp; split <;> omega
  rw [gAll hy, List.drop_eq_getElem_cons (by omega)]
  congr 1
  unfold wrp
  by_cases h : f + (j + 1) < R.length
  · rw [List.getElem_append_left (by simp; omega)]
    simp only [List.getElem_drop, if_pos h]
    congr 1; omega
  · rw [List.getElem_append_right (by simp; omega)]
    simp only [List.getElem_take, if_neg h, List.length_drop]
    congr 1; omega

theorem owns_base {w : World} {base base' : Nat} {t : TypeId} {sz : Nat} {v : Value} {n : Nat} {xs : List Value} (h : w.ownsRow base t sz v n xs) (hb : base' ≤ base) : w.ownsRow base' t sz v n xs := by
  refine ⟨h.1, ?_⟩
  rcases h.2 with hn | ⟨g, cap, cur, hv, hbb, rest⟩
  · exact .inl hn
  · exact .inr ⟨g, cap, cur, hv, by omega, rest⟩

theorem one_sg (g : Num.Sg) : ∀ u ∈ sgC g, u.oneCell' = true := by
  intro u hu
  simp [sgC] at hu
  rcases hu with rfl | rfl | rfl | rfl | rfl | rfl | rfl | rfl | rfl <;> rfl

theorem push_sg {w : World} {base : Nat} {v : Value} {l : List Num.Sg} {g : Num.Sg} {m : Nat} (h : w.ownsRow base 105 9 v m (l.flatMap sgC ++ sgC g)) (hm : m = l.length + 1) : w.ownsRow base 105 9 v (l ++ [g]).length ((l ++ [g]).flatMap sgC) := by
  have e1 : (l ++ [g]).length = m := by rw [hm]; simp
  have e2 : (l ++ [g]).flatMap sgC = l.flatMap sgC ++ sgC g := by simp
  rw [e1, e2]; exact h

theorem info_seg : (Try.prog.info? 105).map (fun i => (i.zero, i.size, i.bytes)) = some (some (.agg #[.int .i64 0, .int .i64 0, .int .i64 0, .int .i64 0, .int .i64 0, .int .i64 0, .int .i64 0, .int .i64 0, .int .i64 0]), 9, 72) := by kernel_rfl

theorem owns_set9 {w w3 : World} {base : Nat} {t : TypeId} {sz : Nat} {v : Value} {n : Nat} {xs : List Value} {G : Nat} (h : w.ownsRow base t sz v n xs) (hb : Below w.heap.size w w3) (hG : G < base) (sg : Num.Sg) : (set9 w3 G sg).ownsRow base t sz v n xs :=
  owns_of_block h fun b hbb => by
    obtain ⟨h1, h2⟩ := h.lt b hbb
    rw [set9_other _ _ _ (show b ≠ G by omega)]
    exact hb.block b h2

theorem walk_ctl {p : Int × Int × Int} {l : List (Int × Int × Int)} {g : Num.Sg} (h : (p.2.2 == 0) = false) : Num.walkL (p :: l) g = Num.walkL l (Num.addP g p) := by
  have : ¬ p.2.2 = 0 := by simpa using h
  simp only [Num.walkL, if_neg this]
theorem walk_on {p : Int × Int × Int} {l : List (Int × Int × Int)} {g : Num.Sg} (h : (p.2.2 == 0) = true) : Num.walkL (p :: l) g = Num.setTo g p :: Num.walkL l (Num.initS p) := by
  have : p.2.2 = 0 := by simpa using h
  simp only [Num.walkL, if_pos this]

end Go.Proofs.Ytkhcjkmifddlbab

/- RefSegB -/
namespace Go.Proofs.Ytkhcjkmifddlbab
open Go.RowKit Go.Deep

theorem onB_there {X Y K : Nat → Int} {n t : Nat} : Num.onB X Y K n t = (thereB K n t && ((Num.stv X Y K n t).2.2 == 0)) := by
  unfold Num.onB
  rw [stp_there]
  cases h : thereB K n t <;> simp

theorem scan_none {X Y K : Nat → Int} {n d k m : Nat} {g : Num.Sg} (h : thereB K n k = false) : Num.scanR X Y K n (d + 1) k g m = Num.scanR X Y K n d (k + 1) g m := by
  simp only [Num.scanR, stp_there, h, if_neg (show ¬ (false = true) by simp)]
theorem scan_on {X Y K : Nat → Int} {n d k m : Nat} {g : Num.Sg} (h : thereB K n k = true) (h0 : ((Num.stv X Y K n k).2.2 == 0) = true) : Num.scanR X Y K n (d + 1) k g m = Num.setTo g (Num.stv X Y K n k) := by
  have h0 : (Num.stv X Y K n k).2.2 = 0 := by simpa using h0
  simp only [Num.scanR, stp_there, h, if_pos, h0]
theorem scan_ctl {X Y K : Nat → Int} {n d k m : Nat} {g : Num.Sg} (h : thereB K n k = true) (h0 : ((Num.stv X Y K n k).2.2 == 0) = false) : Num.scanR X Y K n (d + 1) k g m = Num.scanR X Y K n d (k + 1) (Num.addR g m (Num.stv X Y K n k)) (m + 1) := by
  have h0 : ¬ (Num.stv X Y K n k).2.2 = 0 := by simpa using h0
  simp only [Num.scanR, stp_there, h, if_pos, if_neg h0]

theorem setF_row {w : World} {b : Nat} {t : TypeId} {g : Num.Sg} (h : w.rowIs b t 9 (sgF g)) (p : Int × Int × Int) : (((w.setCell ⟨b, 0, none⟩ (.int .i64 p.2.2)).setCell ⟨b, 3, none⟩ (.int .i64 p.1)).setCell ⟨b, 4, none⟩ (.int .i64 p.2.1)).rowIs b t 9 (sgF (Num.addR g 0 p)) := by
  refine (((h.set 0 _).set 3 _).set 4 _).congr fun q hq => ?_
  rcases (show q = 0 ∨ q = 1 ∨ q = 2 ∨ q = 3 ∨ q = 4 ∨ q = 5 ∨ q = 6 ∨ q = 7 ∨ q = 8 by omega) with rfl | rfl | rfl | rfl | rfl | rfl | rfl | rfl | rfl <;> rfl
theorem setS_row {w : World} {b : Nat} {t : TypeId} {g : Num.Sg} (h : w.rowIs b t 9 (sgF g)) (p : Int × Int × Int) (m : Nat) (hm : m ≠ 0) : (((w.setCell ⟨b, 0, none⟩ (.int .i64 p.2.2)).setCell ⟨b, 5, none⟩ (.int .i64 p.1)).setCell ⟨b, 6, none⟩ (.int .i64 p.2.1)).rowIs b t 9 (sgF (Num.addR g m p)) := by
  refine (((h.set 0 _).set 5 _).set 6 _).congr fun q hq => ?_
  unfold Num.addR
  rw [if_neg hm]
  rcases (show q = 0 ∨ q = 1 ∨ q = 2 ∨ q = 3 ∨ q = 4 ∨ q = 5 ∨ q = 6 ∨ q = 7 ∨ q = 8 by omega) with rfl | rfl | rfl | rfl | rfl | rfl | rfl | rfl | rfl <;> rfl

end Go.Proofs.Ytkhcjkmifddlbab

/- RefRing -/
namespace Go.Proofs.Ytkhcjkmifddlbab
open Go.RowKit Go.Deep

def refU (X Y K : Nat → Int) (n k : Nat) : List Num.Sg := (List.range k).filterMap (Num.refF X Y K n)
theorem refU_no {X Y K : Nat → Int} {n k : Nat} (h : Num.onB X Y K n k = false) : refU X Y K n (k + 1) = refU X Y K n k := by
  unfold refU; rw [List.range_succ, List.filterMap_append]; simp [Num.refF, h]
theorem refU_yes {X Y K : Nat → Int} {n k : Nat} (h : Num.onB X Y K n k = true) : refU X Y K n (k + 1) = refU X Y K n k ++ [Num.fromV X Y K n k] := by
  unfold refU; rw [List.range_succ, List.filterMap_append]; simp [Num.refF, h]
theorem refU_len (X Y K : Nat → Int) (n k : Nat) : (refU X Y K n k).length ≤ k := by
  unfold refU; have := List.length_filterMap_le (Num.refF X Y K n) (List.range k); simpa using this

end Go.Proofs.Ytkhcjkmifddlbab

/- RingU -/
namespace Go.Proofs.Ytkhcjkmifddlbab
open Go.RowKit Go.Deep

set_option maxRecDepth 100000 in
set_option maxHeartbeats 8000000 in
theorem ringSegments_any (a : Option Addr) (n c : Nat) (X Y K : Nat → Int) (w : World) (hn : n ≤ 2097152) (h2 : 2 ≤ n) (hs : ∀ i, i < n → Num.badB K n i = false) (hX : ∀ i, i < n → -4096 ≤ X i ∧ X i ≤ 4096) (hY : ∀ i, i < n → -4096 ≤ Y i ∧ Y i ≤ 4096) (hr : RingAt w a n X Y K) :
    Calls Try.prog 85 #[.slice a n c] w fun e w' => ∃ v, e = .returned v ∧ Below w.heap.size w w' ∧ w'.ownsRow w.heap.size 105 9 v (Num.refRing X Y K n).length ((Num.refRing X Y K n).flatMap sgC) := by
  obtain ⟨f, p, hp, hp0, hpb, hwalk⟩ := Num.segs_eq (X := X) (Y := Y) h2 hs
  have HR := hide hr
  have HX := hide hX
  have HY := hide hY
  have hlen := impU_len X Y K n n
  have hpos := imp_pos (X := X) (Y := Y) (K := K) (n := n) (by omega)
  clear hr hX hY hs
  obtain ⟨R, hR⟩ : ∃ R, R = impU X Y K n n := ⟨_, rfl⟩
  have hR2 : Num.imp X Y K n = R := by rw [hR]; rfl
  rw [hR2] at hp hpb hwalk
  rw [← hR] at hlen hpos
  have hf := first_of hp hp0 hpb
  have hfl : f < R.length := by
    rcases Nat.lt_or_ge f R.length with h | h
    · exact h
    · rw [List.getElem?_eq_none h] at hp; cases hp
  have hpg : p = (gX R f, gY R f, gK R f) := by rw [gAll hfl]; rw [List.getElem?_eq_getElem hfl] at hp; simpa using hp.symm
  obtain ⟨T, hT⟩ : ∃ T, T = Num.refRing X Y K n := ⟨_, rfl⟩
  rw [← hT] at hwalk ⊢
  have HW := hide hwalk
  have HF := hide hf
  have HPG := hide hpg
  have HRR := hide hR
  clear hwalk hf hpg hp hp0 hpb hT hR2 hR
  obtain ⟨r, hr⟩ : ∃ r, r = R.length := ⟨_, rfl⟩
  have HRL := hide hr
  go_enter Try.func85, Try.ntmps85
  go_wp2_with fail
  refine (withImplied_any _ _ _ X Y K _ hn HX.out HY.out HR.out).mono ?_
  rw [← HRR.out]
  rintro e w1 ⟨v, rfl, hb1, hown1⟩
  obtain ⟨g, cap, rfl, hgb, hgl⟩ := hown1.form hpos
  have HR1 := hide (owns_ring hown1)
  rw [← hr] at hpos hlen hfl
  rw [← hr]
  have hs1 := hb1.size
  clear hown1 hr
  go_wp2_with fail
  refine (firstOn_any _ _ _ (gX R) (gY R) (gK R) _ (by omega) (by rw [HRL.out]; exact HR1.out)).mono ?_
  rw [HRL.out, HF.out, ← HRL.out]
  rintro e w2 ⟨rfl, hb2⟩
  have hs2 := hb2.size
  have HR2 := hide (HR1.out.below hb2)
  have hb02 : Below w.heap.size w w2 := hb1.trans (hb2.mono hs1)
  clear hb1 hb2
  have hneg : ((f : Int) == -1) = false := by simp
  rcases HR2.out with h | ⟨b, off, hbo, hc⟩
  · have := HRL.out; omega
  simp at hbo
  obtain ⟨rfl, rfl⟩ := hbo
  simp only [Nat.zero_add] at hc
  rw [← HRL.out] at hc
  obtain ⟨c0, c1, c2⟩ := hc f hfl
  have HC := hide hc
  clear hc
  have hgl2 : g < w2.heap.size := by omega
  have g0 : (0 : Int) ≤ (f : Int) := by omega
  have g1 : (f : Int) < (r : Int) := by omega
  go_wp2_with (go_at_call 97; refine (spot_any _ _ _ _).mono ?_; rintro e w' ⟨rfl, rfl⟩)
  go_loopw [5, 7, 24] (fun v i t wr => ∃ (j : Nat) (sg : Num.Sg) (out : List Num.Sg), j ≤ r ∧ t = .int .i64 j ∧ i = .int .i64 (wrp r (f + j)) ∧ Below w2.heap.size w2 wr ∧ wr.rowIs (w2.heap.size + 1 + 1) 105 9 (sgF sg) ∧
      wr.ownsRow (w2.heap.size + 1 + 1 + 1) 105 9 v out.length (out.flatMap sgC) ∧ out.length ≤ j ∧ out ++ Num.walkL ((R.drop (f + 1) ++ R.take (f + 1)).drop j) sg = T) (fun _ _ t _ => r - (intOf t).toNat)
  case atStart =>
    refine ⟨0, Num.initS p, [], by omega, rfl, by simp [wrp, hfl], by (repeat (any_goals (first | exact Below.refl _ _ | assumption | refine Below.drew ?_ | refine below_drewN ?_ _ | refine Below.setCell ?_ ?_ _ | refine Below.alloc ?_ ?_ _ | omega | (simp; done) | (simp; omega)))), ?_, World.ownsRow_nil _ _ _ _, by simp, by simpa using HW.out⟩
    rw [HPG.out]
    have h := row_sg ((w2.alloc (.cells #[.int .i64 (gX R f), .int .i64 (gY R f), .int .i64 (gK R f)] 90)).alloc (.cells #[.int .i64 (gX R f), .int .i64 (gY R f)] 53)) (Num.initS (gX R f, gY R f, gK R f)) 105
    rw [nblk_alloc, nblk_alloc] at h
    exact h
  case round =>
    obtain ⟨v, rfl⟩ : ∃ v, v = u5 := ⟨_, rfl⟩
    obtain ⟨j, sg, out, hj, rfl, rfl, hb, hrow, hown, hol, hwk⟩ := hrel
    have hsz := hb.size
    have HWK := hide hwk
    clear hwk c0 c1 c2
    by_cases hlt : j < r
    · have hd1 : decide ((j : Int) < (r : Int)) = true := by simp; omega
      have hxl := wrp_lt hfl (show j ≤ r by omega)
      have hys := wrp_succ hfl hlt
      have hyl := wrp_lt hfl (show j + 1 ≤ r by omega)
      have hrot := rot_drop (R := R) (f := f) (j := j) (by rw [← HRL.out]; exact hfl) (by rw [← HRL.out]; exact hlt)
      rw [← HRL.out] at hrot
      obtain ⟨x, hx⟩ : ∃ x, x = wrp r (f + j) := ⟨_, rfl⟩
      obtain ⟨y, hy⟩ : ∃ y, y = wrp r (f + (j + 1)) := ⟨_, rfl⟩
      rw [← hx] at hxl hys ⊢
      rw [← hy] at hys hyl hrot
      have HY2 := hide hy
      have HRot := hide hrot
      have hGl := hrow.lt
      obtain ⟨q0, q1, q2, q3, q4, q5, q6, q7, q8⟩ := sg_cells hrow
      have z0 := hrow.frozen 0
      have z1 := hrow.frozen 1
      have z2 := hrow.frozen 2
      have z3 := hrow.frozen 3
      have z4 := hrow.frozen 4
      have z5 := hrow.frozen 5
      have z6 := hrow.frozen 6
      have z7 := hrow.frozen 7
      have z8 := hrow.frozen 8
      have hcy : wr.cell? ⟨g, y * 3, none⟩ = some (.int .i64 (gX R y)) ∧ wr.cell? ⟨g, y * 3 + 1, none⟩ = some (.int .i64 (gY R y)) ∧ wr.cell? ⟨g, y * 3 + 2, none⟩ = some (.int .i64 (gK R y)) := by
        obtain ⟨u0, u1, u2⟩ := HC.out y hyl
        exact ⟨(hb.cell (p := ⟨g, _, none⟩) hgl2).trans u0, (hb.cell (p := ⟨g, _, none⟩) hgl2).trans u1, (hb.cell (p := ⟨g, _, none⟩) hgl2).trans u2⟩
      obtain ⟨d0, d1, d2⟩ := hcy
      have hgw : g < wr.heap.size := by omega
      have HRow := hide hrow
      clear hrow hrot hy hx
      by_cases hw : x + 1 = r
      · rw [if_pos hw] at hys
        subst hys
        simp only [Nat.zero_mul, Nat.zero_add] at d0 d1 d2
        have hw1 : ((x : Int) + 1 == (r : Int)) = true := by simp; omega
        have gy : (0 : Int) < (r : Int) := by omega
        cases hk0 : (gK R 0 == 0)
        · have HW2 : Hid (out ++ Num.walkL ((R.drop (f + 1) ++ R.take (f + 1)).drop (j + 1)) (Num.addP sg (gX R 0, gY R 0, gK R 0)) = T) := by
            have := HWK.out
            rw [HRot.out, walk_ctl (by exact hk0)] at this
            exact this
          go_wp2_with fail
          refine (withControl_any sg (gX R 0, gY R 0, gK R 0) _).mono ?_
          rintro e w3 ⟨rfl, hb3⟩
          have hbw : Below wr.heap.size wr w3 := Below.trans (by (repeat (any_goals (first | exact Below.refl _ _ | assumption | refine Below.drew ?_ | refine below_drewN ?_ _ | refine Below.setCell ?_ ?_ _ | refine Below.alloc ?_ ?_ _ | omega | (simp; done) | (simp; omega))))) (hb3.mono (by simp))
          have HO := hide (owns_set9 hown hbw (G := w2.heap.size + 1 + 1) (by omega) (Num.addP sg (gX R 0, gY R 0, gK R 0)))
          have HR3 := hide (row_below HRow.out hbw hGl)
          have hs3 := hbw.size
          obtain ⟨e0, e1, e2, e3, e4, e5, e6, e7, e8⟩ := sg_cells HR3.out
          have y0 := HR3.out.frozen 0
          have y1 := HR3.out.frozen 1
          have y2 := HR3.out.frozen 2
          have y3 := HR3.out.frozen 3
          have y4 := HR3.out.frozen 4
          have y5 := HR3.out.frozen 5
          have y6 := HR3.out.frozen 6
          have y7 := HR3.out.frozen 7
          have y8 := HR3.out.frozen 8
          have hb4 : Below w2.heap.size w2 w3 := hb.trans (hbw.mono hsz)
          have HS9 := hide (set9_row HR3.out (Num.addP sg (gX R 0, gY R 0, gK R 0)))
          have HB9 := hide (set9_below hb4 (b := w2.heap.size + 1 + 1) (by omega) (Num.addP sg (gX R 0, gY R 0, gK R 0)))
          clear hb3 hbw hown hb q0 q1 q2 q3 q4 q5 q6 q7 q8 z0 z1 z2 z3 z4 z5 z6 z7 z8 d0 d1 d2
          obtain ⟨ag, hag⟩ : ∃ ag, ag = Num.addP sg (gX R 0, gY R 0, gK R 0) := ⟨_, rfl⟩
          rw [← hag] at HO HS9 HW2 HB9 ⊢
          clear hag
          go_wp2
          go_roundw
          case rel => exact ⟨j + 1, ag, out, by omega, by go_num, by rw [← HY2.out]; rfl, HB9.out, HS9.out, HO.out, by omega, HW2.out⟩
          case measure => simp [intOf]; omega
        · go_wp2_with fail
          refine (spot_any _ _ _ _).mono ?_
          rintro e w3 ⟨rfl, hw3⟩
          have hbw : Below wr.heap.size wr w3 := by rw [hw3]; (repeat (any_goals (first | exact Below.refl _ _ | assumption | refine Below.drew ?_ | refine below_drewN ?_ _ | refine Below.setCell ?_ ?_ _ | refine Below.alloc ?_ ?_ _ | omega | (simp; done) | (simp; omega))))
          clear hw3
          have HR3 := hide (row_below HRow.out hbw hGl)
          have hs3 := hbw.size
          obtain ⟨e0, e1, e2, e3, e4, e5, e6, e7, e8⟩ := sg_cells HR3.out
          have y7 := HR3.out.frozen 7
          have y8 := HR3.out.frozen 8
          have hG3 : w2.heap.size + 1 + 1 < w3.heap.size := by omega
          have hown3 := owns_of_block hown (fun b hbb => hbw.block b (hown.lt b hbb).2)
          have hb4 : Below w2.heap.size w2 w3 := hb.trans (hbw.mono hsz)
          clear hbw hown hb q0 q1 q2 q3 q4 q5 q6 q7 q8 z0 z1 z2 z3 z4 z5 z6 z7 z8 d0 d1 d2
          obtain ⟨i0, hi0, hz0, hz1, hz2⟩ := info_parts info_seg
          obtain ⟨ol, hol2⟩ : ∃ ol, ol = out.length := ⟨_, rfl⟩
          obtain ⟨xs, hxs⟩ : ∃ xs, xs = out.flatMap sgC := ⟨_, rfl⟩
          rw [← hol2] at hol
          rw [← hol2, ← hxs] at hown3
          have HOL := hide hol2
          have HXS := hide hxs
          clear hol2 hxs
          have hown4 : ((w3.setCell ⟨w2.heap.size + 1 + 1, 7, none⟩ (.int .i64 (gX R 0))).setCell ⟨w2.heap.size + 1 + 1, 8, none⟩ (.int .i64 (gY R 0))).ownsRow (w2.heap.size + 1 + 1 + 1) 105 9 v ol xs :=
            owns_of_block hown3 (fun b hbb => by
              have := (hown3.lt b hbb).1
              rw [set_other (by omega), set_other (by omega)])
          go_wp2_with (at_builtin; refine wpList_append_lies _ rfl _ _ 101 rfl (w2.heap.size + 1 + 1 + 1) 105 i0 (.agg #[.int .i64 0, .int .i64 0, .int .i64 0, .int .i64 0, .int .i64 0, .int .i64 0, .int .i64 0, .int .i64 0, .int .i64 0]) 9 72 Try.underlying101 hi0 hz0 hz1 hz2 rfl (by omega) v ol xs rfl (hown4.alloc _) ⟨w3.heap.size, 0, none⟩ 1 1 [.int .i64 sg.k, .int .i64 sg.x0, .int .i64 sg.y0, .int .i64 sg.x1, .int .i64 sg.y1, .int .i64 sg.x2, .int .i64 sg.y2, .int .i64 (gX R 0), .int .i64 (gY R 0)] rfl rfl ?m1 ?m2 (by omega) ?m3 ?m4 ?m5 (w3.heap.size + 1) (by simp) ?_)
          case m1 => exact news_new ((w3.setCell ⟨w2.heap.size + 1 + 1, 7, none⟩ (.int .i64 (gX R 0))).setCell ⟨w2.heap.size + 1 + 1, 8, none⟩ (.int .i64 (gY R 0))) [.int .i64 sg.k, .int .i64 sg.x0, .int .i64 sg.y0, .int .i64 sg.x1, .int .i64 sg.y1, .int .i64 sg.x2, .int .i64 sg.y2, .int .i64 (gX R 0), .int .i64 (gY R 0)] _ _ (by simp)
          case m2 => exact one_sg (Num.setTo sg (gX R 0, gY R 0, gK R 0))
          case m3 => unfold maxLen; omega
          case m4 => omega
          case m5 => simp; omega
          intro g2 cap2 w4 hown5 hgrow hat hlt4
          have hne : some (w2.heap.size + 1 + 1) ≠ v.ownBlock := fun e => by have := (hown3.lt _ e.symm).1; omega
          have hR4 : w4.rowIs (w2.heap.size + 1 + 1) 105 9 (sgF (Num.setTo sg (gX R 0, gY R 0, gK R 0))) :=
            ((set2_row HR3.out (gX R 0, gY R 0, gK R 0)).alloc _).of_block (hgrow.block _ (by simp; omega) hne)
          have hb5 : Below w2.heap.size w2 w4 := Below.grown (w := ((w3.setCell ⟨w2.heap.size + 1 + 1, 7, none⟩ (.int .i64 (gX R 0))).setCell ⟨w2.heap.size + 1 + 1, 8, none⟩ (.int .i64 (gY R 0))).alloc _) (by (repeat (any_goals (first | exact Below.refl _ _ | assumption | refine Below.drew ?_ | refine below_drewN ?_ _ | refine Below.setCell ?_ ?_ _ | refine Below.alloc ?_ ?_ _ | omega | (simp; done) | (simp; omega))))) hgrow (by simp; omega) (fun q hq => by have := (hown3.lt q hq).1; omega)
          have hO6 : w4.ownsRow (w2.heap.size + 1 + 1 + 1) 105 9 (.slice (some ⟨g2, 0, none⟩) (ol + 1) cap2) (out ++ [Num.setTo sg (gX R 0, gY R 0, gK R 0)]).length ((out ++ [Num.setTo sg (gX R 0, gY R 0, gK R 0)]).flatMap sgC) :=
            push_sg (by rw [← HXS.out]; exact hown5) (by rw [HOL.out])
          have HO7 := hide (owns_set9 hO6 (Below.refl _ _) (G := w2.heap.size + 1 + 1) (by omega) (Num.initS (gX R 0, gY R 0, gK R 0)))
          have HS9 := hide (set9_row hR4 (Num.initS (gX R 0, gY R 0, gK R 0)))
          have HB9 := hide (set9_below hb5 (b := w2.heap.size + 1 + 1) (by omega) (Num.initS (gX R 0, gY R 0, gK R 0)))
          have HW2 : Hid ((out ++ [Num.setTo sg (gX R 0, gY R 0, gK R 0)]) ++ Num.walkL ((R.drop (f + 1) ++ R.take (f + 1)).drop (j + 1)) (Num.initS (gX R 0, gY R 0, gK R 0)) = T) := by
            have := HWK.out
            rw [HRot.out, walk_on (by exact hk0)] at this
            unfold Hid
            rw [List.append_assoc]
            exact this
          have HOl2 : Hid ((out ++ [Num.setTo sg (gX R 0, gY R 0, gK R 0)]).length ≤ j + 1) := by
            unfold Hid
            have := HOL.out
            simp; omega
          obtain ⟨t0, t1, t2, t3, t4, t5, t6, t7, t8⟩ := sg_cells hR4
          have t7 : w4.cell? ⟨w2.heap.size + 1 + 1, 7, none⟩ = some (.int .i64 (gX R 0)) := t7
          have t8 : w4.cell? ⟨w2.heap.size + 1 + 1, 8, none⟩ = some (.int .i64 (gY R 0)) := t8
          have y0 := hR4.frozen 0
          have y1 := hR4.frozen 1
          have y2 := hR4.frozen 2
          have y3 := hR4.frozen 3
          have y4 := hR4.frozen 4
          have y5 := hR4.frozen 5
          have y6 := hR4.frozen 6
          have y7 := hR4.frozen 7
          have y8 := hR4.frozen 8
          have hG4 := hR4.lt
          clear hown5 hgrow hat hne hO6 hown4 hown3 hb4 e0 e1 e2 e3 e4 e5 e6 e7 e8 hR4
          go_wp2
          go_roundw
          case rel => exact ⟨j + 1, Num.initS (gX R 0, gY R 0, gK R 0), out ++ [Num.setTo sg (gX R 0, gY R 0, gK R 0)], by omega, by go_num, by rw [← HY2.out]; rfl, HB9.out, HS9.out, HO7.out, HOl2.out, HW2.out⟩
          case measure => simp [intOf]; omega
      · rw [if_neg hw] at hys
        subst hys
        have hw1 : ((x : Int) + 1 == (r : Int)) = false := by simp; omega
        have gy : (x : Int) + 1 < (r : Int) := by omega
        cases hk0 : (gK R (x + 1) == 0)
        · have HW2 : Hid (out ++ Num.walkL ((R.drop (f + 1) ++ R.take (f + 1)).drop (j + 1)) (Num.addP sg (gX R (x + 1), gY R (x + 1), gK R (x + 1))) = T) := by
            have := HWK.out
            rw [HRot.out, walk_ctl (by exact hk0)] at this
            exact this
          go_wp2_with fail
          refine (withControl_any sg (gX R (x + 1), gY R (x + 1), gK R (x + 1)) _).mono ?_
          rintro e w3 ⟨rfl, hb3⟩
          have hbw : Below wr.heap.size wr w3 := Below.trans (by (repeat (any_goals (first | exact Below.refl _ _ | assumption | refine Below.drew ?_ | refine below_drewN ?_ _ | refine Below.setCell ?_ ?_ _ | refine Below.alloc ?_ ?_ _ | omega | (simp; done) | (simp; omega))))) (hb3.mono (by simp))
          have HO := hide (owns_set9 hown hbw (G := w2.heap.size + 1 + 1) (by omega) (Num.addP sg (gX R (x + 1), gY R (x + 1), gK R (x + 1))))
          have HR3 := hide (row_below HRow.out hbw hGl)
          have hs3 := hbw.size
          obtain ⟨e0, e1, e2, e3, e4, e5, e6, e7, e8⟩ := sg_cells HR3.out
          have y0 := HR3.out.frozen 0
          have y1 := HR3.out.frozen 1
          have y2 := HR3.out.frozen 2
          have y3 := HR3.out.frozen 3
          have y4 := HR3.out.frozen 4
          have y5 := HR3.out.frozen 5
          have y6 := HR3.out.frozen 6
          have y7 := HR3.out.frozen 7
          have y8 := HR3.out.frozen 8
          have hb4 : Below w2.heap.size w2 w3 := hb.trans (hbw.mono hsz)
          have HS9 := hide (set9_row HR3.out (Num.addP sg (gX R (x + 1), gY R (x + 1), gK R (x + 1))))
          have HB9 := hide (set9_below hb4 (b := w2.heap.size + 1 + 1) (by omega) (Num.addP sg (gX R (x + 1), gY R (x + 1), gK R (x + 1))))
          clear hb3 hbw hown hb q0 q1 q2 q3 q4 q5 q6 q7 q8 z0 z1 z2 z3 z4 z5 z6 z7 z8 d0 d1 d2
          obtain ⟨ag, hag⟩ : ∃ ag, ag = Num.addP sg (gX R (x + 1), gY R (x + 1), gK R (x + 1)) := ⟨_, rfl⟩
          rw [← hag] at HO HS9 HW2 HB9 ⊢
          clear hag
          go_wp2
          go_roundw
          case rel => exact ⟨j + 1, ag, out, by omega, by go_num, by rw [← HY2.out]; go_num, HB9.out, HS9.out, HO.out, by omega, HW2.out⟩
          case measure => simp [intOf]; omega
        · go_wp2_with fail
          refine (spot_any _ _ _ _).mono ?_
          rintro e w3 ⟨rfl, hw3⟩
          have hbw : Below wr.heap.size wr w3 := by rw [hw3]; (repeat (any_goals (first | exact Below.refl _ _ | assumption | refine Below.drew ?_ | refine below_drewN ?_ _ | refine Below.setCell ?_ ?_ _ | refine Below.alloc ?_ ?_ _ | omega | (simp; done) | (simp; omega))))
          clear hw3
          have HR3 := hide (row_below HRow.out hbw hGl)
          have hs3 := hbw.size
          obtain ⟨e0, e1, e2, e3, e4, e5, e6, e7, e8⟩ := sg_cells HR3.out
          have y7 := HR3.out.frozen 7
          have y8 := HR3.out.frozen 8
          have hG3 : w2.heap.size + 1 + 1 < w3.heap.size := by omega
          have hown3 := owns_of_block hown (fun b hbb => hbw.block b (hown.lt b hbb).2)
          have hb4 : Below w2.heap.size w2 w3 := hb.trans (hbw.mono hsz)
          clear hbw hown hb q0 q1 q2 q3 q4 q5 q6 q7 q8 z0 z1 z2 z3 z4 z5 z6 z7 z8 d0 d1 d2
          obtain ⟨i0, hi0, hz0, hz1, hz2⟩ := info_parts info_seg
          obtain ⟨ol, hol2⟩ : ∃ ol, ol = out.length := ⟨_, rfl⟩
          obtain ⟨xs, hxs⟩ : ∃ xs, xs = out.flatMap sgC := ⟨_, rfl⟩
          rw [← hol2] at hol
          rw [← hol2, ← hxs] at hown3
          have HOL := hide hol2
          have HXS := hide hxs
          clear hol2 hxs
          have hown4 : ((w3.setCell ⟨w2.heap.size + 1 + 1, 7, none⟩ (.int .i64 (gX R (x + 1)))).setCell ⟨w2.heap.size + 1 + 1, 8, none⟩ (.int .i64 (gY R (x + 1)))).ownsRow (w2.heap.size + 1 + 1 + 1) 105 9 v ol xs :=
            owns_of_block hown3 (fun b hbb => by
              have := (hown3.lt b hbb).1
              rw [set_other (by omega), set_other (by omega)])
          go_wp2_with (at_builtin; refine wpList_append_lies _ rfl _ _ 101 rfl (w2.heap.size + 1 + 1 + 1) 105 i0 (.agg #[.int .i64 0, .int .i64 0, .int .i64 0, .int .i64 0, .int .i64 0, .int .i64 0, .int .i64 0, .int .i64 0, .int .i64 0]) 9 72 Try.underlying101 hi0 hz0 hz1 hz2 rfl (by omega) v ol xs rfl (hown4.alloc _) ⟨w3.heap.size, 0, none⟩ 1 1 [.int .i64 sg.k, .int .i64 sg.x0, .int .i64 sg.y0, .int .i64 sg.x1, .int .i64 sg.y1, .int .i64 sg.x2, .int .i64 sg.y2, .int .i64 (gX R (x + 1)), .int .i64 (gY R (x + 1))] rfl rfl ?s1 ?s2 (by omega) ?s3 ?s4 ?s5 (w3.heap.size + 1) (by simp) ?_)
          case s1 => exact news_new ((w3.setCell ⟨w2.heap.size + 1 + 1, 7, none⟩ (.int .i64 (gX R (x + 1)))).setCell ⟨w2.heap.size + 1 + 1, 8, none⟩ (.int .i64 (gY R (x + 1)))) [.int .i64 sg.k, .int .i64 sg.x0, .int .i64 sg.y0, .int .i64 sg.x1, .int .i64 sg.y1, .int .i64 sg.x2, .int .i64 sg.y2, .int .i64 (gX R (x + 1)), .int .i64 (gY R (x + 1))] _ _ (by simp)
          case s2 => exact one_sg (Num.setTo sg (gX R (x + 1), gY R (x + 1), gK R (x + 1)))
          case s3 => unfold maxLen; omega
          case s4 => omega
          case s5 => simp; omega
          intro g2 cap2 w4 hown5 hgrow hat hlt4
          have hne : some (w2.heap.size + 1 + 1) ≠ v.ownBlock := fun e => by have := (hown3.lt _ e.symm).1; omega
          have hR4 : w4.rowIs (w2.heap.size + 1 + 1) 105 9 (sgF (Num.setTo sg (gX R (x + 1), gY R (x + 1), gK R (x + 1)))) :=
            ((set2_row HR3.out (gX R (x + 1), gY R (x + 1), gK R (x + 1))).alloc _).of_block (hgrow.block _ (by simp; omega) hne)
          have hb5 : Below w2.heap.size w2 w4 := Below.grown (w := ((w3.setCell ⟨w2.heap.size + 1 + 1, 7, none⟩ (.int .i64 (gX R (x + 1)))).setCell ⟨w2.heap.size + 1 + 1, 8, none⟩ (.int .i64 (gY R (x + 1)))).alloc _) (by (repeat (any_goals (first | exact Below.refl _ _ | assumption | refine Below.drew ?_ | refine below_drewN ?_ _ | refine Below.setCell ?_ ?_ _ | refine Below.alloc ?_ ?_ _ | omega | (simp; done) | (simp; omega))))) hgrow (by simp; omega) (fun q hq => by have := (hown3.lt q hq).1; omega)
          have hO6 : w4.ownsRow (w2.heap.size + 1 + 1 + 1) 105 9 (.slice (some ⟨g2, 0, none⟩) (ol + 1) cap2) (out ++ [Num.setTo sg (gX R (x + 1), gY R (x + 1), gK R (x + 1))]).length ((out ++ [Num.setTo sg (gX R (x + 1), gY R (x + 1), gK R (x + 1))]).flatMap sgC) :=
            push_sg (by rw [← HXS.out]; exact hown5) (by rw [HOL.out])
          have HO7 := hide (owns_set9 hO6 (Below.refl _ _) (G := w2.heap.size + 1 + 1) (by omega) (Num.initS (gX R (x + 1), gY R (x + 1), gK R (x + 1))))
          have HS9 := hide (set9_row hR4 (Num.initS (gX R (x + 1), gY R (x + 1), gK R (x + 1))))
          have HB9 := hide (set9_below hb5 (b := w2.heap.size + 1 + 1) (by omega) (Num.initS (gX R (x + 1), gY R (x + 1), gK R (x + 1))))
          have HW2 : Hid ((out ++ [Num.setTo sg (gX R (x + 1), gY R (x + 1), gK R (x + 1))]) ++ Num.walkL ((R.drop (f + 1) ++ R.take (f + 1)).drop (j + 1)) (Num.initS (gX R (x + 1), gY R (x + 1), gK R (x + 1))) = T) := by
            have := HWK.out
            rw [HRot.out, walk_on (by exact hk0)] at this
            unfold Hid
            rw [List.append_assoc]
            exact this
          have HOl2 : Hid ((out ++ [Num.setTo sg (gX R (x + 1), gY R (x + 1), gK R (x + 1))]).length ≤ j + 1) := by
            unfold Hid
            have := HOL.out
            simp; omega
          obtain ⟨t0, t1, t2, t3, t4, t5, t6, t7, t8⟩ := sg_cells hR4
          have t7 : w4.cell? ⟨w2.heap.size + 1 + 1, 7, none⟩ = some (.int .i64 (gX R (x + 1))) := t7
          have t8 : w4.cell? ⟨w2.heap.size + 1 + 1, 8, none⟩ = some (.int .i64 (gY R (x + 1))) := t8
          have y0 := hR4.frozen 0
          have y1 := hR4.frozen 1
          have y2 := hR4.frozen 2
          have y3 := hR4.frozen 3
          have y4 := hR4.frozen 4
          have y5 := hR4.frozen 5
          have y6 := hR4.frozen 6
          have y7 := hR4.frozen 7
          have y8 := hR4.frozen 8
          have hG4 := hR4.lt
          clear hown5 hgrow hat hne hO6 hown4 hown3 hb4 e0 e1 e2 e3 e4 e5 e6 e7 e8 hR4
          go_wp2
          go_roundw
          case rel => exact ⟨j + 1, Num.initS (gX R (x + 1), gY R (x + 1), gK R (x + 1)), out ++ [Num.setTo sg (gX R (x + 1), gY R (x + 1), gK R (x + 1))], by omega, by go_num, by rw [← HY2.out]; go_num, HB9.out, HS9.out, HO7.out, HOl2.out, HW2.out⟩
          case measure => simp [intOf]; omega
    · have e : j = r := by omega
      have hfin : out = T := by
        have h := HWK.out
        rw [List.drop_of_length_le (by have := HRL.out; simp; omega)] at h
        simpa [Num.walkL] using h
      subst hfin
      have hd0 : decide ((j : Int) < (r : Int)) = false := by simp; omega
      have hb9 : Below w.heap.size w wr := hb02.trans (hb.mono (by omega))
      have HO9 := hide (owns_base hown (base' := w.heap.size) (by omega))
      clear hrow hown hb
      go_wp2
      go_ret
      exact ⟨v, rfl, hb9, HO9.out⟩
end Go.Proofs.Ytkhcjkmifddlbab

/- RngP -/
namespace Go.Proofs.Ytkhcjkmifddlbab
open Go.RowKit Go.Deep

/-- The segments of contour i. -/
def ringL (n : Nat → Nat) (X Y K : Nat → Nat → Int) (i : Nat) : List Num.Sg := Num.refRing (X i) (Y i) (K i) (n i)
theorem refRing_len (X Y K : Nat → Int) (n : Nat) : (Num.refRing X Y K n).length ≤ 2 * n := refU_len X Y K n (2 * n)

theorem refRing_pos {X Y K : Nat → Int} {n : Nat} (hn : 2 ≤ n) (hs : ∀ i, i < n → Num.badB K n i = false) : 0 < (Num.refRing X Y K n).length := by
  obtain ⟨t, ht, hon⟩ := Num.exists_on (X := X) (Y := Y) hn hs
  have : Num.fromV X Y K n t ∈ Num.refRing X Y K n := by
    unfold Num.refRing
    rw [List.mem_filterMap]
    exact ⟨t, by simpa using ht, by simp [Num.refF, hon]⟩
  exact List.length_pos_of_mem this

theorem ok_shape {n : Nat → Nat} {K : Nat → Nat → Int} {i : Nat} (h : Num.shapeAt n K i = false) : 2 ≤ n i ∧ ∀ k, k < n i → Num.badB (K i) (n i) k = false := by
  have h1 : Num.shapeI (K i) (n i) = -1 := by simpa [Num.shapeAt] using h
  unfold Num.shapeI at h1
  split at h1
  · omega
  · refine ⟨by omega, ?_⟩
    rcases Num.firstI_cases (Num.badB (K i) (n i)) (n i) with ⟨_, hb⟩ | ⟨k, _, _, _, e⟩
    · exact hb
    · rw [e] at h1; omega
theorem ok_far {n : Nat → Nat} {X Y : Nat → Nat → Int} {i : Nat} (h : Num.farAt n X Y i = false) : (∀ k, k < n i → -4096 ≤ X i k ∧ X i k ≤ 4096) ∧ ∀ k, k < n i → -4096 ≤ Y i k ∧ Y i k ≤ 4096 := by
  have h1 : Num.farI (X i) (Y i) (n i) = -1 := by simpa [Num.farAt] using h
  unfold Num.farI at h1
  have hb : ∀ k, k < n i → Num.farB (X i) (Y i) k = false := by
    rcases Num.firstI_cases (Num.farB (X i) (Y i)) (n i) with ⟨_, hb⟩ | ⟨k, _, _, _, e⟩
    · exact hb
    · rw [e] at h1; omega
  have key : ∀ k, k < n i → Num.wi (X i k) 4096 = true ∧ Num.wi (Y i k) 4096 = true := fun k hk => by
    have := hb k hk
    simpa [Num.farB] using this
  exact ⟨fun k hk => Num.wi_yes (key k hk).1, fun k hk => Num.wi_yes (key k hk).2⟩
theorem ok_many {N : Nat} {n : Nat → Nat} (h : Num.manyB N n = false) : N ≤ 16 ∧ Num.sumN n N ≤ 200 ∧ ∀ i, i < N → n i ≤ 200 := by
  have h1 : N ≤ 16 ∧ Num.sumN n N ≤ 200 := by simp [Num.manyB] at h; omega
  refine ⟨h1.1, h1.2, fun i hi => ?_⟩
  have := Num.sumN_mono n (show i + 1 ≤ N by omega)
  simp only [Num.sumN] at this
  omega

theorem flat9_len (l : List Num.Sg) : (l.flatMap sgC).length = l.length * 9 := by
  induction l with
  | nil => simp
  | cons x r ih => rw [List.flatMap_cons, List.length_append, ih]; simp [sgC]; omega
theorem flat9_one (l : List Num.Sg) : ∀ u ∈ l.flatMap sgC, u.oneCell' = true := by
  intro u hu
  rw [List.mem_flatMap] at hu
  obtain ⟨g, _, hg⟩ := hu
  exact one_sg g u hg
theorem owns_news {w : World} {base g cap : Nat} {t : TypeId} {l : List Num.Sg} (h : w.ownsRow base t 9 (.slice (some ⟨g, 0, none⟩) l.length cap) l.length (l.flatMap sgC)) : ∀ (j : Nat) (u : Value), (l.flatMap sgC)[j]? = some u → w.cell? ((⟨g, 0, none⟩ : Addr).add j) = some u := by
  intro j u hj
  have e2 : ((⟨g, 0, none⟩ : Addr).add j) = ⟨g, j, none⟩ := by
    unfold Addr.add
    split
    · rename_i h; simp_all
    · simp
  have hlt : j < l.length * 9 := by
    rcases Nat.lt_or_ge j (l.length * 9) with h | h
    · exact h
    · rw [List.getElem?_eq_none (by rw [flat9_len]; exact h)] at hj; cases hj
  rw [e2, h.cellAt j hlt, hj]

theorem owns_mono9 {w : World} {base base' : Nat} {t : TypeId} {sz : Nat} {v : Value} {n : Nat} {xs : List Value} (h : w.ownsRow base t sz v n xs) (hb : base' ≤ base) : w.ownsRow base' t sz v n xs := by
  refine ⟨h.1, ?_⟩
  rcases h.2 with hn | ⟨g, cap, cur, rfl, hb', rest⟩
  · exact .inl hn
  · exact .inr ⟨g, cap, cur, rfl, Nat.le_trans hb hb', rest⟩
theorem owns_form9' {w : World} {base : Nat} {t : TypeId} {z : Nat} {v : Value} {n : Nat} {xs : List Value} (h : w.ownsRow base t z v n xs) : ∃ ao cap, v = .slice ao n cap ∧ (0 < n → ∃ b, ao = some ⟨b, 0, none⟩) := by
  rcases h.2 with ⟨rfl, h0⟩ | ⟨g, cap, cur, rfl, _⟩
  · exact ⟨none, 0, by rw [h0], by omega⟩
  · exact ⟨some ⟨g, 0, none⟩, cap, rfl, fun _ => ⟨g, rfl⟩⟩
theorem info_ring : (Try.prog.info? 101).map (fun i => (i.zero, i.size, i.bytes)) = some (some (.slice none 0 0), 1, 24) := by kernel_rfl

/-- How many rings there are. -/
def ringN (N : Nat) (n : Nat → Nat) (X Y K : Nat → Nat → Int) : Nat := if (Num.chkV N n X Y K).1 = 0 then N else 0
/-- Rings, as a call hands them out: a list of lists. -/
structure RingsAt (w : World) (base : Nat) (v : Value) (m : Nat) (V : Nat → Value) (L : Nat → List Num.Sg) : Prop where
  outer : w.ownsRow base 101 1 v m ((List.range m).map V)
  inner : ∀ i, i < m → w.ownsRow base 105 9 (V i) (L i).length ((L i).flatMap sgC)
theorem RingsAt.below {w w' : World} {base : Nat} {v : Value} {m : Nat} {V : Nat → Value} {L : Nat → List Num.Sg} (h : RingsAt w base v m V L) (hb : Below w.heap.size w w') : RingsAt w' base v m V L :=
  ⟨owns_of_block h.outer (fun b hbb => hb.block b (h.outer.lt b hbb).2), fun i hi => owns_of_block (h.inner i hi) (fun b hbb => hb.block b ((h.inner i hi).lt b hbb).2)⟩
theorem range_map_snoc {α : Type} (f : Nat → α) (i : Nat) : (List.range (i + 1)).map f = (List.range i).map f ++ [f i] := by
  rw [List.range_succ, List.map_append]; rfl
theorem range_map_congr {α : Type} {f g : Nat → α} {i : Nat} (h : ∀ j, j < i → f j = g j) : (List.range i).map f = (List.range i).map g := by
  apply List.map_congr_left
  intro j hj
  exact h j (by simpa using hj)

set_option maxRecDepth 100000 in
set_option maxHeartbeats 2000000 in
theorem outRings_any (a : Option Addr) (N c : Nat) (A : Nat → Option Addr) (C n : Nat → Nat) (X Y K : Nat → Nat → Int) (w : World) (hN : N ≤ 4294967296) (hn : ∀ i, i < N → n i ≤ 4294967296) (ho : OutAt w a N A C n X Y K) :
    Calls Try.prog 71 #[.slice a N c] w fun e w' => ∃ v V, e = .returned (.tuple #[v, .int .i64 (Num.chkV N n X Y K).1]) ∧ Below w.heap.size w w' ∧ RingsAt w' w.heap.size v (ringN N n X Y K) V (ringL n X Y K) := by
  have HO := hide ho
  have HN := hide hn
  have hcs := Num.chk_cases N n X Y K
  obtain ⟨V0, hV⟩ : ∃ V, V = Num.chkV N n X Y K := ⟨_, rfl⟩
  have hSV : ringN N n X Y K = if V0.1 = 0 then N else 0 := by unfold ringN; rw [hV]
  rw [← hV] at hcs ⊢
  obtain ⟨T, hT⟩ : ∃ T, T = ringN N n X Y K := ⟨_, rfl⟩
  rw [← hT] at hSV ⊢
  have HV := hide hV
  clear ho hn hV hT
  rcases hcs with ⟨h0, hm, hsh, hfa⟩ | h0
  · rw [if_pos h0] at hSV
    obtain ⟨m16, m200, mn⟩ := ok_many hm
    have HSV := hide hSV
    have HSH := hide hsh
    have HFA := hide hfa
    have HMN := hide mn
    clear hSV hsh hfa mn hm
    obtain ⟨v0, v1, v2⟩ := V0
    have h0 : v0 = 0 := h0
    subst h0
    obtain ⟨i0, hi0, hz0, hz1, hz2⟩ := info_parts info_ring
    go_enter Try.func71, Try.ntmps71
    go_wp2_with fail
    refine (check_any _ _ _ A C n X Y K _ hN HN.out HO.out).mono ?_
    rw [← HV.out]
    rintro e w1 ⟨rfl, hb1⟩
    have hs1 := hb1.size
    go_wp2_with fail
    go_loopw [7, 22] (fun v t wr => ∃ (k : Nat) (V : Nat → Value), k ≤ N ∧ t = .int .i64 k ∧ Below w.heap.size w wr ∧ RingsAt wr w.heap.size v k V (ringL n X Y K)) (fun _ t _ => N - (intOf t).toNat)
    case atStart => exact ⟨0, fun _ => .slice none 0 0, by omega, rfl, hb1, World.ownsRow_nil _ _ _ _, fun i hi => by omega⟩
    case round =>
      obtain ⟨v, rfl⟩ : ∃ v, v = u7 := ⟨_, rfl⟩
      obtain ⟨k, V, hk, rfl, hb, hRA⟩ := hrel
      have hsz := hb.size
      by_cases hlt : k < N
      · have HO2 := hide (HO.out.below hb)
        rcases HO2.out.1 with h | ⟨b, off, rfl, hc⟩
        · omega
        have ci := hc k hlt
        clear hc
        obtain ⟨s2, sb⟩ := ok_shape (HSH.out k hlt)
        obtain ⟨fX, fY⟩ := ok_far (HFA.out k hlt)
        have hnk := HMN.out k hlt
        have HC := hide (ringSegments_any (A k) (n k) (C k) (X k) (Y k) (K k) wr (by omega) s2 sb fX fY (HO2.out.2 k hlt))
        clear sb fX fY
        have HRA := hide hRA
        clear hRA
        go_wp2_with fail
        refine HC.out.mono ?_
        rintro e w2 ⟨v2, rfl, hb2, hown2⟩
        have hs2 := hb2.size
        have HRA2 := hide (HRA.out.below hb2)
        have hbw : Below w.heap.size w w2 := hb.trans (hb2.mono hsz)
        have HW2 := hide (owns_mono9 (base' := w.heap.size) hown2 hsz)
        have hout := HRA2.out.outer
        clear hb hb2 HC hown2
        obtain ⟨xs, hxs⟩ : ∃ xs, xs = (List.range k).map V := ⟨_, rfl⟩
        rw [← hxs] at hout
        have HX := hide hxs
        have HOut := hide hout
        obtain ⟨ao, cp, hv2, _⟩ := owns_form9' HW2.out
        subst hv2
        clear hxs
        go_wp2_with (at_builtin; refine wpList_append_lies _ rfl _ _ 133 rfl w.heap.size 101 i0 (.slice none 0 0) 1 24 Try.underlying133 hi0 hz0 hz1 hz2 rfl (by omega) v k xs rfl (hout.alloc _) ⟨w2.heap.size, 0, none⟩ 1 1 [.slice ao (Num.refRing (X k) (Y k) (K k) (n k)).length cp] rfl rfl ?c1 ?c2 (by omega) ?c3 ?c4 ?c5 (w2.heap.size + 1) (by simp) ?_)
        try (case c1 => exact news_new w2 [.slice ao (Num.refRing (X k) (Y k) (K k) (n k)).length cp] _ _ rfl)
        case c2 => first | rfl | (intro u hu; simp at hu; subst hu; rfl)
        case c3 => unfold maxLen; omega
        case c4 => omega
        case c5 => first | omega | (simp; omega)
        intro g cap w3 hown3 hgrow hat hlt3
        have hb3 : Below w.heap.size w w3 := (hbw.alloc (by omega) _).grown hgrow (by simp; omega) (fun q hq => (HOut.out.lt q hq).1)
        have hkeep : ∀ (u : Value) (l : List Num.Sg), w2.ownsRow w.heap.size 105 9 u l.length (l.flatMap sgC) → w3.ownsRow w.heap.size 105 9 u l.length (l.flatMap sgC) := fun u l h => owns_of_block h (fun b hbb => by
          have hty := owns_ty h hbb
          have hlt9 := (h.lt b hbb).2
          rw [hgrow.block b (by rw [nblk_alloc]; omega) (fun e => by
            have := owns_ty HOut.out e.symm
            rw [hty] at this
            simp at this), blk_alloc_lt _ _ _ hlt9])
        have HR3 : Hid (RingsAt w3 w.heap.size (.slice (some ⟨g, 0, none⟩) (k + 1) cap) (k + 1) (fun i => if i = k then .slice ao (Num.refRing (X k) (Y k) (K k) (n k)).length cp else V i) (ringL n X Y K)) := by
          refine ⟨?_, fun i hi => ?_⟩
          · rw [range_map_snoc, range_map_congr (g := V) (fun j hj => by rw [if_neg (by omega)]), if_pos rfl, ← HX.out]
            exact hown3
          · by_cases e : i = k
            · subst e
              rw [if_pos rfl]
              exact hkeep _ _ HW2.out
            · rw [if_neg e]
              exact hkeep _ _ (HRA2.out.inner i (by omega))
        clear hown3 hgrow hat hout hbw hkeep
        go_wp2
        go_roundw
        case rel => exact ⟨k + 1, _, by omega, by go_num, hb3, HR3.out⟩
        case measure => simp [intOf]; omega
      · have e : k = N := by omega
        have HO9 := hide hRA
        clear hRA
        go_wp2
        go_ret2
        refine ⟨v, V, rfl, hb, ?_⟩
        rw [HSV.out, ← e]
        exact HO9.out
  · rw [if_neg h0] at hSV
    have HSV := hide hSV
    clear hSV
    obtain ⟨v0, v1, v2⟩ := V0
    have hb0 : (v0 != 0) = true := by simpa using h0
    clear h0
    go_enter Try.func71, Try.ntmps71
    go_wp2_with fail
    refine (check_any _ _ _ A C n X Y K _ hN HN.out HO.out).mono ?_
    rw [← HV.out]
    rintro e w1 ⟨rfl, hb1⟩
    go_wp2
    go_ret2
    refine ⟨_, fun _ => .slice none 0 0, rfl, hb1, ?_⟩
    rw [HSV.out]
    exact ⟨World.ownsRow_nil _ _ _ _, fun i hi => by omega⟩
end Go.Proofs.Ytkhcjkmifddlbab
