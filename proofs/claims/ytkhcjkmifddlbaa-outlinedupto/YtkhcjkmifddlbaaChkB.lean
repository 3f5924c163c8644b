/- Check: the program's, whole. -/
import Derived.Test.YtkhcjkmifddlbaaChk
namespace Go.Proofs.Ytkhcjkmifddlbaa
open Go.RowKit

theorem many_of_sum {N : Nat} {n : Nat → Nat} {k : Nat} (hk : k ≤ N) (h : 200 < Num.sumN n k) : Num.manyB N n = true := by
  have := Num.sumN_mono n hk
  simp [Num.manyB]; omega

set_option maxHeartbeats 400000 in
theorem tooMany_any (a : Option Addr) (N c : Nat) (A : Nat → Option Addr) (C n : Nat → Nat) (X Y K : Nat → Nat → Int) (w : World) (hN : N ≤ 4294967296) (hn : ∀ i, i < N → n i ≤ 4294967296) (ho : OutAt w a N A C n X Y K) :
    Calls Try.prog 115 #[.slice a N c] w fun e w' => e = .returned (.bool (Num.manyB N n)) ∧ w' = w := by
  have hout := ho.1
  clear ho
  by_cases h16 : 16 < N
  · have e : Num.manyB N n = true := by simp [Num.manyB, h16]
    rw [e]
    clear e hn
    go_enter Try.func115, Try.ntmps115
    go_wp2_with fail
    go_ret
    exact ⟨rfl, rfl⟩
  · have h16' : N ≤ 16 := by omega
    have HN := hide hn
    clear hn
    go_enter Try.func115, Try.ntmps115
    go_wp2_with fail
    go_loop [3, 11] (fun l i => ∃ k : Nat, k ≤ N ∧ i = .int .i64 k ∧ l = .int .i64 (200 - (Num.sumN n k : Int)) ∧ Num.sumN n k ≤ 200) (fun _ i => N - (intOf i).toNat)
    case atStart => exact ⟨0, by omega, rfl, by simp [Num.sumN], by simp [Num.sumN]⟩
    case round =>
      obtain ⟨k, hk, rfl, rfl, hs⟩ := hrel
      by_cases hlt : k < N
      · rcases hout with h | ⟨b, off, rfl, hc⟩
        · omega
        have ci := hc k hlt
        have hnk := HN.out k hlt
        clear hc
        have hsum : Num.sumN n (k + 1) = Num.sumN n k + n k := rfl
        have HS := hide hsum
        clear hsum
        by_cases hov : 200 - (Num.sumN n k : Int) < (n k : Int)
        · go_wp2
          go_ret
          exact ⟨ret_bool (many_of_sum (k := k + 1) (by omega) (by have := HS.out; omega)).symm, rfl⟩
        · go_wp2
          go_round
          case rel => exact ⟨k + 1, by omega, by go_num, by rw [HS.out]; go_num, by rw [HS.out]; omega⟩
          case measure => simp [intOf]; omega
      · go_wp2
        go_ret
        have e : k = N := by omega
        subst e
        exact ⟨ret_bool (by simp [Num.manyB]; omega), rfl⟩

set_option maxHeartbeats 400000 in
theorem check_any (a : Option Addr) (N c : Nat) (A : Nat → Option Addr) (C n : Nat → Nat) (X Y K : Nat → Nat → Int) (w : World) (hN : N ≤ 4294967296) (hn : ∀ i, i < N → n i ≤ 4294967296) (ho : OutAt w a N A C n X Y K) :
    Calls Try.prog 83 #[.slice a N c] w fun e w' =>
      e = .returned (.tuple #[.int .i64 (Num.chkV N n X Y K).1, .int .i64 (Num.chkV N n X Y K).2.1, .int .i64 (Num.chkV N n X Y K).2.2]) ∧ Below w.heap.size w w' := by
  have HN := hide hn
  have HO := hide ho
  clear hn ho
  cases hm : Num.manyB N n
  · go_enter Try.func83, Try.ntmps83
    go_wp2_with fail
    refine (tooMany_any _ _ _ A C n X Y K _ hN HN.out HO.out).mono ?_
    rintro e w' ⟨rfl, hw⟩
    rw [hm, hw]
    clear hw
    go_wp2_with fail
    go_loopw [15] (fun i wr => ∃ k : Nat, k ≤ N ∧ i = .int .i64 k ∧ Below w.heap.size w wr ∧ ∀ j, j < k → Num.shapeAt n K j = false) (fun i _ => N - (intOf i).toNat)
    case atStart => exact ⟨0, by omega, rfl, Below.refl _ _, by omega⟩
    case round =>
      obtain ⟨k, hk, rfl, hb, hno⟩ := hrel
      have hsz := hb.size
      have HNo := hide hno
      clear hno
      have HO2 := hide (HO.out.below hb)
      by_cases hlt : k < N
      · rcases HO2.out.1 with h | ⟨b, off, rfl, hc⟩
        · omega
        have ci := hc k hlt
        clear hc
        go_wp2_with fail
        refine (shapeFault_any _ _ _ _ _ _ _ (HN.out k hlt) (HO2.out.2 k hlt)).mono ?_
        rintro e w1 ⟨rfl, hb1⟩
        have hb2 : Below w.heap.size w w1 := hb.trans (hb1.mono hsz)
        clear hb1
        cases hs : Num.shapeAt n K k
        · have hs' : Num.shapeI (K k) (n k) = -1 := by simpa [Num.shapeAt] using hs
          rw [hs']
          have HS := hide hs
          clear hs hs'
          go_wp2
          go_roundw
          case rel =>
            refine ⟨k + 1, by omega, by go_num, hb2, fun j hj => ?_⟩
            by_cases ej : j = k
            · subst ej; exact HS.out
            · exact HNo.out j (by omega)
          case measure => simp [intOf]; omega
        · have hs' : (Num.shapeI (K k) (n k) != -1) = true := by simpa [Num.shapeAt] using hs
          have hv := Num.chk_shape N n X Y K hm k hlt hs HNo.out
          have HV := hide hv
          clear hs hv
          go_wp2
          go_ret3
          rw [HV.out]
          exact ⟨rfl, hb2⟩
      · have e : k = N := by omega
        subst e
        go_wp2_with fail
        go_loopw [29] (fun i wr' => ∃ j : Nat, j ≤ k ∧ i = .int .i64 j ∧ Below w.heap.size w wr' ∧ ∀ q, q < j → Num.farAt n X Y q = false) (fun i _ => k - (intOf i).toNat)
        case atStart => exact ⟨0, by omega, rfl, hb, by omega⟩
        case round =>
          obtain ⟨j, hj, rfl, hb', hno'⟩ := hrel
          have hsz' := hb'.size
          have HNo' := hide hno'
          clear hno'
          have HO3 := hide (HO.out.below hb')
          by_cases hlt' : j < k
          · rcases HO3.out.1 with h | ⟨b, off, rfl, hc⟩
            · omega
            have ci := hc j hlt'
            clear hc
            go_wp2_with fail
            refine (firstFar_any _ _ _ _ _ _ _ (HN.out j hlt') (HO3.out.2 j hlt')).mono ?_
            rintro e w1 ⟨rfl, hb1⟩
            have hb2 : Below w.heap.size w w1 := hb'.trans (hb1.mono hsz')
            clear hb1
            cases hs : Num.farAt n X Y j
            · have hs' : Num.farI (X j) (Y j) (n j) = -1 := by simpa [Num.farAt] using hs
              rw [hs']
              have HS := hide hs
              clear hs hs'
              go_wp2
              go_roundw
              case rel =>
                refine ⟨j + 1, by omega, by go_num, hb2, fun q hq => ?_⟩
                by_cases ej : q = j
                · subst ej; exact HS.out
                · exact HNo'.out q (by omega)
              case measure => simp [intOf]; omega
            · have hs' : (Num.farI (X j) (Y j) (n j) != -1) = true := by simpa [Num.farAt] using hs
              have hv := Num.chk_far k n X Y K hm HNo.out j hlt' hs HNo'.out
              have HV := hide hv
              clear hs hv
              go_wp2
              go_ret3
              rw [HV.out]
              exact ⟨rfl, hb2⟩
          · have e : j = k := by omega
            subst e
            go_wp2
            go_ret3
            rw [Num.chk_ok j n X Y K hm HNo.out HNo'.out]
            exact ⟨rfl, hb'⟩
  · rw [Num.chk_many N n X Y K hm]
    go_enter Try.func83, Try.ntmps83
    go_wp2_with fail
    refine (tooMany_any _ _ _ A C n X Y K _ hN HN.out HO.out).mono ?_
    rintro e w' ⟨rfl, hw⟩
    rw [hm, hw]
    clear hw
    go_wp2
    go_ret3
    exact ⟨rfl, Below.refl _ _⟩

set_option maxHeartbeats 400000 in
theorem glyphCheck_any (a : Option Addr) (N c : Nat) (A : Nat → Option Addr) (C n : Nat → Nat) (X Y K : Nat → Nat → Int) (w : World) (hN : N ≤ 4294967296) (hn : ∀ i, i < N → n i ≤ 4294967296) (ho : OutAt w a N A C n X Y K) :
    Calls Try.prog 45 #[.slice a N c] w fun e w' =>
      e = .returned (.tuple #[.int .i64 (Num.chkV N n X Y K).1, .int .i64 (Num.chkV N n X Y K).2.1, .int .i64 (Num.chkV N n X Y K).2.2]) ∧ Below w.heap.size w w' := by
  have HN := hide hn
  have HO := hide ho
  clear hn ho
  go_enter Try.func45, Try.ntmps45
  go_wp2_with fail
  refine (check_any _ _ _ A C n X Y K _ hN HN.out HO.out).mono ?_
  rintro e w1 ⟨rfl, hb⟩
  go_wp2
  go_ret3
  exact ⟨rfl, hb⟩
end Go.Proofs.Ytkhcjkmifddlbaa
