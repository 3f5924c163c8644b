/- Check: the document's, whole. -/
import Derived.Test.YtkhcjkmifddlbaaRefChk
namespace Go.Proofs.Ytkhcjkmifddlbaa
open Go.RowKit

theorem shape_ge {n : Nat → Nat} {K : Nat → Nat → Int} {k : Nat} : (Num.shapeAt n K k = false → Num.shapeI (K k) (n k) < 0) ∧ (Num.shapeAt n K k = true → 0 ≤ Num.shapeI (K k) (n k)) := by
  rcases Num.shapeI_ge (K k) (n k) with h | h
  · exact ⟨fun _ => by omega, fun e => by simp [Num.shapeAt, h] at e⟩
  · refine ⟨fun e => ?_, fun _ => h⟩
    have : Num.shapeI (K k) (n k) = -1 := by simpa [Num.shapeAt] using e
    omega

set_option maxHeartbeats 1000000 in
theorem refCheck_any (a : Option Addr) (N c : Nat) (A : Nat → Option Addr) (C n : Nat → Nat) (X Y K : Nat → Nat → Int) (w : World) (hN : N ≤ 4294967296) (hn : ∀ i, i < N → n i ≤ 4294967296) (hS : Num.sumN n N ≤ 1099511627776) (ho : OutAt w a N A C n X Y K) :
    Calls Try.prog 46 #[.slice a N c] w fun e w' =>
      e = .returned (.tuple #[.int .i64 (Num.chkV N n X Y K).1, .int .i64 (Num.chkV N n X Y K).2.1, .int .i64 (Num.chkV N n X Y K).2.2]) ∧ Below w.heap.size w w' := by
  have HN := hide hn
  have HO := hide ho
  clear hn ho
  go_enter Try.func46, Try.ntmps46
  go_wp2_with fail
  go_loop [5, 6] (fun s i => ∃ k : Nat, k ≤ N ∧ i = .int .i64 k ∧ s = .int .i64 (Num.sumN n k)) (fun _ i => N - (intOf i).toNat)
  case atStart => exact ⟨0, by omega, rfl, by simp [Num.sumN]⟩
  case round =>
    obtain ⟨k, hk, rfl, rfl⟩ := hrel
    have hmono := Num.sumN_mono n hk
    by_cases hlt : k < N
    · rcases HO.out.1 with h | ⟨b, off, rfl, hc⟩
      · omega
      have ci := hc k hlt
      have hnk := HN.out k hlt
      have HS := hide (show Num.sumN n (k + 1) = Num.sumN n k + n k from rfl)
      clear hc
      go_wp2
      go_round
      case rel => exact ⟨k + 1, by omega, by go_num, by rw [HS.out]; go_num⟩
      case measure => simp [intOf]; omega
    have e : k = N := by omega
    subst e
    clear hlt hk hmono
    cases hm : Num.manyB k n
    · have h16 : k ≤ 16 := by simp [Num.manyB] at hm; omega
      have h200 : Num.sumN n k ≤ 200 := by simp [Num.manyB] at hm; omega
      go_wp2_with fail
      go_loopw [7] (fun i wr => ∃ j : Nat, j ≤ k ∧ i = .int .i64 j ∧ Below w.heap.size w wr ∧ ∀ q, q < j → Num.shapeAt n K q = false) (fun i _ => k - (intOf i).toNat)
      case atStart => exact ⟨0, by omega, rfl, Below.refl _ _, by omega⟩
      case round =>
        obtain ⟨j, hj, rfl, hb, hno⟩ := hrel
        have hsz := hb.size
        have HNo := hide hno
        clear hno
        have HO2 := hide (HO.out.below hb)
        by_cases hlt : j < k
        · rcases HO2.out.1 with h | ⟨b, off, rfl, hc⟩
          · omega
          have ci := hc j hlt
          clear hc
          go_wp2_with fail
          refine (refShape_any _ _ _ _ _ _ _ (HN.out j hlt) (HO2.out.2 j hlt)).mono ?_
          rintro e w1 ⟨rfl, hb1⟩
          have hb2 : Below w.heap.size w w1 := hb.trans (hb1.mono hsz)
          clear hb1
          cases hs : Num.shapeAt n K j
          · have hs' := shape_ge.1 hs
            have HS := hide hs
            clear hs
            go_wp2
            go_roundw
            case rel =>
              refine ⟨j + 1, by omega, by go_num, hb2, fun q hq => ?_⟩
              by_cases ej : q = j
              · subst ej; exact HS.out
              · exact HNo.out q (by omega)
            case measure => simp [intOf]; omega
          · have hs' := shape_ge.2 hs
            have HV := hide (Num.chk_shape k n X Y K hm j hlt hs HNo.out)
            clear hs
            go_wp2
            go_ret3
            rw [HV.out]
            exact ⟨rfl, hb2⟩
        have e : j = k := by omega
        subst e
        clear hlt hj
        go_wp2_with fail
        go_loopw [9] (fun i wr' => ∃ q : Nat, q ≤ j ∧ i = .int .i64 q ∧ Below w.heap.size w wr' ∧ ∀ t, t < q → Num.farAt n X Y t = false) (fun i _ => j - (intOf i).toNat)
        case atStart => exact ⟨0, by omega, rfl, hb, by omega⟩
        case round =>
          obtain ⟨q, hq, rfl, hb', hno'⟩ := hrel
          have hsz' := hb'.size
          have HNo' := hide hno'
          clear hno'
          by_cases hlt' : q < j
          · have hnq := HN.out q hlt'
            go_wp2_with fail
            go_loopw [10] (fun i wq => ∃ t : Nat, t ≤ n q ∧ i = .int .i64 t ∧ Below w.heap.size w wq ∧ ∀ u, u < t → Num.farB (X q) (Y q) u = false) (fun i _ => n q - (intOf i).toNat)
            case atStart => exact ⟨0, by omega, rfl, hb', by omega⟩
            case round =>
              obtain ⟨t, ht, rfl, hbq, hnoq⟩ := hrel
              have hszq := hbq.size
              have HNoq := hide hnoq
              clear hnoq
              have HO3 := hide (HO.out.below hbq)
              rcases HO3.out.1 with h | ⟨b, off, rfl, hc⟩
              · omega
              have ci := hc q hlt'
              clear hc
              by_cases hlq : t < n q
              · rcases HO3.out.2 q hlt' with h | ⟨b2, off2, ha, hc2⟩
                · omega
                rw [ha] at ci
                obtain ⟨d0, d1, d2⟩ := hc2 t hlq
                clear hc2 ha
                go_wp2_with fail
                refine (refFar_any _ _ _ _).mono ?_
                rintro e w1 ⟨rfl, hb1⟩
                have hb2 : Below w.heap.size w w1 := hbq.trans (hb1.mono hszq)
                clear hb1
                have hfb : (!(Num.wi (X q t) 4096 && Num.wi (Y q t) 4096)) = Num.farB (X q) (Y q) t := rfl
                rw [hfb]
                clear hfb
                cases hs : Num.farB (X q) (Y q) t
                · have HS := hide hs
                  clear hs
                  go_wp2
                  go_roundw
                  case rel =>
                    refine ⟨t + 1, by omega, by go_num, hb2, fun u hu => ?_⟩
                    by_cases ej : u = t
                    · subst ej; exact HS.out
                    · exact HNoq.out u (by omega)
                  case measure => simp [intOf]; omega
                · have hI : Num.farI (X q) (Y q) (n q) = t := Num.firstI_hit _ _ _ hlq hs HNoq.out
                  have hfa : Num.farAt n X Y q = true := by simp [Num.farAt, hI]
                  have HV := hide (Num.chk_far j n X Y K hm HNo.out q hlt' hfa HNo'.out)
                  have HI := hide hI
                  clear hs hI hfa
                  go_wp2
                  go_ret3
                  rw [HV.out, HI.out]
                  exact ⟨rfl, hb2⟩
              · have e : t = n q := by omega
                have hfa : Num.farAt n X Y q = false := by
                  have : Num.farI (X q) (Y q) (n q) = -1 := Num.firstI_none _ _ (by rw [← e]; exact HNoq.out)
                  simp [Num.farAt, this]
                have HF := hide hfa
                have htn : ¬ (t : Int) < (n q : Int) := by omega
                clear hfa e
                go_wp2
                go_roundw
                case rel =>
                  refine ⟨q + 1, by omega, by go_num, hbq, fun u hu => ?_⟩
                  by_cases ej : u = q
                  · subst ej; exact HF.out
                  · exact HNo'.out u (by omega)
                case measure => simp [intOf]; omega
          · have e : q = j := by omega
            subst e
            go_wp2
            go_ret3
            rw [Num.chk_ok q n X Y K hm HNo.out HNo'.out]
            exact ⟨rfl, hb'⟩
    · have HV := hide (Num.chk_many k n X Y K hm)
      have hor : 16 < k ∨ (k ≤ 16 ∧ 200 < Num.sumN n k) := by simp [Num.manyB] at hm; omega
      rcases hor with h | ⟨h, h'⟩
      all_goals
        go_wp2
        go_ret3
        rw [HV.out]
        exact ⟨rfl, Below.refl _ _⟩
end Go.Proofs.Ytkhcjkmifddlbaa
