/- The document's Place; the law's steps on Place. -/
import Derived.Test.YtkhcjkmifddlbaaPlace
namespace Go.Proofs.Ytkhcjkmifddlbaa
open Go.RowKit

theorem fair_false {a b c d x y : Int} (h : Num.wi a 65536 = false ∨ Num.wi b 65536 = false ∨ Num.wi c 65536 = false ∨ Num.wi d 65536 = false ∨ Num.wi x 16384 = false ∨ Num.wi y 16384 = false) : false = Num.fairB a b c d x y := by
  unfold Num.fairB
  rcases h with h | h | h | h | h | h <;> simp [h]

set_option maxHeartbeats 1000000 in
theorem refFair_any (a b c d x y : Int) (w : World) :
    Calls Try.prog 93 #[.agg #[.int .i64 a, .int .i64 b, .int .i64 c, .int .i64 d, .int .i64 x, .int .i64 y]] w fun e w' => e = .returned (.bool (Num.fairB a b c d x y)) ∧ Below w.heap.size w w' := by
  go_enter Try.func93, Try.ntmps93
  go_wp2
  go_loop [4] (fun i => ∃ k : Nat, k ≤ 4 ∧ i = .int .i64 k ∧ (1 ≤ k → Num.wi a 65536 = true) ∧ (2 ≤ k → Num.wi b 65536 = true) ∧ (3 ≤ k → Num.wi c 65536 = true) ∧ (4 ≤ k → Num.wi d 65536 = true)) (fun i => 4 - (intOf i).toNat)
  case atStart => exact ⟨0, by omega, rfl, by omega, by omega, by omega, by omega⟩
  case round =>
    obtain ⟨k, hk, rfl, r1, r2, r3, r4⟩ := hrel
    have R := hide (And.intro r1 (And.intro r2 (And.intro r3 r4)))
    clear r1 r2 r3 r4
    rcases (show k = 0 ∨ k = 1 ∨ k = 2 ∨ k = 3 ∨ k = 4 by omega) with rfl | rfl | rfl | rfl | rfl
    · cases hw : Num.wi a 65536
      · rcases Num.wi_no hw with h | h
        · go_wp2
          go_ret
          exact ⟨ret_bool (fair_false (by simp [hw])), by (repeat (any_goals (first | exact Below.refl _ _ | assumption | refine Below.drew ?_ | refine below_drewN ?_ _ | refine Below.setCell ?_ ?_ _ | refine Below.alloc ?_ ?_ _ | omega | (simp; done) | (simp; omega))))⟩
        · go_wp2
          go_ret
          exact ⟨ret_bool (fair_false (by simp [hw])), by (repeat (any_goals (first | exact Below.refl _ _ | assumption | refine Below.drew ?_ | refine below_drewN ?_ _ | refine Below.setCell ?_ ?_ _ | refine Below.alloc ?_ ?_ _ | omega | (simp; done) | (simp; omega))))⟩
      · have h := Num.wi_yes hw
        go_wp2
        go_round
        case rel => exact ⟨1, by omega, rfl, fun _ => by first | exact hw | trivial, by omega, by omega, by omega⟩
        case measure => simp [intOf]
    · cases hw : Num.wi b 65536
      · rcases Num.wi_no hw with h | h
        · go_wp2
          go_ret
          exact ⟨ret_bool (fair_false (by simp [hw])), by (repeat (any_goals (first | exact Below.refl _ _ | assumption | refine Below.drew ?_ | refine below_drewN ?_ _ | refine Below.setCell ?_ ?_ _ | refine Below.alloc ?_ ?_ _ | omega | (simp; done) | (simp; omega))))⟩
        · go_wp2
          go_ret
          exact ⟨ret_bool (fair_false (by simp [hw])), by (repeat (any_goals (first | exact Below.refl _ _ | assumption | refine Below.drew ?_ | refine below_drewN ?_ _ | refine Below.setCell ?_ ?_ _ | refine Below.alloc ?_ ?_ _ | omega | (simp; done) | (simp; omega))))⟩
      · have h := Num.wi_yes hw
        go_wp2
        go_round
        case rel => exact ⟨2, by omega, rfl, fun _ => R.out.1 (by omega), fun _ => by first | exact hw | trivial, by omega, by omega⟩
        case measure => simp [intOf]
    · cases hw : Num.wi c 65536
      · rcases Num.wi_no hw with h | h
        · go_wp2
          go_ret
          exact ⟨ret_bool (fair_false (by simp [hw])), by (repeat (any_goals (first | exact Below.refl _ _ | assumption | refine Below.drew ?_ | refine below_drewN ?_ _ | refine Below.setCell ?_ ?_ _ | refine Below.alloc ?_ ?_ _ | omega | (simp; done) | (simp; omega))))⟩
        · go_wp2
          go_ret
          exact ⟨ret_bool (fair_false (by simp [hw])), by (repeat (any_goals (first | exact Below.refl _ _ | assumption | refine Below.drew ?_ | refine below_drewN ?_ _ | refine Below.setCell ?_ ?_ _ | refine Below.alloc ?_ ?_ _ | omega | (simp; done) | (simp; omega))))⟩
      · have h := Num.wi_yes hw
        go_wp2
        go_round
        case rel => exact ⟨3, by omega, rfl, fun _ => R.out.1 (by omega), fun _ => R.out.2.1 (by omega), fun _ => by first | exact hw | trivial, by omega⟩
        case measure => simp [intOf]
    · cases hw : Num.wi d 65536
      · rcases Num.wi_no hw with h | h
        · go_wp2
          go_ret
          exact ⟨ret_bool (fair_false (by simp [hw])), by (repeat (any_goals (first | exact Below.refl _ _ | assumption | refine Below.drew ?_ | refine below_drewN ?_ _ | refine Below.setCell ?_ ?_ _ | refine Below.alloc ?_ ?_ _ | omega | (simp; done) | (simp; omega))))⟩
        · go_wp2
          go_ret
          exact ⟨ret_bool (fair_false (by simp [hw])), by (repeat (any_goals (first | exact Below.refl _ _ | assumption | refine Below.drew ?_ | refine below_drewN ?_ _ | refine Below.setCell ?_ ?_ _ | refine Below.alloc ?_ ?_ _ | omega | (simp; done) | (simp; omega))))⟩
      · have h := Num.wi_yes hw
        go_wp2
        go_round
        case rel => exact ⟨4, by omega, rfl, fun _ => R.out.1 (by omega), fun _ => R.out.2.1 (by omega), fun _ => R.out.2.2.1 (by omega), fun _ => by first | exact hw | trivial⟩
        case measure => simp [intOf]
    · have e1 := R.out.1 (by omega)
      have e2 := R.out.2.1 (by omega)
      have e3 := R.out.2.2.1 (by omega)
      have e4 := R.out.2.2.2 (by omega)
      have E : Num.fairB a b c d x y = Num.inB x y := by simp [Num.fairB, Num.inB, e1, e2, e3, e4]
      have HE := hide E
      clear E e1 e2 e3 e4
      go_wp2
      all_goals
        go_ret
        refine ⟨ret_bool ?_, by (repeat (any_goals (first | exact Below.refl _ _ | assumption | refine Below.drew ?_ | refine below_drewN ?_ _ | refine Below.setCell ?_ ?_ _ | refine Below.alloc ?_ ?_ _ | omega | (simp; done) | (simp; omega))))⟩
        rw [HE.out]
        simp only [Num.inB, Num.wi]
        simp [*]
        try omega

set_option maxHeartbeats 1000000 in
theorem refPlace_any (a b c d x y s t : Int) (w : World) :
    Calls Try.prog 59 #[.agg #[.int .i64 a, .int .i64 b, .int .i64 c, .int .i64 d, .int .i64 x, .int .i64 y], .agg #[.int .i64 s, .int .i64 t]] w fun e w' =>
      e = .returned (.tuple #[.agg #[.int .i64 (Num.placeV a b c d x y s t).1, .int .i64 (Num.placeV a b c d x y s t).2.1], .int .i64 (Num.placeV a b c d x y s t).2.2]) ∧ Below w.heap.size w w' := by
  by_cases hs : (Num.wi s 8192 && Num.wi t 8192) = false
  · have hV : Num.placeV a b c d x y s t = (0, 0, 4) := by unfold Num.placeV; rw [if_pos hs]
    rw [hV]
    clear hV
    have hs' : (s < -8192 ∨ 8192 < s) ∨ ((-8192 ≤ s ∧ s ≤ 8192) ∧ (t < -8192 ∨ 8192 < t)) := by
      simp [Num.wi] at hs; omega
    clear hs
    rcases hs' with (h | h) | ⟨h0, (h | h)⟩
    all_goals
      go_enter Try.func59, Try.ntmps59
      go_wp2_with fail
      refine bodyPost_ret (v := .tuple #[.agg #[.int .i64 0, .int .i64 0], .int .i64 4]) (by simp [results, Try.results59, go_sem]) rfl ⟨rfl, ?_⟩
      (repeat (any_goals (first | exact Below.refl _ _ | assumption | refine Below.drew ?_ | refine below_drewN ?_ _ | refine Below.setCell ?_ ?_ _ | refine Below.alloc ?_ ?_ _ | omega | (simp; done) | (simp; omega))))
  simp at hs
  obtain ⟨hs, ht⟩ := hs
  have k := Num.wi_yes hs
  have k2 := Num.wi_yes ht
  cases hf : Num.fairB a b c d x y
  · have hV : Num.placeV a b c d x y s t = (0, 0, 5) := by unfold Num.placeV; rw [hs, ht, hf]; rfl
    rw [hV]
    clear hV
    go_enter Try.func59, Try.ntmps59
    go_wp2_with fail
    refine (refFair_any _ _ _ _ _ _ _).mono ?_
    rintro e w1 ⟨rfl, hb⟩
    obtain ⟨hc, hfz⟩ := bcell hb
    have hz : w.heap.size + 1 + 1 < w1.heap.size := by have := hb.size; simp at this; omega
    have hb0 : Below w.heap.size w w1 := Below.trans (by (repeat (any_goals (first | exact Below.refl _ _ | assumption | refine Below.drew ?_ | refine below_drewN ?_ _ | refine Below.setCell ?_ ?_ _ | refine Below.alloc ?_ ?_ _ | omega | (simp; done) | (simp; omega))))) (hb.mono (by simp; omega))
    clear hb
    go_wp2
    refine bodyPost_ret (v := .tuple #[.agg #[.int .i64 0, .int .i64 0], .int .i64 5]) (by simp [results, Try.results59, go_sem, hc]) rfl ⟨rfl, ?_⟩
    (repeat (any_goals (first | exact Below.refl _ _ | assumption | refine Below.drew ?_ | refine below_drewN ?_ _ | refine Below.setCell ?_ ?_ _ | refine Below.alloc ?_ ?_ _ | omega | (simp; done) | (simp; omega))))
  have kf : Num.wi a 65536 = true ∧ Num.wi b 65536 = true ∧ Num.wi c 65536 = true ∧ Num.wi d 65536 = true ∧ Num.wi x 16384 = true ∧ Num.wi y 16384 = true := by
    simp [Num.fairB] at hf; simp [hf]
  obtain ⟨f1, f2, f3, f4, f5, f6⟩ := kf
  have f1 := Num.wi_yes f1; have f2 := Num.wi_yes f2; have f3 := Num.wi_yes f3; have f4 := Num.wi_yes f4; have f5 := Num.wi_yes f5; have f6 := Num.wi_yes f6
  have m1 := Num.mul_bd a s _ _ f1 k
  have m2 := Num.mul_bd b t _ _ f2 k2
  have m3 := Num.mul_bd c s _ _ f3 k
  have m4 := Num.mul_bd d t _ _ f4 k2
  have n1 := Num.hu_le (a * s + b * t) 2048 10000000000 (by omega) (by omega) (by omega) (by omega)
  have n2 := Num.hu_le (c * s + d * t) 2048 10000000000 (by omega) (by omega) (by omega) (by omega)
  go_enter Try.func59, Try.ntmps59
  go_wp2_with fail
  refine (refFair_any _ _ _ _ _ _ _).mono ?_
  rintro e w1 ⟨rfl, hb⟩
  obtain ⟨hc, hfz⟩ := bcell hb
  have hz : w.heap.size + 1 + 1 < w1.heap.size := by have := hb.size; simp at this; omega
  have hb0 : Below w.heap.size w w1 := Below.trans (by (repeat (any_goals (first | exact Below.refl _ _ | assumption | refine Below.drew ?_ | refine below_drewN ?_ _ | refine Below.setCell ?_ ?_ _ | refine Below.alloc ?_ ?_ _ | omega | (simp; done) | (simp; omega))))) (hb.mono (by simp; omega))
  clear hb
  go_wp2_with fail
  refine (half_any _ _ _ (by omega) (by omega) (by omega) (by omega)).mono ?_
  rintro e w1 ⟨rfl, rfl⟩
  go_wp2_with fail
  refine (half_any _ _ _ (by omega) (by omega) (by omega) (by omega)).mono ?_
  rintro e w1 ⟨rfl, rfl⟩
  go_wp2_with fail
  refine (refInRange_any _ _ _).mono ?_
  rintro e w2 ⟨rfl, hb2⟩
  obtain ⟨hc2, hfz2⟩ := bcell hb2
  have hz2' : w1.heap.size < w2.heap.size := by have := hb2.size; simp at this; omega
  have hb3 : Below w.heap.size w w2 := Below.trans (by (repeat (any_goals (first | exact Below.refl _ _ | assumption | refine Below.drew ?_ | refine below_drewN ?_ _ | refine Below.setCell ?_ ?_ _ | refine Below.alloc ?_ ?_ _ | omega | (simp; done) | (simp; omega))))) (hb2.mono (by simp; omega))
  clear hb2 hb0
  have HB3 := hide hb3
  clear hb3
  have q20 : w2.cell? ⟨w.heap.size + 1 + 1, 0, none⟩ = some (.int .i64 0) := by rw [hc2 _ _ (by simp; omega)]; go_simp
  have q21 : w2.cell? ⟨w.heap.size + 1 + 1, 1, none⟩ = some (.int .i64 0) := by rw [hc2 _ _ (by simp; omega)]; go_simp
  have z20 : w2.frozen? ⟨w.heap.size + 1 + 1, 0, none⟩ = false := by rw [hfz2 _ _ (by simp; omega)]; go_simp
  have z21 : w2.frozen? ⟨w.heap.size + 1 + 1, 1, none⟩ = false := by rw [hfz2 _ _ (by simp; omega)]; go_simp
  have u20 : w2.cell? ⟨w1.heap.size, 0, none⟩ = some (.int .i64 (x + Num.hu (a * s + b * t) 2048)) := by rw [hc2 _ _ (by simp)]; go_simp
  have u21 : w2.cell? ⟨w1.heap.size, 1, none⟩ = some (.int .i64 (y + Num.hu (c * s + d * t) 2048)) := by rw [hc2 _ _ (by simp)]; go_simp
  have hz3 : w.heap.size + 1 + 1 < w2.heap.size := by omega
  clear hc2 hfz2 hc hfz
  cases hi : Num.inB (x + Num.hu (a * s + b * t) 2048) (y + Num.hu (c * s + d * t) 2048)
  · have hV : Num.placeV a b c d x y s t = (0, 0, 6) := by unfold Num.placeV; rw [hs, ht, hf, hi]; rfl
    have HV := hide hV
    clear hV
    go_wp2
    refine bodyPost_ret (v := .tuple #[.agg #[.int .i64 0, .int .i64 0], .int .i64 6]) (by simp [results, Try.results59, go_sem, q20, q21]) rfl ⟨by rw [HV.out], ?_⟩
    have := HB3.out
    (repeat (any_goals (first | exact Below.refl _ _ | assumption | refine Below.drew ?_ | refine below_drewN ?_ _ | refine Below.setCell ?_ ?_ _ | refine Below.alloc ?_ ?_ _ | omega | (simp; done) | (simp; omega))))
  · have hV : Num.placeV a b c d x y s t = (x + Num.hu (a * s + b * t) 2048, y + Num.hu (c * s + d * t) 2048, 0) := by unfold Num.placeV; rw [hs, ht, hf, hi]; rfl
    have HV := hide hV
    clear hV
    go_wp2
    refine bodyPost_ret (v := .tuple #[.agg #[.int .i64 (x + Num.hu (a * s + b * t) 2048), .int .i64 (y + Num.hu (c * s + d * t) 2048)], .int .i64 0]) (by simp [results, Try.results59, go_sem, q20, q21]) rfl ⟨by rw [HV.out], ?_⟩
    have := HB3.out
    (repeat (any_goals (first | exact Below.refl _ _ | assumption | refine Below.drew ?_ | refine below_drewN ?_ _ | refine Below.setCell ?_ ?_ _ | refine Below.alloc ?_ ?_ _ | omega | (simp; done) | (simp; omega))))
end Go.Proofs.Ytkhcjkmifddlbaa
