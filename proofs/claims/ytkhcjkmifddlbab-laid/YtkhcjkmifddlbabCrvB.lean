/- The program's Curve. -/
import Derived.Test.YtkhcjkmifddlbabCrv
namespace Go.Proofs.Ytkhcjkmifddlbab
open Go.RowKit

set_option maxHeartbeats 1000000 in
theorem chords_any (k x0 y0 x1 y1 x2 y2 x3 y3 : Int) (w : World) (hr : Num.rangeB (⟨k, x0, y0, x1, y1, x2, y2, x3, y3⟩ : Num.Sg) = true) :
    Calls Try.prog 101 #[.agg #[.int .i64 k, .int .i64 x0, .int .i64 y0, .int .i64 x1, .int .i64 y1, .int .i64 x2, .int .i64 y2, .int .i64 x3, .int .i64 y3]] w fun e w' => e = .returned (.int .i64 (Num.stepsV (Num.needV (⟨k, x0, y0, x1, y1, x2, y2, x3, y3⟩ : Num.Sg)))) ∧ Below w.heap.size w w' := by
  obtain ⟨r0, r3, r1, r2⟩ := Num.range_yes hr
  have hneed := Num.needV_bd hr
  have hS := Num.stepsV_is hneed.2
  have hSle := Num.stepsV_le hneed.2
  obtain ⟨S, hSe⟩ : ∃ S, S = Num.stepsV (Num.needV (⟨k, x0, y0, x1, y1, x2, y2, x3, y3⟩ : Num.Sg)) := ⟨_, rfl⟩
  rw [← hSe] at hS hSle ⊢
  obtain ⟨D, hD⟩ : ∃ D, D = Num.needV (⟨k, x0, y0, x1, y1, x2, y2, x3, y3⟩ : Num.Sg) := ⟨_, rfl⟩
  rw [← hD] at hS hneed
  have HS := hide hS
  clear hSe hS hr
  obtain ⟨a1, a2⟩ := Num.inB_yes r0
  obtain ⟨b1, b2⟩ := Num.inB_yes r3
  clear r0 r3
  by_cases h1 : k = 1
  · subst h1
    obtain ⟨c1, c2⟩ := Num.inB_yes (r1 (.inl rfl))
    have HD : Hid (D = Num.bendV x0 y0 x1 y1 x3 y3) := by unfold Hid; rw [hD]; simp [Num.needV]
    clear r1 r2 hD
    go_enter Try.func101, Try.ntmps101
    go_wp2_with fail
    refine (bend_any _ _ _ _ _ _ _ a1 a2 c1 c2 b1 b2).mono ?_
    rw [← HD.out]
    rintro e w1 ⟨rfl, hb⟩
    have hb0 : Below w.heap.size w w1 := Below.trans (by (repeat (any_goals (first | exact Below.refl _ _ | assumption | refine Below.drew ?_ | refine below_drewN ?_ _ | refine Below.setCell ?_ ?_ _ | refine Below.alloc ?_ ?_ _ | omega | (simp; done) | (simp; omega))))) (hb.mono (by simp))
    clear hb a1 a2 b1 b2 c1 c2
    go_wp2_with fail
    go_loop [6] (fun t => ∃ q : Int, 1 ≤ q ∧ q ≤ S ∧ t = .int .i64 q) (fun t => (S - intOf t).toNat)
    case atStart => exact ⟨1, by omega, HS.out.1, rfl⟩
    case round =>
      obtain ⟨q, q1, q2, rfl⟩ := hrel
      obtain ⟨s1, s2⟩ := steps_round HS.out q1 q2
      have b1 := Num.sq_mono (a := q) (b := 111) (by omega) (by omega)
      have b0 := Num.sq_mono (a := 0) (b := q) (by omega) (by omega)
      by_cases hlt : 16 * q * q < D
      · have s3 := s1 hlt
        clear s1 s2
        go_wp2
        go_round
        case rel => exact ⟨q + 1, by omega, by omega, rfl⟩
        case measure => simp [intOf]; omega
      · have HE := hide (s2 hlt)
        clear s1 s2
        go_wp2
        go_ret
        exact ⟨ret_int HE.out, hb0⟩
  · by_cases h2 : k = 2
    · subst h2
      obtain ⟨c1, c2⟩ := Num.inB_yes (r1 (.inr rfl))
      obtain ⟨d1, d2⟩ := Num.inB_yes (r2 rfl)
      have HD : Hid (D = 3 * Num.gr (Num.bendV x0 y0 x1 y1 x2 y2) (Num.bendV x1 y1 x2 y2 x3 y3)) := by unfold Hid; rw [hD]; simp [Num.needV]
      have p := Num.bendV_bd a1 a2 c1 c2 d1 d2
      have q := Num.bendV_bd c1 c2 d1 d2 b1 b2
      have gb := Num.gr_bd p.1 p.2 q.1 q.2
      clear r1 r2 hD p q
      go_enter Try.func101, Try.ntmps101
      go_wp2_with fail
      refine (bend_any _ _ _ _ _ _ _ a1 a2 c1 c2 d1 d2).mono ?_
      rintro e w1 ⟨rfl, hb⟩
      obtain ⟨hc, hfz⟩ := bcell hb
      have hz : w.heap.size < w1.heap.size := by have := hb.size; simp at this; omega
      have hb0 : Below w.heap.size w w1 := Below.trans (by (repeat (any_goals (first | exact Below.refl _ _ | assumption | refine Below.drew ?_ | refine below_drewN ?_ _ | refine Below.setCell ?_ ?_ _ | refine Below.alloc ?_ ?_ _ | omega | (simp; done) | (simp; omega))))) (hb.mono (by simp))
      have e3 : w1.cell? ⟨w.heap.size, 3, none⟩ = some (.int .i64 x1) := by rw [hc _ _ (by simp)]; go_simp
      have e4 : w1.cell? ⟨w.heap.size, 4, none⟩ = some (.int .i64 y1) := by rw [hc _ _ (by simp)]; go_simp
      have e5 : w1.cell? ⟨w.heap.size, 5, none⟩ = some (.int .i64 x2) := by rw [hc _ _ (by simp)]; go_simp
      have e6 : w1.cell? ⟨w.heap.size, 6, none⟩ = some (.int .i64 y2) := by rw [hc _ _ (by simp)]; go_simp
      have e7 : w1.cell? ⟨w.heap.size, 7, none⟩ = some (.int .i64 x3) := by rw [hc _ _ (by simp)]; go_simp
      have e8 : w1.cell? ⟨w.heap.size, 8, none⟩ = some (.int .i64 y3) := by rw [hc _ _ (by simp)]; go_simp
      clear hb hc hfz
      go_wp2_with fail
      refine (bend_any _ _ _ _ _ _ _ c1 c2 d1 d2 b1 b2).mono ?_
      rintro e w2 ⟨rfl, hb2⟩
      have hb3 : Below w.heap.size w w2 := hb0.trans (hb2.mono (by omega))
      clear hb2 hb0 a1 a2 b1 b2 c1 c2 d1 d2 e3 e4 e5 e6 e7 e8
      go_wp2_with (go_at_call 89; refine (greater_any _ _ _).mono ?_; rintro e w' ⟨rfl, rfl⟩)
      rw [← HD.out]
      go_wp2_with fail
      go_loop [6] (fun t => ∃ q : Int, 1 ≤ q ∧ q ≤ S ∧ t = .int .i64 q) (fun t => (S - intOf t).toNat)
      case atStart => exact ⟨1, by omega, HS.out.1, rfl⟩
      case round =>
        obtain ⟨q, q1, q2, rfl⟩ := hrel
        obtain ⟨s1, s2⟩ := steps_round HS.out q1 q2
        have b1 := Num.sq_mono (a := q) (b := 111) (by omega) (by omega)
        have b0 := Num.sq_mono (a := 0) (b := q) (by omega) (by omega)
        by_cases hlt : 16 * q * q < D
        · have s3 := s1 hlt
          clear s1 s2
          go_wp2
          go_round
          case rel => exact ⟨q + 1, by omega, by omega, rfl⟩
          case measure => simp [intOf]; omega
        · have HE := hide (s2 hlt)
          clear s1 s2
          go_wp2
          go_ret
          exact ⟨ret_int HE.out, hb3⟩
    · have t1 : (k == 1) = false := by simpa using h1
      have t2 : (k == 2) = false := by simpa using h2
      have hD0 : D = 0 := by rw [hD]; simp [Num.needV, h1, h2]
      clear r1 r2 hD
      subst hD0
      have hS1 : S = 1 := by
        rcases Int.lt_or_le 1 S with h | h
        · have := HS.out.2.2 1 (by omega) h; omega
        · have := HS.out.1; omega
      clear a1 a2 b1 b2 h1 h2
      go_enter Try.func101, Try.ntmps101
      go_wp2_with fail
      go_loop [6] (fun t => t = .int .i64 1) (fun _ => 0)
      case atStart => rfl
      case round =>
        subst hrel
        go_wp2
        go_ret
        exact ⟨ret_int (by omega), by (repeat (any_goals (first | exact Below.refl _ _ | assumption | refine Below.drew ?_ | refine below_drewN ?_ _ | refine Below.setCell ?_ ?_ _ | refine Below.alloc ?_ ?_ _ | omega | (simp; done) | (simp; omega))))⟩

set_option maxHeartbeats 1000000 in
theorem spotOf_any (k x0 y0 x1 y1 x2 y2 x3 y3 i n : Int) (w : World) (hr : Num.rangeB (⟨k, x0, y0, x1, y1, x2, y2, x3, y3⟩ : Num.Sg) = true) (hi : 0 ≤ i) (hin : i ≤ n) (h1 : 1 ≤ n) (hn : n ≤ 111) :
    Calls Try.prog 102 #[.agg #[.int .i64 k, .int .i64 x0, .int .i64 y0, .int .i64 x1, .int .i64 y1, .int .i64 x2, .int .i64 y2, .int .i64 x3, .int .i64 y3], .int .i64 i, .int .i64 n] w fun e w' => e = .returned (.agg #[.int .i64 (Num.spotX (⟨k, x0, y0, x1, y1, x2, y2, x3, y3⟩ : Num.Sg) n i), .int .i64 (Num.spotY (⟨k, x0, y0, x1, y1, x2, y2, x3, y3⟩ : Num.Sg) n i)]) ∧ Below w.heap.size w w' := by
  obtain ⟨r0, r3, r1, r2⟩ := Num.range_yes hr
  obtain ⟨a1, a2⟩ := Num.inB_yes r0
  obtain ⟨b1, b2⟩ := Num.inB_yes r3
  clear r0 r3 hr
  by_cases e1 : k = 1
  · subst e1
    obtain ⟨c1, c2⟩ := Num.inB_yes (r1 (.inl rfl))
    have HX : Hid (Num.spotX (⟨1, x0, y0, x1, y1, x2, y2, x3, y3⟩ : Num.Sg) n i = Num.hu (Num.qSum (n - i) i x0 x1 x3) (n * n)) := by unfold Hid Num.spotX; rw [if_pos rfl]
    have HY : Hid (Num.spotY (⟨1, x0, y0, x1, y1, x2, y2, x3, y3⟩ : Num.Sg) n i = Num.hu (Num.qSum (n - i) i y0 y1 y3) (n * n)) := by unfold Hid Num.spotY; rw [if_pos rfl]
    clear r1 r2
    rw [HX.out, HY.out]
    go_enter Try.func102, Try.ntmps102
    go_wp2_with (go_at_call 112; refine (quadAt_any _ _ _ _ _ _ (by assumption) (by assumption) (by assumption) hi hin h1 hn).mono ?_; rintro e w' ⟨rfl, rfl⟩)
    refine bodyPost_ret (v := .agg #[.int .i64 (Num.hu (Num.qSum (n - i) i x0 x1 x3) (n * n)), .int .i64 (Num.hu (Num.qSum (n - i) i y0 y1 y3) (n * n))]) (by simp [results, Try.results102, go_sem]) rfl ⟨rfl, ?_⟩
    clear a1 a2 b1 b2 c1 c2
    (repeat (any_goals (first | exact Below.refl _ _ | assumption | refine Below.drew ?_ | refine below_drewN ?_ _ | refine Below.setCell ?_ ?_ _ | refine Below.alloc ?_ ?_ _ | omega | (simp; done) | (simp; omega))))
  · by_cases e2 : k = 2
    · subst e2
      obtain ⟨c1, c2⟩ := Num.inB_yes (r1 (.inr rfl))
      obtain ⟨d1, d2⟩ := Num.inB_yes (r2 rfl)
      have HX : Hid (Num.spotX (⟨2, x0, y0, x1, y1, x2, y2, x3, y3⟩ : Num.Sg) n i = Num.hu (Num.cSum (n - i) i x0 x1 x2 x3) (n * n * n)) := by unfold Hid Num.spotX; rw [if_neg (by show ¬ (2 : Int) = 1; decide), if_pos rfl]
      have HY : Hid (Num.spotY (⟨2, x0, y0, x1, y1, x2, y2, x3, y3⟩ : Num.Sg) n i = Num.hu (Num.cSum (n - i) i y0 y1 y2 y3) (n * n * n)) := by unfold Hid Num.spotY; rw [if_neg (by show ¬ (2 : Int) = 1; decide), if_pos rfl]
      clear r1 r2
      rw [HX.out, HY.out]
      go_enter Try.func102, Try.ntmps102
      go_wp2_with (go_at_call 113; refine (cubicAt_any _ _ _ _ _ _ _ (by assumption) (by assumption) (by assumption) (by assumption) hi hin h1 hn).mono ?_; rintro e w' ⟨rfl, rfl⟩)
      refine bodyPost_ret (v := .agg #[.int .i64 (Num.hu (Num.cSum (n - i) i x0 x1 x2 x3) (n * n * n)), .int .i64 (Num.hu (Num.cSum (n - i) i y0 y1 y2 y3) (n * n * n))]) (by simp [results, Try.results102, go_sem]) rfl ⟨rfl, ?_⟩
      clear a1 a2 b1 b2 c1 c2 d1 d2
      (repeat (any_goals (first | exact Below.refl _ _ | assumption | refine Below.drew ?_ | refine below_drewN ?_ _ | refine Below.setCell ?_ ?_ _ | refine Below.alloc ?_ ?_ _ | omega | (simp; done) | (simp; omega))))
    · have t1 : (k == 1) = false := by simpa using e1
      have t2 : (k == 2) = false := by simpa using e2
      clear r1 r2 a1 a2 b1 b2
      by_cases ein : i = n
      · have HX : Hid (Num.spotX (⟨k, x0, y0, x1, y1, x2, y2, x3, y3⟩ : Num.Sg) n i = x3) := by unfold Hid Num.spotX; rw [if_neg e1, if_neg e2, if_pos ein]
        have HY : Hid (Num.spotY (⟨k, x0, y0, x1, y1, x2, y2, x3, y3⟩ : Num.Sg) n i = y3) := by unfold Hid Num.spotY; rw [if_neg e1, if_neg e2, if_pos ein]
        have t3 : (i == n) = true := by simpa using ein
        rw [HX.out, HY.out]
        clear e1 e2 ein
        go_enter Try.func102, Try.ntmps102
        go_wp2
        refine bodyPost_ret (v := .agg #[.int .i64 x3, .int .i64 y3]) (by simp [results, Try.results102, go_sem]) rfl ⟨rfl, ?_⟩
        (repeat (any_goals (first | exact Below.refl _ _ | assumption | refine Below.drew ?_ | refine below_drewN ?_ _ | refine Below.setCell ?_ ?_ _ | refine Below.alloc ?_ ?_ _ | omega | (simp; done) | (simp; omega))))
      · have HX : Hid (Num.spotX (⟨k, x0, y0, x1, y1, x2, y2, x3, y3⟩ : Num.Sg) n i = x0) := by unfold Hid Num.spotX; rw [if_neg e1, if_neg e2, if_neg ein]
        have HY : Hid (Num.spotY (⟨k, x0, y0, x1, y1, x2, y2, x3, y3⟩ : Num.Sg) n i = y0) := by unfold Hid Num.spotY; rw [if_neg e1, if_neg e2, if_neg ein]
        have t3 : (i == n) = false := by simpa using ein
        rw [HX.out, HY.out]
        clear e1 e2 ein
        go_enter Try.func102, Try.ntmps102
        go_wp2
        refine bodyPost_ret (v := .agg #[.int .i64 x0, .int .i64 y0]) (by simp [results, Try.results102, go_sem]) rfl ⟨rfl, ?_⟩
        (repeat (any_goals (first | exact Below.refl _ _ | assumption | refine Below.drew ?_ | refine below_drewN ?_ _ | refine Below.setCell ?_ ?_ _ | refine Below.alloc ?_ ?_ _ | omega | (simp; done) | (simp; omega))))
end Go.Proofs.Ytkhcjkmifddlbab
