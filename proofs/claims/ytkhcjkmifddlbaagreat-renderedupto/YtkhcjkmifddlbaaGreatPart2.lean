/- Joined: CrvB, Mem, Lists, Held, Spots, CutV, Ct, CtB. -/
import Derived.Test.YtkhcjkmifddlbaaGreatPart1
import Derived.WalkKit
import Derived.WalkSpells
import Derived.WalkLawsBesides
import Derived.Deep.OwnRows
import Derived.Deep.AppendLies
/- CrvB -/
namespace Go.Proofs.YtkhcjkmifddlbaaGreat
open Go.RowKit

set_option maxHeartbeats 1000000 in
theorem chords_any (k x0 y0 x1 y1 x2 y2 x3 y3 : Int) (w : World) (hr : Num.rangeB (⟨k, x0, y0, x1, y1, x2, y2, x3, y3⟩ : Num.Sg) = true) :
    Calls Tryz.prog 101 #[.agg #[.int .i64 k, .int .i64 x0, .int .i64 y0, .int .i64 x1, .int .i64 y1, .int .i64 x2, .int .i64 y2, .int .i64 x3, .int .i64 y3]] w fun e w' => e = .returned (.int .i64 (Num.stepsV (Num.needV (⟨k, x0, y0, x1, y1, x2, y2, x3, y3⟩ : Num.Sg)))) ∧ Below w.heap.size w w' := by
  obtain ⟨r0, r3, r1, r2⟩ := Num.range_yes hr
  have hneed := Num.needV_bd hr
  have hS := Num.stepsV_is hneed.2
  have hSle := Num.stepsV_le hneed.2
  obtain ⟨S, hSe⟩ : ∃ S, S = Num.stepsV (Num.needV (⟨k, x0, y0, x1, y1, x2, y2, x3, y3⟩ : Num.Sg)) := ⟨_, rfl⟩
  rw [← hSe] at hS hSle ⊢
  obtain ⟨D, hD⟩ : ∃ D, D = Num.needV (⟨k, x0, y0, x1, y1, x2, y2, x3, y3⟩ : Num.Sg) := ⟨_, rfl⟩
  rw [← hD] at hS hneed
  have HS := hide hS
  clear hSe hS hr
  obtain ⟨a1, a2⟩ := Num.inB_yes r0
  obtain ⟨b1, b2⟩ := Num.inB_yes r3
  clear r0 r3
  by_cases h1 : k = 1
  · subst h1
    obtain ⟨c1, c2⟩ := Num.inB_yes (r1 (.inl rfl))
    have HD : Hid (D = Num.bendV x0 y0 x1 y1 x3 y3) := by unfold Hid; rw [hD]; simp [Num.needV]
    clear r1 r2 hD
    go_enter Tryz.func101, Tryz.ntmps101
    go_wp2_with fail
    refine (bend_any _ _ _ _ _ _ _ a1 a2 c1 c2 b1 b2).mono ?_
    rw [← HD.out]
    rintro e w1 ⟨rfl, hb⟩
    have hb0 : Below w.heap.size w w1 := Below.trans (by (repeat (any_goals (first | exact Below.refl _ _ | assumption | refine Below.drew ?_ | refine below_drewN ?_ _ | refine Below.setCell ?_ ?_ _ | refine Below.alloc ?_ ?_ _ | omega | (simp; done) | (simp; omega))))) (hb.mono (by simp))
    clear hb a1 a2 b1 b2 c1 c2
    go_wp2_with fail
    go_loop [6] (fun t => ∃ q : Int, 1 ≤ q ∧ q ≤ S ∧ t = .int .i64 q) (fun t => (S - intOf t).toNat)
    case atStart => exact ⟨1, by omega, HS.out.1, rfl⟩
    case round =>
      obtain ⟨q, q1, q2, rfl⟩ := hrel
      obtain ⟨s1, s2⟩ := steps_round HS.out q1 q2
      have b1 := Num.sq_mono (a := q) (b := 111) (by omega) (by omega)
      have b0 := Num.sq_mono (a := 0) (b := q) (by omega) (by omega)
      by_cases hlt : 16 * q * q < D
      · have s3 := s1 hlt
        clear s1 s2
        go_wp2
        go_round
        case rel => exact ⟨q + 1, by omega, by omega, rfl⟩
        case measure => simp [intOf]; omega
      · have HE := hide (s2 hlt)
        clear s1 s2
        go_wp2
        go_ret
        exact ⟨ret_int HE.out, hb0⟩
  · by_cases h2 : k = 2
    · subst h2
      obtain ⟨c1, c2⟩ := Num.inB_yes (r1 (.inr rfl))
      obtain ⟨d1, d2⟩ := Num.inB_yes (r2 rfl)
      have HD : Hid (D = 3 * Num.gr (Num.bendV x0 y0 x1 y1 x2 y2) (Num.bendV x1 y1 x2 y2 x3 y3)) := by unfold Hid; rw [hD]; simp [Num.needV]
      have p := Num.bendV_bd a1 a2 c1 c2 d1 d2
      have q := Num.bendV_bd c1 c2 d1 d2 b1 b2
      have gb := Num.gr_bd p.1 p.2 q.1 q.2
      clear r1 r2 hD p q
      go_enter Tryz.func101, Tryz.ntmps101
      go_wp2_with fail
      refine (bend_any _ _ _ _ _ _ _ a1 a2 c1 c2 d1 d2).mono ?_
      rintro e w1 ⟨rfl, hb⟩
      obtain ⟨hc, hfz⟩ := bcell hb
      have hz : w.heap.size < w1.heap.size := by have := hb.size; simp at this; omega
      have hb0 : Below w.heap.size w w1 := Below.trans (by (repeat (any_goals (first | exact Below.refl _ _ | assumption | refine Below.drew ?_ | refine below_drewN ?_ _ | refine Below.setCell ?_ ?_ _ | refine Below.alloc ?_ ?_ _ | omega | (simp; done) | (simp; omega))))) (hb.mono (by simp))
      have e3 : w1.cell? ⟨w.heap.size, 3, none⟩ = some (.int .i64 x1) := by rw [hc _ _ (by simp)]; go_simp
      have e4 : w1.cell? ⟨w.heap.size, 4, none⟩ = some (.int .i64 y1) := by rw [hc _ _ (by simp)]; go_simp
      have e5 : w1.cell? ⟨w.heap.size, 5, none⟩ = some (.int .i64 x2) := by rw [hc _ _ (by simp)]; go_simp
      have e6 : w1.cell? ⟨w.heap.size, 6, none⟩ = some (.int .i64 y2) := by rw [hc _ _ (by simp)]; go_simp
      have e7 : w1.cell? ⟨w.heap.size, 7, none⟩ = some (.int .i64 x3) := by rw [hc _ _ (by simp)]; go_simp
      have e8 : w1.cell? ⟨w.heap.size, 8, none⟩ = some (.int .i64 y3) := by rw [hc _ _ (by simp)]; go_simp
      clear hb hc hfz
      go_wp2_with fail
      refine (bend_any _ _ _ _ _ _ _ c1 c2 d1 d2 b1 b2).mono ?_
      rintro e w2 ⟨rfl, hb2⟩
      have hb3 : Below w.heap.size w w2 := hb0.trans (hb2.mono (by omega))
      clear hb2 hb0 a1 a2 b1 b2 c1 c2 d1 d2 e3 e4 e5 e6 e7 e8
      go_wp2_with (go_at_call 114; refine (greater_any _ _ _).mono ?_; rintro e w' ⟨rfl, rfl⟩)
      rw [← HD.out]
      go_wp2_with fail
      go_loop [6] (fun t => ∃ q : Int, 1 ≤ q ∧ q ≤ S ∧ t = .int .i64 q) (fun t => (S - intOf t).toNat)
      case atStart => exact ⟨1, by omega, HS.out.1, rfl⟩
      case round =>
        obtain ⟨q, q1, q2, rfl⟩ := hrel
        obtain ⟨s1, s2⟩ := steps_round HS.out q1 q2
        have b1 := Num.sq_mono (a := q) (b := 111) (by omega) (by omega)
        have b0 := Num.sq_mono (a := 0) (b := q) (by omega) (by omega)
        by_cases hlt : 16 * q * q < D
        · have s3 := s1 hlt
          clear s1 s2
          go_wp2
          go_round
          case rel => exact ⟨q + 1, by omega, by omega, rfl⟩
          case measure => simp [intOf]; omega
        · have HE := hide (s2 hlt)
          clear s1 s2
          go_wp2
          go_ret
          exact ⟨ret_int HE.out, hb3⟩
    · have t1 : (k == 1) = false := by simpa using h1
      have t2 : (k == 2) = false := by simpa using h2
      have hD0 : D = 0 := by rw [hD]; simp [Num.needV, h1, h2]
      clear r1 r2 hD
      subst hD0
      have hS1 : S = 1 := by
        rcases Int.lt_or_le 1 S with h | h
        · have := HS.out.2.2 1 (by omega) h; omega
        · have := HS.out.1; omega
      clear a1 a2 b1 b2 h1 h2
      go_enter Tryz.func101, Tryz.ntmps101
      go_wp2_with fail
      go_loop [6] (fun t => t = .int .i64 1) (fun _ => 0)
      case atStart => rfl
      case round =>
        subst hrel
        go_wp2
        go_ret
        exact ⟨ret_int (by omega), by (repeat (any_goals (first | exact Below.refl _ _ | assumption | refine Below.drew ?_ | refine below_drewN ?_ _ | refine Below.setCell ?_ ?_ _ | refine Below.alloc ?_ ?_ _ | omega | (simp; done) | (simp; omega))))⟩

set_option maxHeartbeats 1000000 in
theorem spotOf_any (k x0 y0 x1 y1 x2 y2 x3 y3 i n : Int) (w : World) (hr : Num.rangeB (⟨k, x0, y0, x1, y1, x2, y2, x3, y3⟩ : Num.Sg) = true) (hi : 0 ≤ i) (hin : i ≤ n) (h1 : 1 ≤ n) (hn : n ≤ 111) :
    Calls Tryz.prog 102 #[.agg #[.int .i64 k, .int .i64 x0, .int .i64 y0, .int .i64 x1, .int .i64 y1, .int .i64 x2, .int .i64 y2, .int .i64 x3, .int .i64 y3], .int .i64 i, .int .i64 n] w fun e w' => e = .returned (.agg #[.int .i64 (Num.spotX (⟨k, x0, y0, x1, y1, x2, y2, x3, y3⟩ : Num.Sg) n i), .int .i64 (Num.spotY (⟨k, x0, y0, x1, y1, x2, y2, x3, y3⟩ : Num.Sg) n i)]) ∧ Below w.heap.size w w' := by
  obtain ⟨r0, r3, r1, r2⟩ := Num.range_yes hr
  obtain ⟨a1, a2⟩ := Num.inB_yes r0
  obtain ⟨b1, b2⟩ := Num.inB_yes r3
  clear r0 r3 hr
  by_cases e1 : k = 1
  · subst e1
    obtain ⟨c1, c2⟩ := Num.inB_yes (r1 (.inl rfl))
    have HX : Hid (Num.spotX (⟨1, x0, y0, x1, y1, x2, y2, x3, y3⟩ : Num.Sg) n i = Num.hu (Num.qSum (n - i) i x0 x1 x3) (n * n)) := by unfold Hid Num.spotX; rw [if_pos rfl]
    have HY : Hid (Num.spotY (⟨1, x0, y0, x1, y1, x2, y2, x3, y3⟩ : Num.Sg) n i = Num.hu (Num.qSum (n - i) i y0 y1 y3) (n * n)) := by unfold Hid Num.spotY; rw [if_pos rfl]
    clear r1 r2
    rw [HX.out, HY.out]
    go_enter Tryz.func102, Tryz.ntmps102
    go_wp2_with (go_at_call 115; refine (quadAt_any _ _ _ _ _ _ (by assumption) (by assumption) (by assumption) hi hin h1 hn).mono ?_; rintro e w' ⟨rfl, rfl⟩)
    refine bodyPost_ret (v := .agg #[.int .i64 (Num.hu (Num.qSum (n - i) i x0 x1 x3) (n * n)), .int .i64 (Num.hu (Num.qSum (n - i) i y0 y1 y3) (n * n))]) (by simp [results, Tryz.results102, go_sem]) rfl ⟨rfl, ?_⟩
    clear a1 a2 b1 b2 c1 c2
    (repeat (any_goals (first | exact Below.refl _ _ | assumption | refine Below.drew ?_ | refine below_drewN ?_ _ | refine Below.setCell ?_ ?_ _ | refine Below.alloc ?_ ?_ _ | omega | (simp; done) | (simp; omega))))
  · by_cases e2 : k = 2
    · subst e2
      obtain ⟨c1, c2⟩ := Num.inB_yes (r1 (.inr rfl))
      obtain ⟨d1, d2⟩ := Num.inB_yes (r2 rfl)
      have HX : Hid (Num.spotX (⟨2, x0, y0, x1, y1, x2, y2, x3, y3⟩ : Num.Sg) n i = Num.hu (Num.cSum (n - i) i x0 x1 x2 x3) (n * n * n)) := by unfold Hid Num.spotX; rw [if_neg (by show ¬ (2 : Int) = 1; decide), if_pos rfl]
      have HY : Hid (Num.spotY (⟨2, x0, y0, x1, y1, x2, y2, x3, y3⟩ : Num.Sg) n i = Num.hu (Num.cSum (n - i) i y0 y1 y2 y3) (n * n * n)) := by unfold Hid Num.spotY; rw [if_neg (by show ¬ (2 : Int) = 1; decide), if_pos rfl]
      clear r1 r2
      rw [HX.out, HY.out]
      go_enter Tryz.func102, Tryz.ntmps102
      go_wp2_with (go_at_call 116; refine (cubicAt_any _ _ _ _ _ _ _ (by assumption) (by assumption) (by assumption) (by assumption) hi hin h1 hn).mono ?_; rintro e w' ⟨rfl, rfl⟩)
      refine bodyPost_ret (v := .agg #[.int .i64 (Num.hu (Num.cSum (n - i) i x0 x1 x2 x3) (n * n * n)), .int .i64 (Num.hu (Num.cSum (n - i) i y0 y1 y2 y3) (n * n * n))]) (by simp [results, Tryz.results102, go_sem]) rfl ⟨rfl, ?_⟩
      clear a1 a2 b1 b2 c1 c2 d1 d2
      (repeat (any_goals (first | exact Below.refl _ _ | assumption | refine Below.drew ?_ | refine below_drewN ?_ _ | refine Below.setCell ?_ ?_ _ | refine Below.alloc ?_ ?_ _ | omega | (simp; done) | (simp; omega))))
    · have t1 : (k == 1) = false := by simpa using e1
      have t2 : (k == 2) = false := by simpa using e2
      clear r1 r2 a1 a2 b1 b2
      by_cases ein : i = n
      · have HX : Hid (Num.spotX (⟨k, x0, y0, x1, y1, x2, y2, x3, y3⟩ : Num.Sg) n i = x3) := by unfold Hid Num.spotX; rw [if_neg e1, if_neg e2, if_pos ein]
        have HY : Hid (Num.spotY (⟨k, x0, y0, x1, y1, x2, y2, x3, y3⟩ : Num.Sg) n i = y3) := by unfold Hid Num.spotY; rw [if_neg e1, if_neg e2, if_pos ein]
        have t3 : (i == n) = true := by simpa using ein
        rw [HX.out, HY.out]
        clear e1 e2 ein
        go_enter Tryz.func102, Tryz.ntmps102
        go_wp2
        refine bodyPost_ret (v := .agg #[.int .i64 x3, .int .i64 y3]) (by simp [results, Tryz.results102, go_sem]) rfl ⟨rfl, ?_⟩
        (repeat (any_goals (first | exact Below.refl _ _ | assumption | refine Below.drew ?_ | refine below_drewN ?_ _ | refine Below.setCell ?_ ?_ _ | refine Below.alloc ?_ ?_ _ | omega | (simp; done) | (simp; omega))))
      · have HX : Hid (Num.spotX (⟨k, x0, y0, x1, y1, x2, y2, x3, y3⟩ : Num.Sg) n i = x0) := by unfold Hid Num.spotX; rw [if_neg e1, if_neg e2, if_neg ein]
        have HY : Hid (Num.spotY (⟨k, x0, y0, x1, y1, x2, y2, x3, y3⟩ : Num.Sg) n i = y0) := by unfold Hid Num.spotY; rw [if_neg e1, if_neg e2, if_neg ein]
        have t3 : (i == n) = false := by simpa using ein
        rw [HX.out, HY.out]
        clear e1 e2 ein
        go_enter Tryz.func102, Tryz.ntmps102
        go_wp2
        refine bodyPost_ret (v := .agg #[.int .i64 x0, .int .i64 y0]) (by simp [results, Tryz.results102, go_sem]) rfl ⟨rfl, ?_⟩
        (repeat (any_goals (first | exact Below.refl _ _ | assumption | refine Below.drew ?_ | refine below_drewN ?_ _ | refine Below.setCell ?_ ?_ _ | refine Below.alloc ?_ ?_ _ | omega | (simp; done) | (simp; omega))))
end Go.Proofs.YtkhcjkmifddlbaaGreat

/- Mem -/
namespace Go.Proofs.YtkhcjkmifddlbaaGreat
open Go.RowKit

/-- The n points of a ring: X k, Y k, of kind K k. -/
def RingAt (w : World) (a : Option Addr) (n : Nat) (X Y K : Nat → Int) : Prop :=
  n = 0 ∨ ∃ b off, a = some ⟨b, off, none⟩ ∧ ∀ k, k < n → w.cell? ⟨b, off + k * 3, none⟩ = some (.int .i64 (X k)) ∧ w.cell? ⟨b, off + k * 3 + 1, none⟩ = some (.int .i64 (Y k)) ∧ w.cell? ⟨b, off + k * 3 + 2, none⟩ = some (.int .i64 (K k))

theorem RingAt.below {w w' : World} {a : Option Addr} {n : Nat} {X Y K : Nat → Int} (h : RingAt w a n X Y K) (hb : Below w.heap.size w w') : RingAt w' a n X Y K := by
  rcases h with h | ⟨b, off, ha, hc⟩
  · exact Or.inl h
  · refine Or.inr ⟨b, off, ha, fun k hk => ?_⟩
    obtain ⟨c0, c1, c2⟩ := hc k hk
    have hlt : b < w.heap.size := World.block_lt_of_cell? w _ c0
    exact ⟨(hb.cell (p := ⟨b, _, none⟩) hlt).trans c0, (hb.cell (p := ⟨b, _, none⟩) hlt).trans c1, (hb.cell (p := ⟨b, _, none⟩) hlt).trans c2⟩

/-- The N contours of an outline: contour i has n i points. -/
def OutAt (w : World) (a : Option Addr) (N : Nat) (A : Nat → Option Addr) (C : Nat → Nat) (n : Nat → Nat) (X Y K : Nat → Nat → Int) : Prop :=
  (N = 0 ∨ ∃ b off, a = some ⟨b, off, none⟩ ∧ ∀ i, i < N → w.cell? ⟨b, off + i, none⟩ = some (.slice (A i) (n i) (C i))) ∧ ∀ i, i < N → RingAt w (A i) (n i) (X i) (Y i) (K i)

theorem OutAt.below {w w' : World} {a : Option Addr} {N : Nat} {A : Nat → Option Addr} {C n : Nat → Nat} {X Y K : Nat → Nat → Int} (h : OutAt w a N A C n X Y K) (hb : Below w.heap.size w w') : OutAt w' a N A C n X Y K := by
  refine ⟨?_, fun i hi => (h.2 i hi).below hb⟩
  rcases h.1 with h | ⟨b, off, ha, hc⟩
  · exact Or.inl h
  · refine Or.inr ⟨b, off, ha, fun i hi => ?_⟩
    have hlt : b < w.heap.size := World.block_lt_of_cell? w _ (hc i hi)
    exact (hb.cell (p := ⟨b, _, none⟩) hlt).trans (hc i hi)
end Go.Proofs.YtkhcjkmifddlbaaGreat

/- Lists -/
namespace Go.Proofs.YtkhcjkmifddlbaaGreat
open Go.RowKit Go.Deep

/-- The cells of a row of points. -/
def pc (X Y K : Nat → Int) (q : Nat) : Value := .int .i64 (if q % 3 = 0 then X (q / 3) else if q % 3 = 1 then Y (q / 3) else K (q / 3))
theorem pc0 (X Y K : Nat → Int) (k : Nat) : pc X Y K (k * 3) = .int .i64 (X k) := by
  unfold pc; rw [if_pos (by omega), show k * 3 / 3 = k by omega]
theorem pc1 (X Y K : Nat → Int) (k : Nat) : pc X Y K (k * 3 + 1) = .int .i64 (Y k) := by
  unfold pc; rw [if_neg (by omega), if_pos (by omega), show (k * 3 + 1) / 3 = k by omega]
theorem pc2 (X Y K : Nat → Int) (k : Nat) : pc X Y K (k * 3 + 2) = .int .i64 (K k) := by
  unfold pc; rw [if_neg (by omega), if_neg (by omega), show (k * 3 + 2) / 3 = k by omega]
theorem pc_congr {X Y K X' Y' K' : Nat → Int} {m : Nat} (h : ∀ k, k < m → X k = X' k ∧ Y k = Y' k ∧ K k = K' k) (q : Nat) (hq : q < m * 3) : pc X Y K q = pc X' Y' K' q := by
  obtain ⟨a, b, c⟩ := h (q / 3) (by omega)
  unfold pc
  rw [a, b, c]

/-- Three stores: point k of a row of points. -/
theorem row_setPt {w : World} {b : Nat} {t : TypeId} {m : Nat} {X Y K : Nat → Int} (h : w.rowIs b t (m * 3) (pc X Y K)) (k : Nat) (x y z : Int) :
    (((w.setCell ⟨b, k * 3, none⟩ (.int .i64 x)).setCell ⟨b, k * 3 + 1, none⟩ (.int .i64 y)).setCell ⟨b, k * 3 + 2, none⟩ (.int .i64 z)).rowIs b t (m * 3) (pc (fun j => if j = k then x else X j) (fun j => if j = k then y else Y j) (fun j => if j = k then z else K j)) := by
  refine (((h.set (k * 3) _).set (k * 3 + 1) _).set (k * 3 + 2) _).congr fun q hq => ?_
  by_cases e2 : q = k * 3 + 2
  · subst e2; rw [if_pos rfl, pc2, if_pos rfl]
  rw [if_neg e2]
  by_cases e1 : q = k * 3 + 1
  · subst e1; rw [if_pos rfl, pc1, if_pos rfl]
  rw [if_neg e1]
  by_cases e0 : q = k * 3
  · subst e0; rw [if_pos rfl, pc0, if_pos rfl]
  rw [if_neg e0]
  have e3 : ¬ q / 3 = k := by omega
  simp only [pc, if_neg e3]

theorem row_below {w w' : World} {B b : Nat} {t : TypeId} {n : Nat} {f : Nat → Value} (h : w.rowIs b t n f) (hb : Below B w w') (hlt : b < B) : w'.rowIs b t n f :=
  h.of_block (hb.block b hlt)

theorem row_cells {w : World} {b : Nat} {t : TypeId} {m : Nat} {X Y K : Nat → Int} (h : w.rowIs b t (m * 3) (pc X Y K)) (k : Nat) (hk : k < m) :
    w.cell? ⟨b, k * 3, none⟩ = some (.int .i64 (X k)) ∧ w.cell? ⟨b, k * 3 + 1, none⟩ = some (.int .i64 (Y k)) ∧ w.cell? ⟨b, k * 3 + 2, none⟩ = some (.int .i64 (K k)) := by
  refine ⟨?_, ?_, ?_⟩
  · rw [h.cell (by omega), pc0]
  · rw [h.cell (by omega), pc1]
  · rw [h.cell (by omega), pc2]

/-- Two rows of different element types lie in different blocks. -/
theorem row_ne {w : World} {b b' : Nat} {t t' : TypeId} {n n' : Nat} {f f' : Nat → Value} (h : w.rowIs b t n f) (h' : w.rowIs b' t' n' f') (ht : t ≠ t') : b ≠ b' := by
  intro e
  subst e
  obtain ⟨c, hb, _⟩ := h
  obtain ⟨c', hb', _⟩ := h'
  rw [hb] at hb'
  simp at hb'
  exact ht hb'.2

/-- What make lays for points. -/
theorem row_made3 (w : World) (m : Nat) (t : TypeId) : (w.alloc (.cells (madeCells #[.int .i64 0, .int .i64 0, .int .i64 0] (m * 3)) t)).rowIs w.heap.size t (m * 3) (pc (fun _ => 0) (fun _ => 0) (fun _ => 0)) := by
  refine ⟨_, blk_alloc_new _ _, size_madeCells _ _, fun i hi => ?_⟩
  have e : pc (fun _ => 0) (fun _ => 0) (fun _ => 0) i = .int .i64 0 := by unfold pc; split <;> (try split) <;> rfl
  rw [e]
  rcases (show i % 3 = 0 ∨ i % 3 = 1 ∨ i % 3 = 2 by omega) with h | h | h <;> simp [madeCells, hi, h]

/-- The length of list i, among N lists and two more that are empty. -/
def ln (N : Nat) (n : Nat → Nat) (i : Nat) : Nat := if i < N then n i else 0
/-- What lies in the lists: the points, and ink behind them. -/
def lx (l : Nat) (X : Nat → Int) (k : Nat) : Int := if k < l then X k else 1099511627776
def ly (l : Nat) (X : Nat → Int) (k : Nat) : Int := if k < l then X k else -7
def lk (l : Nat) (X : Nat → Int) (k : Nat) : Int := if k < l then X k else 9

/-- An outline that was lent: its outer list at block ob, list i at block B i. -/
structure Lent (w : World) (base ob N : Nat) (B n : Nat → Nat) (X Y K : Nat → Nat → Int) : Prop where
  outer : w.rowIs ob 66 (N + 2) (fun i => .slice (some ⟨B i, 0, none⟩) (ln N n i) (ln N n i + 2))
  ge : base ≤ ob
  geB : ∀ i, i < N + 2 → base ≤ B i
  inj : ∀ i j, i < N + 2 → j < N + 2 → B i = B j → i = j
  inner : ∀ i, i < N + 2 → w.rowIs (B i) 68 ((ln N n i + 2) * 3) (pc (lx (ln N n i) (X i)) (ly (ln N n i) (Y i)) (lk (ln N n i) (K i)))

theorem Lent.below {w w' : World} {base ob N : Nat} {B n : Nat → Nat} {X Y K : Nat → Nat → Int} (h : Lent w base ob N B n X Y K) (hb : Below w.heap.size w w') : Lent w' base ob N B n X Y K :=
  ⟨row_below h.outer hb h.outer.lt, h.ge, h.geB, h.inj, fun i hi => row_below (h.inner i hi) hb (h.inner i hi).lt⟩

/-- What was lent reads as the outline. -/
theorem Lent.out {w : World} {base ob N : Nat} {B n : Nat → Nat} {X Y K : Nat → Nat → Int} (h : Lent w base ob N B n X Y K) :
    OutAt w (some ⟨ob, 0, none⟩) N (fun i => some ⟨B i, 0, none⟩) (fun i => n i + 2) n X Y K := by
  refine ⟨Or.inr ⟨ob, 0, rfl, fun i hi => ?_⟩, fun i hi => Or.inr ⟨B i, 0, rfl, fun k hk => ?_⟩⟩
  · have := h.outer.cell (i := i) (by omega)
    simp only [ln, if_pos hi] at this
    simpa using this
  · have := row_cells (h.inner i (by omega)) k (by simp [ln, hi]; omega)
    simp only [ln, if_pos hi, lx, ly, lk, if_pos hk] at this
    simpa using this
end Go.Proofs.YtkhcjkmifddlbaaGreat

/- Held -/
namespace Go.Proofs.YtkhcjkmifddlbaaGreat
open Go.RowKit Go.Deep

/-- The cells of a list of points, all marks. -/
def mkP (k : Int) (q : Nat) : Value := pc (fun _ => 2199023255552 + k) (fun _ => -7) (fun _ => 9) q
/-- The cells of a list of segments, all marks. -/
def mkS (k : Int) (q : Nat) : Value := .int .i64 (if q % 9 = 0 then 9 else if q % 9 % 2 = 1 then 2199023255552 + k else -7)

/-- The cells of a list of spots, all marks. -/
def mkT (k : Int) (q : Nat) : Value := .int .i64 (if q % 2 = 0 then 2199023255552 + k else -7)

/-- The number that stands at place q of bytes that are all marks. -/
def mkB (k : Int) (q : Nat) : Value := .int .u8 (IntKind.u8.wrap (k + (q : Int) * (1 + k / 256)))

/-- What is held. -/
structure HS where
  n : Int
  cs : Value
  rs : Value
  vP : Value
  vO : Value
  vS : Value
  vT : Value
  vR : Value
  vB : Value
  P : List (Nat × Nat × Int)
  O : List (Nat × Nat × (Nat → Nat) × Int)
  S : List (Option Nat × Nat × Int)
  T : List (Option Nat × Nat × Int)
  R : List (Option Nat × Nat × (Nat → Nat) × Int)
  B : List (Option Nat × Nat × Int)

/-- The cells of the caller's world. -/
def wc (s : HS) (q : Nat) : Value :=
  if q = 0 then s.cs else if q = 1 then s.rs else if q = 2 then .int .i64 s.n else if q = 3 then s.vP else if q = 4 then s.vO else if q = 5 then s.vS else if q = 6 then s.vT else if q = 7 then s.vR else s.vB

def peC (e : Nat × Nat × Int) : List Value := [.slice (some ⟨e.1, 0, none⟩) e.2.1 e.2.1, .int .i64 e.2.2]
def oeC (e : Nat × Nat × (Nat → Nat) × Int) : List Value := [.slice (some ⟨e.1, 0, none⟩) e.2.1 e.2.1, .int .i64 e.2.2.2]
def seC (e : Option Nat × Nat × Int) : List Value := [.slice (e.1.map fun b => ⟨b, 0, none⟩) e.2.1 e.2.1, .int .i64 e.2.2]

def reC (e : Option Nat × Nat × (Nat → Nat) × Int) : List Value := [.slice (e.1.map fun b => ⟨b, 0, none⟩) e.2.1 e.2.1, .int .i64 e.2.2.2]

/-- All that is held reads as its mark. -/
structure HeldInv (w : World) (h : Nat) (s : HS) : Prop where
  wd : w.rowIs h 37 9 (wc s)
  oP : w.ownsRow h 80 2 s.vP s.P.length (s.P.flatMap peC)
  oO : w.ownsRow h 82 2 s.vO s.O.length (s.O.flatMap oeC)
  oS : w.ownsRow h 57 2 s.vS s.S.length (s.S.flatMap seC)
  eP : ∀ e ∈ s.P, w.rowIs e.1 68 (e.2.1 * 3) (mkP e.2.2)
  eO : ∀ e ∈ s.O, w.rowIs e.1 66 e.2.1 (fun i => .slice (some ⟨e.2.2.1 i, 0, none⟩) 1 1)
  eI : ∀ e ∈ s.O, ∀ i, i < e.2.1 → w.rowIs (e.2.2.1 i) 68 3 (mkP e.2.2.2)
  eS : ∀ e ∈ s.S, ∀ b, e.1 = some b → w.rowIs b 61 (e.2.1 * 9) (mkS e.2.2)
  eN : ∀ e ∈ s.S, e.1 = none → e.2.1 = 0
  lo : (s.P.length : Int) + (s.O.length : Int) + (s.S.length : Int) + (s.T.length : Int) + (s.R.length : Int) + (s.B.length : Int) ≤ s.n
  hi : s.n ≤ 1099511627776
  mP : ∀ e ∈ s.P, 0 ≤ e.2.2 ∧ e.2.2 ≤ 1099511627776 ∧ e.2.1 ≤ 1099511627776
  mO : ∀ e ∈ s.O, 0 ≤ e.2.2.2 ∧ e.2.2.2 ≤ 1099511627776 ∧ e.2.1 ≤ 1099511627776
  mS : ∀ e ∈ s.S, 0 ≤ e.2.2 ∧ e.2.2 ≤ 1099511627776 ∧ (e.2.1 : Int) ≤ 9223372036854775807
  oT : w.ownsRow h 86 2 s.vT s.T.length (s.T.flatMap seC)
  oR : w.ownsRow h 89 2 s.vR s.R.length (s.R.flatMap reC)
  eT : ∀ e ∈ s.T, ∀ b, e.1 = some b → w.rowIs b 59 (e.2.1 * 2) (mkT e.2.2)
  eU : ∀ e ∈ s.T, e.1 = none → e.2.1 = 0
  eR : ∀ e ∈ s.R, ∀ b, e.1 = some b → w.rowIs b 84 e.2.1 (fun i => .slice (some ⟨e.2.2.1 i, 0, none⟩) 1 1)
  eJ : ∀ e ∈ s.R, ∀ i, i < e.2.1 → w.rowIs (e.2.2.1 i) 59 2 (mkT e.2.2.2)
  eM : ∀ e ∈ s.R, e.1 = none → e.2.1 = 0
  mT : ∀ e ∈ s.T, 0 ≤ e.2.2 ∧ e.2.2 ≤ 1099511627776 ∧ (e.2.1 : Int) ≤ 9223372036854775807
  mR : ∀ e ∈ s.R, 0 ≤ e.2.2.2 ∧ e.2.2.2 ≤ 1099511627776 ∧ (e.2.1 : Int) ≤ 9223372036854775807
  oB : w.ownsRow h 64 2 s.vB s.B.length (s.B.flatMap seC)
  eB : ∀ e ∈ s.B, ∀ b, e.1 = some b → w.rowIs b 5 e.2.1 (mkB e.2.2)
  eV : ∀ e ∈ s.B, e.1 = none → e.2.1 = 0
  mB : ∀ e ∈ s.B, 0 ≤ e.2.2 ∧ e.2.2 ≤ 1099511627776 ∧ (e.2.1 : Int) ≤ 9223372036854775807

/-- The blocks in which it lies. -/
def Used (h : Nat) (s : HS) (b : Nat) : Prop :=
  b = h ∨ s.vP.ownBlock = some b ∨ s.vO.ownBlock = some b ∨ s.vS.ownBlock = some b ∨ (∃ e ∈ s.P, e.1 = b) ∨ (∃ e ∈ s.O, e.1 = b) ∨ (∃ e ∈ s.O, ∃ i, i < e.2.1 ∧ e.2.2.1 i = b) ∨ (∃ e ∈ s.S, e.1 = some b) ∨
  s.vT.ownBlock = some b ∨ s.vR.ownBlock = some b ∨ (∃ e ∈ s.T, e.1 = some b) ∨ (∃ e ∈ s.R, e.1 = some b) ∨ (∃ e ∈ s.R, ∃ i, i < e.2.1 ∧ e.2.2.1 i = b) ∨ s.vB.ownBlock = some b ∨ (∃ e ∈ s.B, e.1 = some b)

theorem owns_of_block {w w' : World} {base : Nat} {t : TypeId} {sz : Nat} {v : Value} {n : Nat} {xs : List Value} (h : w.ownsRow base t sz v n xs) (e : ∀ b, v.ownBlock = some b → w'.heap[b]? = w.heap[b]?) : w'.ownsRow base t sz v n xs := by
  refine ⟨h.1, ?_⟩
  rcases h.2 with hn | ⟨g, cap, cur, rfl, hb, hg, rest⟩
  · exact .inl hn
  · exact .inr ⟨g, cap, cur, rfl, hb, (e g rfl).trans hg, rest⟩

theorem HeldInv.of_blocks {w w' : World} {h : Nat} {s : HS} (H : HeldInv w h s) (e : ∀ b, Used h s b → w'.heap[b]? = w.heap[b]?) : HeldInv w' h s where
  wd := H.wd.of_block (e h (.inl rfl))
  oP := owns_of_block H.oP fun b hb => e b (by unfold Used; simp [hb])
  oO := owns_of_block H.oO fun b hb => e b (by unfold Used; simp [hb])
  oS := owns_of_block H.oS fun b hb => e b (by unfold Used; simp [hb])
  eP x hx := (H.eP x hx).of_block (e _ (.inr (.inr (.inr (.inr (.inl ⟨x, hx, rfl⟩))))))
  eO x hx := (H.eO x hx).of_block (e _ (.inr (.inr (.inr (.inr (.inr (.inl ⟨x, hx, rfl⟩)))))))
  eI x hx i hi := (H.eI x hx i hi).of_block (e _ (.inr (.inr (.inr (.inr (.inr (.inr (.inl ⟨x, hx, i, hi, rfl⟩))))))))
  eS x hx b hb := (H.eS x hx b hb).of_block (e _ (.inr (.inr (.inr (.inr (.inr (.inr (.inr (.inl ⟨x, hx, hb⟩)))))))))
  eN := H.eN
  lo := H.lo
  hi := H.hi
  mP := H.mP
  mO := H.mO
  mS := H.mS
  oT := owns_of_block H.oT fun b hb => e b (by unfold Used; simp [hb])
  oR := owns_of_block H.oR fun b hb => e b (by unfold Used; simp [hb])
  eT x hx b hb := (H.eT x hx b hb).of_block (e _ (.inr (.inr (.inr (.inr (.inr (.inr (.inr (.inr (.inr (.inr (.inl ⟨x, hx, hb⟩))))))))))))
  eU := H.eU
  eR x hx b hb := (H.eR x hx b hb).of_block (e _ (.inr (.inr (.inr (.inr (.inr (.inr (.inr (.inr (.inr (.inr (.inr (.inl ⟨x, hx, hb⟩)))))))))))))
  eJ x hx i hi := (H.eJ x hx i hi).of_block (e _ (.inr (.inr (.inr (.inr (.inr (.inr (.inr (.inr (.inr (.inr (.inr (.inr (.inl ⟨x, hx, i, hi, rfl⟩))))))))))))))
  eM := H.eM
  mT := H.mT
  mR := H.mR
  oB := owns_of_block H.oB fun b hb => e b (by unfold Used; simp [hb])
  eB x hx b hb := (H.eB x hx b hb).of_block (e _ (.inr (.inr (.inr (.inr (.inr (.inr (.inr (.inr (.inr (.inr (.inr (.inr (.inr (.inr ⟨x, hx, hb⟩)))))))))))))))
  eV := H.eV
  mB := H.mB

theorem HeldInv.used_lt {w : World} {h : Nat} {s : HS} (H : HeldInv w h s) {b : Nat} (u : Used h s b) : b < w.heap.size := by
  rcases u with rfl | u | u | u | ⟨x, hx, rfl⟩ | ⟨x, hx, rfl⟩ | ⟨x, hx, i, hi, rfl⟩ | ⟨x, hx, hb⟩ | u | u | ⟨x, hx, hb⟩ | ⟨x, hx, hb⟩ | ⟨x, hx, i, hi, rfl⟩ | u | ⟨x, hx, hb⟩
  · exact H.wd.lt
  · exact (H.oP.lt b u).2
  · exact (H.oO.lt b u).2
  · exact (H.oS.lt b u).2
  · exact (H.eP x hx).lt
  · exact (H.eO x hx).lt
  · exact (H.eI x hx i hi).lt
  · exact (H.eS x hx b hb).lt
  · exact (H.oT.lt b u).2
  · exact (H.oR.lt b u).2
  · exact (H.eT x hx b hb).lt
  · exact (H.eR x hx b hb).lt
  · exact (H.eJ x hx i hi).lt
  · exact (H.oB.lt b u).2
  · exact (H.eB x hx b hb).lt

theorem HeldInv.below {w w' : World} {h : Nat} {s : HS} (H : HeldInv w h s) (hb : Below w.heap.size w w') : HeldInv w' h s :=
  H.of_blocks fun b u => hb.block b (H.used_lt u)

/-- The element type of a block. -/
def tyOf (w : World) (b : Nat) : Option TypeId := match w.heap[b]? with
  | some (.cells _ t _) => some t
  | _ => none
theorem row_ty {w : World} {b : Nat} {t : TypeId} {n : Nat} {f : Nat → Value} (h : w.rowIs b t n f) : tyOf w b = some t := by
  obtain ⟨c, hb, _⟩ := h
  simp [tyOf, hb]
theorem owns_ty {w : World} {base : Nat} {t : TypeId} {sz : Nat} {v : Value} {n : Nat} {xs : List Value} (h : w.ownsRow base t sz v n xs) {b : Nat} (hb : v.ownBlock = some b) : tyOf w b = some t := by
  rcases h.2 with ⟨rfl, _⟩ | ⟨g, cap, cur, rfl, _, hg, _⟩
  · simp [Value.ownBlock] at hb
  · simp [Value.ownBlock] at hb
    subst hb
    simp [tyOf, hg]

/-- What is used is of these types, and where it is of a list's type it is one of the lists. -/
theorem HeldInv.used_pt {w : World} {h : Nat} {s : HS} (H : HeldInv w h s) {b : Nat} (u : Used h s b) (ht : tyOf w b = some 68) : (∃ e ∈ s.P, e.1 = b) ∨ ∃ e ∈ s.O, ∃ i, i < e.2.1 ∧ e.2.2.1 i = b := by
  rcases u with rfl | u | u | u | u | ⟨x, hx, rfl⟩ | u | ⟨x, hx, hb⟩ | u | u | ⟨x, hx, hb⟩ | ⟨x, hx, hb⟩ | ⟨x, hx, i, hi, rfl⟩ | u | ⟨x, hx, hb⟩
  · rw [row_ty H.wd] at ht; simp at ht
  · rw [owns_ty H.oP u] at ht; simp at ht
  · rw [owns_ty H.oO u] at ht; simp at ht
  · rw [owns_ty H.oS u] at ht; simp at ht
  · exact .inl u
  · rw [row_ty (H.eO x hx)] at ht; simp at ht
  · exact .inr u
  · rw [row_ty (H.eS x hx b hb)] at ht; simp at ht
  · rw [owns_ty H.oT u] at ht; simp at ht
  · rw [owns_ty H.oR u] at ht; simp at ht
  · rw [row_ty (H.eT x hx b hb)] at ht; simp at ht
  · rw [row_ty (H.eR x hx b hb)] at ht; simp at ht
  · rw [row_ty (H.eJ x hx i hi)] at ht; simp at ht
  · rw [owns_ty H.oB u] at ht; simp at ht
  · rw [row_ty (H.eB x hx b hb)] at ht; simp at ht
theorem HeldInv.used_pts {w : World} {h : Nat} {s : HS} (H : HeldInv w h s) {b : Nat} (u : Used h s b) (ht : tyOf w b = some 66) : ∃ e ∈ s.O, e.1 = b := by
  rcases u with rfl | u | u | u | ⟨x, hx, rfl⟩ | u | ⟨x, hx, i, hi, rfl⟩ | ⟨x, hx, hb⟩ | u | u | ⟨x, hx, hb⟩ | ⟨x, hx, hb⟩ | ⟨x, hx, i, hi, rfl⟩ | u | ⟨x, hx, hb⟩
  · rw [row_ty H.wd] at ht; simp at ht
  · rw [owns_ty H.oP u] at ht; simp at ht
  · rw [owns_ty H.oO u] at ht; simp at ht
  · rw [owns_ty H.oS u] at ht; simp at ht
  · rw [row_ty (H.eP x hx)] at ht; simp at ht
  · exact u
  · rw [row_ty (H.eI x hx i hi)] at ht; simp at ht
  · rw [row_ty (H.eS x hx b hb)] at ht; simp at ht
  · rw [owns_ty H.oT u] at ht; simp at ht
  · rw [owns_ty H.oR u] at ht; simp at ht
  · rw [row_ty (H.eT x hx b hb)] at ht; simp at ht
  · rw [row_ty (H.eR x hx b hb)] at ht; simp at ht
  · rw [row_ty (H.eJ x hx i hi)] at ht; simp at ht
  · rw [owns_ty H.oB u] at ht; simp at ht
  · rw [row_ty (H.eB x hx b hb)] at ht; simp at ht
theorem HeldInv.used_seg {w : World} {h : Nat} {s : HS} (H : HeldInv w h s) {b : Nat} (u : Used h s b) (ht : tyOf w b = some 61) : ∃ e ∈ s.S, e.1 = some b := by
  rcases u with rfl | u | u | u | ⟨x, hx, rfl⟩ | ⟨x, hx, rfl⟩ | ⟨x, hx, i, hi, rfl⟩ | u | u | u | ⟨x, hx, hb⟩ | ⟨x, hx, hb⟩ | ⟨x, hx, i, hi, rfl⟩ | u | ⟨x, hx, hb⟩
  · rw [row_ty H.wd] at ht; simp at ht
  · rw [owns_ty H.oP u] at ht; simp at ht
  · rw [owns_ty H.oO u] at ht; simp at ht
  · rw [owns_ty H.oS u] at ht; simp at ht
  · rw [row_ty (H.eP x hx)] at ht; simp at ht
  · rw [row_ty (H.eO x hx)] at ht; simp at ht
  · rw [row_ty (H.eI x hx i hi)] at ht; simp at ht
  · exact u
  · rw [owns_ty H.oT u] at ht; simp at ht
  · rw [owns_ty H.oR u] at ht; simp at ht
  · rw [row_ty (H.eT x hx b hb)] at ht; simp at ht
  · rw [row_ty (H.eR x hx b hb)] at ht; simp at ht
  · rw [row_ty (H.eJ x hx i hi)] at ht; simp at ht
  · rw [owns_ty H.oB u] at ht; simp at ht
  · rw [row_ty (H.eB x hx b hb)] at ht; simp at ht
theorem HeldInv.used_spot {w : World} {h : Nat} {s : HS} (H : HeldInv w h s) {b : Nat} (u : Used h s b) (ht : tyOf w b = some 59) : (∃ e ∈ s.T, e.1 = some b) ∨ ∃ e ∈ s.R, ∃ i, i < e.2.1 ∧ e.2.2.1 i = b := by
  rcases u with rfl | u | u | u | ⟨x, hx, rfl⟩ | ⟨x, hx, rfl⟩ | ⟨x, hx, i, hi, rfl⟩ | ⟨x, hx, hb⟩ | u | u | u | ⟨x, hx, hb⟩ | u | u | ⟨x, hx, hb⟩
  · rw [row_ty H.wd] at ht; simp at ht
  · rw [owns_ty H.oP u] at ht; simp at ht
  · rw [owns_ty H.oO u] at ht; simp at ht
  · rw [owns_ty H.oS u] at ht; simp at ht
  · rw [row_ty (H.eP x hx)] at ht; simp at ht
  · rw [row_ty (H.eO x hx)] at ht; simp at ht
  · rw [row_ty (H.eI x hx i hi)] at ht; simp at ht
  · rw [row_ty (H.eS x hx b hb)] at ht; simp at ht
  · rw [owns_ty H.oT u] at ht; simp at ht
  · rw [owns_ty H.oR u] at ht; simp at ht
  · exact .inl u
  · rw [row_ty (H.eR x hx b hb)] at ht; simp at ht
  · exact .inr u
  · rw [owns_ty H.oB u] at ht; simp at ht
  · rw [row_ty (H.eB x hx b hb)] at ht; simp at ht
theorem HeldInv.used_ring {w : World} {h : Nat} {s : HS} (H : HeldInv w h s) {b : Nat} (u : Used h s b) (ht : tyOf w b = some 84) : ∃ e ∈ s.R, e.1 = some b := by
  rcases u with rfl | u | u | u | ⟨x, hx, rfl⟩ | ⟨x, hx, rfl⟩ | ⟨x, hx, i, hi, rfl⟩ | ⟨x, hx, hb⟩ | u | u | ⟨x, hx, hb⟩ | u | ⟨x, hx, i, hi, rfl⟩ | u | ⟨x, hx, hb⟩
  · rw [row_ty H.wd] at ht; simp at ht
  · rw [owns_ty H.oP u] at ht; simp at ht
  · rw [owns_ty H.oO u] at ht; simp at ht
  · rw [owns_ty H.oS u] at ht; simp at ht
  · rw [row_ty (H.eP x hx)] at ht; simp at ht
  · rw [row_ty (H.eO x hx)] at ht; simp at ht
  · rw [row_ty (H.eI x hx i hi)] at ht; simp at ht
  · rw [row_ty (H.eS x hx b hb)] at ht; simp at ht
  · rw [owns_ty H.oT u] at ht; simp at ht
  · rw [owns_ty H.oR u] at ht; simp at ht
  · rw [row_ty (H.eT x hx b hb)] at ht; simp at ht
  · exact u
  · rw [row_ty (H.eJ x hx i hi)] at ht; simp at ht
  · rw [owns_ty H.oB u] at ht; simp at ht
  · rw [row_ty (H.eB x hx b hb)] at ht; simp at ht

theorem HeldInv.used_byte {w : World} {h : Nat} {s : HS} (H : HeldInv w h s) {b : Nat} (u : Used h s b) (ht : tyOf w b = some 5) : ∃ e ∈ s.B, e.1 = some b := by
  rcases u with rfl | u | u | u | ⟨x, hx, rfl⟩ | ⟨x, hx, rfl⟩ | ⟨x, hx, i, hi, rfl⟩ | ⟨x, hx, hb⟩ | u | u | ⟨x, hx, hb⟩ | ⟨x, hx, hb⟩ | ⟨x, hx, i, hi, rfl⟩ | u | u
  · rw [row_ty H.wd] at ht; simp at ht
  · rw [owns_ty H.oP u] at ht; simp at ht
  · rw [owns_ty H.oO u] at ht; simp at ht
  · rw [owns_ty H.oS u] at ht; simp at ht
  · rw [row_ty (H.eP x hx)] at ht; simp at ht
  · rw [row_ty (H.eO x hx)] at ht; simp at ht
  · rw [row_ty (H.eI x hx i hi)] at ht; simp at ht
  · rw [row_ty (H.eS x hx b hb)] at ht; simp at ht
  · rw [owns_ty H.oT u] at ht; simp at ht
  · rw [owns_ty H.oR u] at ht; simp at ht
  · rw [row_ty (H.eT x hx b hb)] at ht; simp at ht
  · rw [row_ty (H.eR x hx b hb)] at ht; simp at ht
  · rw [row_ty (H.eJ x hx i hi)] at ht; simp at ht
  · rw [owns_ty H.oB u] at ht; simp at ht
  · exact u

/-- All lists that are held lie below block T. -/
def HS.Under (s : HS) (T : Nat) : Prop := (∀ e ∈ s.P, e.1 < T) ∧ (∀ e ∈ s.O, e.1 < T ∧ ∀ i, i < e.2.1 → e.2.2.1 i < T) ∧ ∀ e ∈ s.S, ∀ b, e.1 = some b → b < T

theorem HeldInv.under {w : World} {h : Nat} {s : HS} (H : HeldInv w h s) : s.Under w.heap.size :=
  ⟨fun e he => (H.eP e he).lt, fun e he => ⟨(H.eO e he).lt, fun i hi => (H.eI e he i hi).lt⟩, fun e he b hb => (H.eS e he b hb).lt⟩

/-- A new mark's number. -/
theorem HeldInv.marked {w : World} {h : Nat} {s : HS} (H : HeldInv w h s) (hn : s.n + 1 ≤ 1099511627776) : HeldInv (w.setCell ⟨h, 2, none⟩ (.int .i64 (s.n + 1))) h { s with n := s.n + 1 } := by
  have hne : ∀ b, b ≠ h → (w.setCell ⟨h, 2, none⟩ (.int .i64 (s.n + 1))).heap[b]? = w.heap[b]? := fun b hb => blk_setCell_other _ _ _ _ (by simpa using hb)
  have ty := row_ty H.wd
  have P1 : ∀ b, tyOf w b ≠ some 37 → (w.setCell ⟨h, 2, none⟩ (.int .i64 (s.n + 1))).heap[b]? = w.heap[b]? := fun b hb => hne b (fun e => by rw [e] at hb; exact hb ty)
  refine { wd := ?_, oP := (owns_of_block H.oP fun b hb => P1 b (by rw [owns_ty H.oP hb]; decide)), oO := (owns_of_block H.oO fun b hb => P1 b (by rw [owns_ty H.oO hb]; decide)), oS := (owns_of_block H.oS fun b hb => P1 b (by rw [owns_ty H.oS hb]; decide)), oT := (owns_of_block H.oT fun b hb => P1 b (by rw [owns_ty H.oT hb]; decide)), oR := (owns_of_block H.oR fun b hb => P1 b (by rw [owns_ty H.oR hb]; decide)), eP := (fun x hx => (H.eP x hx).of_block (P1 _ (by rw [row_ty (H.eP x hx)]; decide))), eO := (fun x hx => (H.eO x hx).of_block (P1 _ (by rw [row_ty (H.eO x hx)]; decide))), eI := (fun x hx i hi => (H.eI x hx i hi).of_block (P1 _ (by rw [row_ty (H.eI x hx i hi)]; decide))), eS := (fun x hx b hb => (H.eS x hx b hb).of_block (P1 _ (by rw [row_ty (H.eS x hx b hb)]; decide))), eN := H.eN, lo := ?_, hi := hn, mP := H.mP, mO := H.mO, mS := H.mS, eT := (fun x hx b hb => (H.eT x hx b hb).of_block (P1 _ (by rw [row_ty (H.eT x hx b hb)]; decide))), eU := H.eU, eR := (fun x hx b hb => (H.eR x hx b hb).of_block (P1 _ (by rw [row_ty (H.eR x hx b hb)]; decide))), eJ := (fun x hx i hi => (H.eJ x hx i hi).of_block (P1 _ (by rw [row_ty (H.eJ x hx i hi)]; decide))), eM := H.eM, mT := H.mT, mR := H.mR, oB := (owns_of_block H.oB fun b hb => P1 b (by rw [owns_ty H.oB hb]; decide)), eB := (fun x hx b hb => (H.eB x hx b hb).of_block (P1 _ (by rw [row_ty (H.eB x hx b hb)]; decide))), eV := H.eV, mB := H.mB }
  · refine (H.wd.set 2 _).congr fun q hq => ?_
    by_cases e : q = 2
    · subst e; simp [wc]
    · simp only [if_neg e, wc]
  · have := H.lo; show (s.P.length : Int) + s.O.length + s.S.length + s.T.length + s.R.length + s.B.length ≤ s.n + 1; omega

/-- Nothing but blocks of S has been written. -/
structure Touch (S : Nat → Prop) (w w' : World) : Prop where
  os : w'.os = w.os
  tape : w'.tape = w.tape
  output : w'.output = w.output
  size : w.heap.size ≤ w'.heap.size
  block : ∀ b, b < w.heap.size → ¬ S b → w'.heap[b]? = w.heap[b]?
theorem Touch.refl (S : Nat → Prop) (w : World) : Touch S w w := ⟨rfl, rfl, rfl, Nat.le_refl _, fun _ _ _ => rfl⟩
theorem Touch.trans {S : Nat → Prop} {a b c : World} (h : Touch S a b) (k : Touch S b c) : Touch S a c :=
  ⟨k.os.trans h.os, k.tape.trans h.tape, k.output.trans h.output, Nat.le_trans h.size k.size, fun x hx hS => (k.block x (Nat.lt_of_lt_of_le hx h.size) hS).trans (h.block x hx hS)⟩
/-- New blocks may be written freely. -/
theorem Touch.trans' {S S' : Nat → Prop} {a b c : World} (h : Touch S a b) (k : Touch S' b c) (hS : ∀ x, S' x → S x ∨ a.heap.size ≤ x) : Touch S a c :=
  ⟨k.os.trans h.os, k.tape.trans h.tape, k.output.trans h.output, Nat.le_trans h.size k.size, fun x hx hn => (k.block x (Nat.lt_of_lt_of_le hx h.size) (fun e => by rcases hS x e with e | e; exact hn e; omega)).trans (h.block x hx hn)⟩
theorem Touch.setCell {S : Nat → Prop} {w w' : World} (h : Touch S w w') {p : Addr} (hp : S p.block ∨ w.heap.size ≤ p.block) (u : Value) : Touch S w (w'.setCell p u) :=
  ⟨h.os, h.tape, h.output, by rw [nblk_setCell]; exact h.size, fun x hx hS => by
    rw [blk_setCell_other _ _ _ _ (fun e => by rcases hp with hp | hp; exact hS (by rw [e]; exact hp); omega)]; exact h.block x hx hS⟩
theorem Touch.alloc {S : Nat → Prop} {w w' : World} (h : Touch S w w') (o : Obj) : Touch S w (w'.alloc o) :=
  ⟨h.os, h.tape, h.output, by rw [nblk_alloc]; have := h.size; omega, fun x hx hS => by rw [blk_alloc_lt _ _ _ (by have := h.size; omega)]; exact h.block x hx hS⟩
theorem Touch.drew {S : Nat → Prop} {w w' : World} (h : Touch S w w') : Touch S w w'.drew := ⟨h.os, h.tape, h.output, h.size, h.block⟩
theorem Touch.drewN {S : Nat → Prop} {w w' : World} (h : Touch S w w') (n : Nat) : Touch S w (w'.drewN n) := ⟨h.os, h.tape, h.output, h.size, h.block⟩
theorem Touch.grown {S : Nat → Prop} {w w' w'' : World} {row : Option Nat} (h : Touch S w w') (hg : w'.grownBy w'' row) (hr : ∀ b, row = some b → S b ∨ w.heap.size ≤ b) : Touch S w w'' :=
  ⟨hg.os.trans h.os, hg.tape.trans h.tape, hg.output.trans h.output, Nat.le_trans h.size hg.size, fun x hx hS => by
    rw [hg.block x (Nat.lt_of_lt_of_le hx h.size) (fun e => by rcases hr x e.symm with e | e; exact hS e; omega)]; exact h.block x hx hS⟩
theorem Touch.below {S : Nat → Prop} {w w' : World} (h : Touch S w w') {B : Nat} (hB : B ≤ w.heap.size) (hS : ∀ b, S b → B ≤ b) : Below B w w' :=
  ⟨h.os, h.tape, h.output, h.size, fun x hx => h.block x (by omega) (fun e => by have := hS x e; omega)⟩
theorem Touch.of_below {S : Nat → Prop} {w w' w'' : World} (h : Touch S w w') (hb : Below w'.heap.size w' w'') : Touch S w w'' :=
  h.trans' (S' := fun _ => False) ⟨hb.os, hb.tape, hb.output, hb.size, fun x hx _ => hb.block x hx⟩ (fun _ e => e.elim)
theorem Touch.row {S : Nat → Prop} {w w' : World} (h : Touch S w w') {b : Nat} {t : TypeId} {n : Nat} {f : Nat → Value} (hr : w.rowIs b t n f) (hS : ¬ S b) : w'.rowIs b t n f :=
  hr.of_block (h.block b hr.lt hS)
end Go.Proofs.YtkhcjkmifddlbaaGreat

/- Spots -/
namespace Go.Proofs.YtkhcjkmifddlbaaGreat
open Go.RowKit Go.Deep

/-- The cells of a spot. -/
def spC (p : Int × Int) : List Value := [.int .i64 p.1, .int .i64 p.2]
theorem info_spot : (Tryz.prog.info? 59).map (fun i => (i.zero, i.size, i.bytes)) = some (some (.agg #[.int .i64 0, .int .i64 0]), 2, 16) := by kernel_rfl
theorem push_sp {w : World} {base : Nat} {v : Value} {l l' : List (Int × Int)} {p : Int × Int} {m : Nat} (h : w.ownsRow base 59 2 v m (l.flatMap spC ++ [.int .i64 p.1, .int .i64 p.2])) (hl : l' = l ++ [p]) (hm : m = l.length + 1) : w.ownsRow base 59 2 v l'.length (l'.flatMap spC) := by
  have e1 : l'.length = m := by rw [hl, hm]; simp
  have e2 : l'.flatMap spC = l.flatMap spC ++ [.int .i64 p.1, .int .i64 p.2] := by rw [hl]; simp [spC]
  rw [e1, e2]; exact h
theorem owns_mono {w : World} {base base' : Nat} {t : TypeId} {sz : Nat} {v : Value} {n : Nat} {xs : List Value} (h : w.ownsRow base t sz v n xs) (hb : base' ≤ base) : w.ownsRow base' t sz v n xs := by
  refine ⟨h.1, ?_⟩
  rcases h.2 with hn | ⟨g, cap, cur, rfl, hb', rest⟩
  · exact .inl hn
  · exact .inr ⟨g, cap, cur, rfl, Nat.le_trans hb hb', rest⟩
theorem news_sp (W : World) (cs : List Value) (t : TypeId) (H : Nat) (hH : W.heap.size = H) : ∀ (j : Nat) (u : Value), cs[j]? = some u → (W.alloc (.cells cs.toArray t)).cell? ((⟨H, 0, none⟩ : Addr).add j) = some u := by
  intro j u hj
  subst hH
  have e2 : ((⟨W.heap.size, 0, none⟩ : Addr).add j) = ⟨W.heap.size, j, none⟩ := by
    unfold Addr.add
    split
    · rename_i h; simp_all
    · simp
  have hlt : j < cs.length := by
    rcases Nat.lt_or_ge j cs.length with h | h
    · exact h
    · rw [List.getElem?_eq_none h] at hj; cases hj
  have hr := (World.rowIs_alloc W cs.toArray t (fun i => cs[i]?.getD u) (fun i hi => by simp at hi; simp [hi])).cell (i := j) (by simpa using hlt)
  rw [e2, hr]
  simp [hj]
theorem one_two (a b : Int) : ∀ u ∈ [Value.int .i64 a, .int .i64 b], u.oneCell' = true := by
  intro u hu
  simp at hu
  rcases hu with rfl | rfl <;> rfl
theorem flat2_len (l : List (Int × Int)) : (l.flatMap spC).length = l.length * 2 := by
  induction l with
  | nil => simp
  | cons x r ih => rw [List.flatMap_cons, List.length_append, ih]; simp [spC]; omega
theorem flat2_one (l : List (Int × Int)) : ∀ u ∈ l.flatMap spC, u.oneCell' = true := by
  intro u hu
  rw [List.mem_flatMap] at hu
  obtain ⟨g, _, hg⟩ := hu
  exact one_two g.1 g.2 u hg
theorem flat2_at : ∀ (l : List (Int × Int)) (i : Nat) (hi : i < l.length), (l.flatMap spC)[i * 2]? = some (.int .i64 l[i].1) ∧ (l.flatMap spC)[i * 2 + 1]? = some (.int .i64 l[i].2) := by
  intro l
  induction l with
  | nil => intro i hi; simp at hi
  | cons x r ih =>
    intro i hi
    rw [List.flatMap_cons]
    have h2 : (spC x).length = 2 := rfl
    cases i with
    | zero => simp [spC]
    | succ j =>
      have := ih j (by simpa using hi)
      simp only [List.getElem_cons_succ]
      rw [List.getElem?_append_right (by omega), List.getElem?_append_right (by omega), h2, show (j + 1) * 2 - 2 = j * 2 by omega, show (j + 1) * 2 + 1 - 2 = j * 2 + 1 by omega]
      exact this
theorem owns_sp {w : World} {base b cap : Nat} {t : TypeId} {l : List (Int × Int)} (h : w.ownsRow base t 2 (.slice (some ⟨b, 0, none⟩) l.length cap) l.length (l.flatMap spC)) (i : Nat) (hi : i < l.length) :
    w.cell? ⟨b, i * 2, none⟩ = some (.int .i64 l[i].1) ∧ w.cell? ⟨b, i * 2 + 1, none⟩ = some (.int .i64 l[i].2) := by
  have e := flat2_at l i hi
  have e0 := h.cellAt (i * 2) (by omega)
  have e1 := h.cellAt (i * 2 + 1) (by omega)
  rw [e.1] at e0
  rw [e.2] at e1
  exact ⟨e0, e1⟩
theorem owns_formN {w : World} {base : Nat} {t : TypeId} {z : Nat} {v : Value} {n : Nat} {xs : List Value} (h : w.ownsRow base t z v n xs) : ∃ ao cap, v = .slice ao n cap ∧ (0 < n → ∃ b, ao = some ⟨b, 0, none⟩) := by
  rcases h.2 with ⟨rfl, h0⟩ | ⟨g, cap, cur, rfl, _⟩
  · exact ⟨none, 0, by rw [h0], by omega⟩
  · exact ⟨some ⟨g, 0, none⟩, cap, rfl, fun _ => ⟨g, rfl⟩⟩
/-- The cells of a row of spots, as the new ones of an append. -/
theorem news_row {w : World} {base g cap : Nat} {t : TypeId} {l : List (Int × Int)} (h : w.ownsRow base t 2 (.slice (some ⟨g, 0, none⟩) l.length cap) l.length (l.flatMap spC)) : ∀ (j : Nat) (u : Value), (l.flatMap spC)[j]? = some u → w.cell? ((⟨g, 0, none⟩ : Addr).add j) = some u := by
  intro j u hj
  have e2 : ((⟨g, 0, none⟩ : Addr).add j) = ⟨g, j, none⟩ := by
    unfold Addr.add
    split
    · rename_i h; simp_all
    · simp
  have hlt : j < l.length * 2 := by
    rcases Nat.lt_or_ge j (l.length * 2) with h | h
    · exact h
    · rw [List.getElem?_eq_none (by rw [flat2_len]; exact h)] at hj; cases hj
  rw [e2, h.cellAt j hlt, hj]
end Go.Proofs.YtkhcjkmifddlbaaGreat

/- CutV -/
namespace Go.Proofs.YtkhcjkmifddlbaaGreat
namespace Num

/-- Of a search by two tests, the second of which ends at j. -/
theorem filter_end {A B : Nat → Bool} {j : Nat} : ∀ m, j ≤ m → (∀ k, k < m → B k = decide (k < j)) → (List.range m).filter (fun k => A k && B k) = (List.range j).filter A := by
  intro m
  induction m with
  | zero => intro h _; have : j = 0 := by omega
            subst this; rfl
  | succ m ih =>
    intro h hB
    by_cases e : j = m + 1
    · subst e
      apply List.filter_congr
      intro k hk
      have : k < m + 1 := by simpa using hk
      rw [hB k this]; simp [this]
    · rw [List.range_succ, List.filter_append, ih (by omega) (fun k hk => hB k (by omega))]
      have : B m = false := by rw [hB m (by omega)]; simp; omega
      simp [this]

/-- Line k, from the least on, and from the greatest on. -/
def upK (k : Nat) : Int := 64 * ((k : Int) - 256)
def dnK (k : Nat) : Int := 64 * (256 - (k : Int))
/-- The lines beyond p among the first j. -/
def upL (p : Int) (j : Nat) : List Int := ((List.range j).filter fun k => decide (p < upK k)).map upK
def dnL (p : Int) (j : Nat) : List Int := ((List.range j).filter fun k => decide (dnK k < p)).map dnK
/-- The lines between p and q among the first m. -/
def upR (p q : Int) (m : Nat) : List Int := ((List.range m).filter fun k => decide (p < upK k) && decide (upK k < q)).map upK
def dnR (p q : Int) (m : Nat) : List Int := ((List.range m).filter fun k => decide (dnK k < p) && decide (q < dnK k)).map dnK
def linesV (p q : Int) : List Int := upR p q 513 ++ dnR p q 513

theorem upL_succ (p : Int) (j : Nat) : upL p (j + 1) = upL p j ++ if p < upK j then [upK j] else [] := by
  unfold upL
  rw [List.range_succ, List.filter_append, List.map_append]
  split <;> rename_i h <;> simp [h]
theorem dnL_succ (p : Int) (j : Nat) : dnL p (j + 1) = dnL p j ++ if dnK j < p then [dnK j] else [] := by
  unfold dnL
  rw [List.range_succ, List.filter_append, List.map_append]
  split <;> rename_i h <;> simp [h]
theorem upR_succ (p q : Int) (m : Nat) : upR p q (m + 1) = upR p q m ++ if p < upK m ∧ upK m < q then [upK m] else [] := by
  unfold upR
  rw [List.range_succ, List.filter_append, List.map_append]
  split <;> rename_i h
  · simp [h.1, h.2]
  · have : (decide (p < upK m) && decide (upK m < q)) = false := by simp; omega
    simp [this]
theorem dnR_succ (p q : Int) (m : Nat) : dnR p q (m + 1) = dnR p q m ++ if q < dnK m ∧ dnK m < p then [dnK m] else [] := by
  unfold dnR
  rw [List.range_succ, List.filter_append, List.map_append]
  split <;> rename_i h
  · simp [h.1, h.2]
  · have : (decide (dnK m < p) && decide (q < dnK m)) = false := by simp; omega
    simp [this]
theorem upL_start {p : Int} {j : Nat} (h : ∀ k, k < j → upK k ≤ p) : upL p j = [] := by
  unfold upL
  rw [List.map_eq_nil_iff, List.filter_eq_nil_iff]
  intro k hk
  have := h k (by simpa using hk)
  simp; omega
theorem dnL_start {p : Int} {j : Nat} (h : ∀ k, k < j → p ≤ dnK k) : dnL p j = [] := by
  unfold dnL
  rw [List.map_eq_nil_iff, List.filter_eq_nil_iff]
  intro k hk
  have := h k (by simpa using hk)
  simp; omega
theorem upR_none {p q : Int} (m : Nat) (h : q ≤ p) : upR p q m = [] := by
  unfold upR
  rw [List.map_eq_nil_iff, List.filter_eq_nil_iff]
  intro k _
  simp; omega
theorem dnR_none {p q : Int} (m : Nat) (h : p ≤ q) : dnR p q m = [] := by
  unfold dnR
  rw [List.map_eq_nil_iff, List.filter_eq_nil_iff]
  intro k _
  simp; omega
/-- The program's lines are the document's. -/
theorem lines_up {p q : Int} {j : Nat} (hpq : p < q) (hj : j ≤ 513) (hq : ∀ k, k < j → upK k < q) (hq2 : ∀ k, j ≤ k → k < 513 → q ≤ upK k) : linesV p q = upL p j := by
  unfold linesV
  rw [dnR_none _ (by omega), List.append_nil]
  unfold upR upL
  rw [filter_end (j := j) 513 hj]
  intro k hk
  by_cases h : k < j
  · simp [h, hq k h]
  · have := hq2 k (by omega) hk
    simp [h]; omega
theorem lines_dn {p q : Int} {j : Nat} (hpq : q ≤ p) (hj : j ≤ 513) (hq : ∀ k, k < j → q < dnK k) (hq2 : ∀ k, j ≤ k → k < 513 → dnK k ≤ q) : linesV p q = dnL p j := by
  unfold linesV
  rw [upR_none _ (by omega), List.nil_append]
  unfold dnR dnL
  rw [filter_end (j := j) 513 hj]
  intro k hk
  by_cases h : k < j
  · simp [h, hq k h]
  · have := hq2 k (by omega) hk
    simp [h]; omega
theorem upL_len (p : Int) (j : Nat) : (upL p j).length ≤ j := by
  unfold upL; rw [List.length_map]; exact Nat.le_trans (List.length_filter_le _ _) (by simp)
theorem dnL_len (p : Int) (j : Nat) : (dnL p j).length ≤ j := by
  unfold dnL; rw [List.length_map]; exact Nat.le_trans (List.length_filter_le _ _) (by simp)
theorem upR_len (p q : Int) (j : Nat) : (upR p q j).length ≤ j := by
  unfold upR; rw [List.length_map]; exact Nat.le_trans (List.length_filter_le _ _) (by simp)
theorem dnR_len (p q : Int) (j : Nat) : (dnR p q j).length ≤ j := by
  unfold dnR; rw [List.length_map]; exact Nat.le_trans (List.length_filter_le _ _) (by simp)
theorem linesV_len (p q : Int) : (linesV p q).length ≤ 1026 := by
  unfold linesV
  rw [List.length_append]
  have := upR_len p q 513
  have := dnR_len p q 513
  omega
/-- All lines lie strictly between. -/
theorem linesV_mem {p q v : Int} (h : v ∈ linesV p q) : (p < v ∧ v < q) ∨ (q < v ∧ v < p) := by
  unfold linesV upR dnR at h
  simp only [List.mem_append, List.mem_map, List.mem_filter, Bool.and_eq_true, decide_eq_true_eq] at h
  rcases h with ⟨k, ⟨_, h1, h2⟩, rfl⟩ | ⟨k, ⟨_, h1, h2⟩, rfl⟩
  · exact .inl ⟨h1, h2⟩
  · exact .inr ⟨h2, h1⟩

theorem hu_add (a n d : Int) (hd : 0 < d) : hu (a * d + n) d = a + hu n d := by
  obtain ⟨h1, h2⟩ := hu_facts n d hd
  apply hu_of _ _ _ hd
  · have e : 2 * d * (a + hu n d) = 2 * (a * d) + 2 * d * hu n d := by rw [Int.mul_add, Int.mul_assoc 2 d a, Int.mul_comm d a]
    omega
  · have e : 2 * d * (a + hu n d) = 2 * (a * d) + 2 * d * hu n d := by rw [Int.mul_add, Int.mul_assoc 2 d a, Int.mul_comm d a]
    omega
theorem hu_between {n d B : Int} (hd : 0 < d) (h1 : -(B * d) ≤ n) (h2 : n ≤ B * d) : -B ≤ hu n d ∧ hu n d ≤ B := by
  obtain ⟨f1, f2⟩ := hu_facts n d hd
  constructor
  · rcases Int.lt_or_le (hu n d) (-B) with h | h
    · exfalso
      have := Int.mul_le_mul_of_nonneg_left (show hu n d + 1 ≤ -B by omega) (show 0 ≤ 2 * d by omega)
      rw [Int.mul_add] at this
      have e : 2 * d * -B = -(2 * (B * d)) := by rw [Int.mul_neg, Int.mul_assoc, Int.mul_comm d B]
      omega
    · exact h
  · rcases Int.lt_or_le B (hu n d) with h | h
    · exfalso
      have := Int.mul_le_mul_of_nonneg_left (show B + 1 ≤ hu n d by omega) (show 0 ≤ 2 * d by omega)
      rw [Int.mul_add] at this
      have e : 2 * d * B = 2 * (B * d) := by rw [Int.mul_assoc, Int.mul_comm d B]
      omega
    · exact h

/-- Where the line that goes from a to b, while the other coordinate goes from p to q, is at n. -/
def atV (a b p q n : Int) : Int := if q - p < 0 then hu (-(a * (q - n) + b * (n - p))) (-(q - p)) else hu (a * (q - n) + b * (n - p)) (q - p)
theorem at_num (a b p q n : Int) : a * (q - n) + b * (n - p) = a * (q - p) + (b - a) * (n - p) := by
  rw [Int.sub_mul, show q - p = (q - n) + (n - p) by omega, Int.mul_add]; omega
/-- The program's way. -/
theorem atV_eq {a b p q n : Int} (h : p ≠ q) : atV a b p q n = a + if q - p < 0 then hu (-((b - a) * (n - p))) (-(q - p)) else hu ((b - a) * (n - p)) (q - p) := by
  unfold atV
  rw [at_num]
  split
  · rename_i hd
    rw [show -(a * (q - p) + (b - a) * (n - p)) = a * -(q - p) + -((b - a) * (n - p)) by rw [Int.mul_neg]; omega]
    exact hu_add _ _ _ (by omega)
  · exact hu_add _ _ _ (by omega)
theorem mul_ge {a t B : Int} (h : -B ≤ a ∧ a ≤ B) (ht : 0 ≤ t) : -(B * t) ≤ a * t ∧ a * t ≤ B * t := by
  have h1 := Int.mul_le_mul_of_nonneg_right h.1 ht
  have h2 := Int.mul_le_mul_of_nonneg_right h.2 ht
  rw [Int.neg_mul] at h1
  exact ⟨h1, h2⟩
theorem atV_bd {a b p q n B : Int} (ha : -B ≤ a ∧ a ≤ B) (hb : -B ≤ b ∧ b ≤ B) (h : (p < n ∧ n < q) ∨ (q < n ∧ n < p)) : -B ≤ atV a b p q n ∧ atV a b p q n ≤ B := by
  unfold atV
  rcases h with h | h
  · rw [if_neg (by omega)]
    have h1 := mul_ge (t := q - n) ha (by omega)
    have h2 := mul_ge (t := n - p) hb (by omega)
    have e : B * (q - p) = B * (q - n) + B * (n - p) := by rw [← Int.mul_add]; congr 1; omega
    exact hu_between (by omega) (by omega) (by omega)
  · rw [if_pos (by omega)]
    have h1 := mul_ge (t := n - q) ha (by omega)
    have h2 := mul_ge (t := p - n) hb (by omega)
    have e : B * -(q - p) = B * (n - q) + B * (p - n) := by rw [← Int.mul_add]; congr 1; omega
    have e1 : a * (q - n) = -(a * (n - q)) := by rw [← Int.mul_neg]; congr 1; omega
    have e2 : b * (n - p) = -(b * (p - n)) := by rw [← Int.mul_neg]; congr 1; omega
    exact hu_between (by omega) (by omega) (by omega)

/-- Where a chord meets the row lines, and the column lines. -/
def rowsV (ax ay bx b2 : Int) : List (Int × Int) := (linesV ay b2).map fun y => (atV ax bx ay b2 y, y)
def colsV (ax ay bx b2 : Int) : List (Int × Int) := (linesV ax bx).map fun x => (x, atV ay b2 ax bx x)
/-- From one spot to the next, cut at the column lines. -/
def cutF : Int → Int → List (Int × Int) → List (Int × Int)
  | _, _, [] => []
  | x, y, t :: r => colsV x y t.1 t.2 ++ t :: cutF t.1 t.2 r
def cutsE (ax ay bx b2 : Int) : Int := if (inB ax ay && inB bx b2) = false then 6 else 0
/-- Cuts' answer. -/
def cutsL (ax ay bx b2 : Int) : List (Int × Int) := if cutsE ax ay bx b2 = 0 then (ax, ay) :: cutF ax ay (rowsV ax ay bx b2 ++ [(bx, b2)]) else []

theorem cuts_ok {ax ay bx b2 : Int} (h : cutsE ax ay bx b2 = 0) : inB ax ay = true ∧ inB bx b2 = true := by
  unfold cutsE at h
  cases h1 : inB ax ay <;> cases h2 : inB bx b2 <;> simp [h1, h2] at h
  exact ⟨rfl, rfl⟩
theorem rowsV_len (ax ay bx b2 : Int) : (rowsV ax ay bx b2).length ≤ 1026 := by unfold rowsV; rw [List.length_map]; exact linesV_len _ _
theorem colsV_len (ax ay bx b2 : Int) : (colsV ax ay bx b2).length ≤ 1026 := by unfold colsV; rw [List.length_map]; exact linesV_len _ _
/-- The spots on row lines are in range. -/
theorem rowsV_in {ax ay bx b2 : Int} (ha : inB ax ay = true) (hb : inB bx b2 = true) : ∀ t ∈ rowsV ax ay bx b2, inB t.1 t.2 = true := by
  intro t ht
  unfold rowsV at ht
  rw [List.mem_map] at ht
  obtain ⟨y, hy, rfl⟩ := ht
  have h := linesV_mem hy
  have a := inB_yes ha
  have b := inB_yes hb
  have := atV_bd (n := y) a.1 b.1 h
  have hy2 : -16384 ≤ y ∧ y ≤ 16384 := by omega
  simp [inB, wi]
  omega
theorem cutF_len (r : List (Int × Int)) : ∀ x y, (cutF x y r).length ≤ 1027 * r.length := by
  induction r with
  | nil => intro x y; simp [cutF]
  | cons t r ih =>
    intro x y
    simp only [cutF, List.length_append, List.length_cons]
    have := ih t.1 t.2
    have := colsV_len x y t.1 t.2
    omega
/-- The last spot behind the first spots r. -/
def lastS (x y : Int) : List (Int × Int) → Int × Int
  | [] => (x, y)
  | t :: r => lastS t.1 t.2 r
theorem cutF_snoc (r : List (Int × Int)) (t : Int × Int) : ∀ x y, cutF x y (r ++ [t]) = cutF x y r ++ colsV (lastS x y r).1 (lastS x y r).2 t.1 t.2 ++ [t] := by
  induction r with
  | nil => intro x y; simp [cutF, lastS]
  | cons u r ih => intro x y; simp only [List.cons_append, cutF, lastS, ih, List.append_assoc, List.cons_append]
theorem lastS_snoc (r : List (Int × Int)) (t : Int × Int) : ∀ x y, lastS x y (r ++ [t]) = t := by
  induction r with
  | nil => intro x y; rfl
  | cons u r ih => intro x y; simp only [List.cons_append, lastS, ih]
theorem lastS_in (r : List (Int × Int)) : ∀ x y, inB x y = true → (∀ t ∈ r, inB t.1 t.2 = true) → inB (lastS x y r).1 (lastS x y r).2 = true := by
  induction r with
  | nil => intro x y h _; exact h
  | cons u r ih => intro x y _ hr; exact ih u.1 u.2 (hr u (by simp)) (fun t ht => hr t (by simp [ht]))
end Num
end Go.Proofs.YtkhcjkmifddlbaaGreat

/- Ct -/
namespace Go.Proofs.YtkhcjkmifddlbaaGreat
open Go.RowKit Go.Deep

theorem info_int : (Tryz.prog.info? 3).map (fun i => (i.zero, i.size, i.bytes)) = some (some (.int .i64 0), 1, 8) := by kernel_rfl

/-- The cells of a row of ints. -/
def intC (l : List Int) : List Value := l.map (Value.int .i64)
theorem intC_snoc (l : List Int) (z : Int) : intC (l ++ [z]) = intC l ++ [.int .i64 z] := by simp [intC]

theorem start_line {p : Int} (h : -16384 ≤ p ∧ p ≤ 16384) : ∃ k : Nat, k ≤ 512 ∧ p - p.tmod 64 = Num.upK k ∧ p - p.tmod 64 = Num.dnK (512 - k) ∧ -64 < p.tmod 64 ∧ p.tmod 64 < 64 := by
  obtain ⟨e, h1, h2, h3, h4⟩ := Num.tdiv_facts p 64 (by omega)
  refine ⟨(p.tdiv 64 + 256).toNat, by omega, ?_, ?_, h1, h2⟩
  · unfold Num.upK; omega
  · unfold Num.dnK; omega

set_option maxRecDepth 100000 in
set_option maxHeartbeats 2000000 in
theorem linesBetween_any (p q : Int) (w : World) (hp : -16384 ≤ p ∧ p ≤ 16384) (hq : -16384 ≤ q ∧ q ≤ 16384) :
    Calls Tryz.prog 117 #[.int .i64 p, .int .i64 q] w fun e w' => ∃ v, e = .returned v ∧ Below w.heap.size w w' ∧ w'.ownsRow w.heap.size 3 1 v (Num.linesV p q).length (intC (Num.linesV p q)) := by
  obtain ⟨k0, hk0, hu, hd, t1, t2⟩ := start_line hp
  obtain ⟨n0, hn0⟩ : ∃ n0, n0 = p - p.tmod 64 := ⟨_, rfl⟩
  obtain ⟨i0, hi0, hz0, hz1, hz2⟩ := info_parts info_int
  obtain ⟨L, hL⟩ : ∃ L, L = Num.linesV p q := ⟨_, rfl⟩
  rw [← hL]
  have HL := hide hL
  rw [← hn0] at hu hd
  have b1 : -16500 ≤ n0 := by omega
  have b2 : n0 ≤ 16500 := by omega
  have b3 : n0 - 64 < p := by omega
  have b4 : p < n0 + 64 := by omega
  have HN := hide hn0
  have HU := hide hu
  have HD := hide hd
  clear hL hn0 hu hd
  by_cases hpq : p < q
  · go_enter Tryz.func117, Tryz.ntmps117
    go_wp2_with fail
    rw [← HN.out]
    go_wp2_with fail
    go_loopw [5, 6] (fun v t wr => ∃ j : Nat, j ≤ 513 ∧ t = .int .i64 (Num.upK j) ∧ (∀ k, k < j → Num.upK k < q) ∧ Below w.heap.size w wr ∧ wr.ownsRow w.heap.size 3 1 v (Num.upL p j).length (intC (Num.upL p j))) (fun _ t _ => (40000 - intOf t).toNat)
    case atStart =>
      refine ⟨k0, by omega, by rw [HU.out], fun k hk => ?_, Below.refl _ _, ?_⟩
      · have := HU.out; unfold Num.upK at this ⊢; omega
      · rw [Num.upL_start (fun k hk => by have := HU.out; unfold Num.upK at this ⊢; omega)]
        exact World.ownsRow_nil _ _ _ _
    case round =>
      obtain ⟨v, rfl⟩ : ∃ v, v = u5 := ⟨_, rfl⟩
      obtain ⟨j, hj, rfl, hall, hb, hown⟩ := hrel
      have hsz := hb.size
      have hlen := Num.upL_len p j
      have hUj : Num.upK j = 64 * ((j : Int) - 256) := rfl
      have HSu := hide (Num.upL_succ p j)
      have HAll := hide hall
      have hUs : Num.upK (j + 1) = Num.upK j + 64 := by unfold Num.upK; omega
      have HUs := hide hUs
      clear hall hUs
      by_cases hlt : Num.upK j < q
      · have hj2 : j + 1 ≤ 513 := by omega
        have HAll2 : Hid (∀ k, k < j + 1 → Num.upK k < q) := fun k hk => by
          rcases (show k < j ∨ k = j by omega) with h | h
          · exact HAll.out k h
          · rw [h]; exact hlt
        by_cases hgt : p < Num.upK j
        · have HE : Hid (Num.upL p (j + 1) = Num.upL p j ++ [Num.upK j]) := by unfold Hid; rw [HSu.out, if_pos hgt]
          have u1 : -100000 ≤ Num.upK j := by omega
          have u2 : Num.upK j ≤ 100000 := by omega
          obtain ⟨U, hU⟩ : ∃ U, U = Num.upK j := ⟨_, rfl⟩
          obtain ⟨M, hM⟩ : ∃ M, M = Num.upL p j := ⟨_, rfl⟩
          rw [← hU] at HE HUs hlt hgt u1 u2 ⊢
          rw [← hM] at HE hown hlen
          obtain ⟨ln, hln⟩ : ∃ ln, ln = M.length := ⟨_, rfl⟩
          obtain ⟨xs, hxs⟩ : ∃ xs, xs = intC M := ⟨_, rfl⟩
          rw [← hln, ← hxs] at hown
          rw [← hln] at hlen
          have HLn := hide hln
          have HXs := hide hxs
          clear hU hM hln hxs hUj
          go_wp2_with (at_builtin; refine wpList_append_lies _ rfl _ _ 90 rfl w.heap.size 3 i0 (.int .i64 0) 1 8 Tryz.underlying90 hi0 hz0 hz1 hz2 rfl (by omega) v ln xs rfl (hown.alloc _) ⟨wr.heap.size, 0, none⟩ 1 1 [.int .i64 U] rfl rfl ?e1 ?e2 (by omega) ?e3 ?e4 ?e5 (wr.heap.size + 1) (by simp) ?_)
          try (case e1 => exact news_sp wr [.int .i64 U] _ _ rfl)
          case e2 => first | rfl | (intro u hu; simp at hu; subst hu; rfl)
          case e3 => unfold maxLen; omega
          case e4 => omega
          case e5 => first | omega | (simp; omega)
          intro g cap w2 hown2 hgrow hat hlt2
          have hb2 : Below w.heap.size w w2 := (hb.alloc (by omega) _).grown hgrow (by simp; omega) (fun q hq => (hown.lt q hq).1)
          have HO2 : Hid (w2.ownsRow w.heap.size 3 1 (.slice (some ⟨g, 0, none⟩) (ln + 1) cap) (Num.upL p (j + 1)).length (intC (Num.upL p (j + 1)))) := by
            unfold Hid
            rw [HE.out, intC_snoc, ← HXs.out, List.length_append, ← HLn.out]
            exact hown2
          clear hown2 hgrow hat hown hb
          go_wp2
          go_roundw
          case rel => exact ⟨j + 1, hj2, by rw [HUs.out], HAll2.out, hb2, HO2.out⟩
          case measure => simp [intOf]; omega
        · have HE : Hid (Num.upL p (j + 1) = Num.upL p j) := by unfold Hid; rw [HSu.out, if_neg hgt, List.append_nil]
          have u1 : -100000 ≤ Num.upK j := by omega
          have u2 : Num.upK j ≤ 100000 := by omega
          obtain ⟨U, hU⟩ : ∃ U, U = Num.upK j := ⟨_, rfl⟩
          rw [← hU] at HUs hlt hgt u1 u2 ⊢
          have HO := hide hown
          clear hU hUj hown
          go_wp2
          go_roundw
          case rel => exact ⟨j + 1, hj2, by rw [HUs.out], HAll2.out, hb, by rw [HE.out]; exact HO.out⟩
          case measure => simp [intOf]; omega
      · have HE : Hid (L = Num.upL p j) := by
          unfold Hid
          rw [HL.out]
          exact Num.lines_up hpq hj HAll.out (fun k h1 h2 => by unfold Num.upK at hlt ⊢; omega)
        have HO := hide hown
        clear hown hUj
        go_wp2
        go_ret
        exact ⟨v, rfl, hb, by rw [HE.out]; exact HO.out⟩
  · go_enter Tryz.func117, Tryz.ntmps117
    go_wp2_with fail
    rw [← HN.out]
    go_wp2_with fail
    go_loopw [5, 6] (fun v t wr => ∃ j : Nat, j ≤ 513 ∧ t = .int .i64 (Num.dnK j) ∧ (∀ k, k < j → q < Num.dnK k) ∧ Below w.heap.size w wr ∧ wr.ownsRow w.heap.size 3 1 v (Num.dnL p j).length (intC (Num.dnL p j))) (fun _ t _ => (40000 + intOf t).toNat)
    case atStart =>
      refine ⟨512 - k0, by omega, by rw [HD.out], fun k hk => ?_, Below.refl _ _, ?_⟩
      · have := HD.out; unfold Num.dnK at this ⊢; omega
      · rw [Num.dnL_start (fun k hk => by have := HD.out; unfold Num.dnK at this ⊢; omega)]
        exact World.ownsRow_nil _ _ _ _
    case round =>
      obtain ⟨v, rfl⟩ : ∃ v, v = u5 := ⟨_, rfl⟩
      obtain ⟨j, hj, rfl, hall, hb, hown⟩ := hrel
      have hsz := hb.size
      have hlen := Num.dnL_len p j
      have hUj : Num.dnK j = 64 * (256 - (j : Int)) := rfl
      have HSu := hide (Num.dnL_succ p j)
      have HAll := hide hall
      have hUs : Num.dnK (j + 1) = Num.dnK j - 64 := by unfold Num.dnK; omega
      have HUs := hide hUs
      clear hall hUs
      by_cases hlt : q < Num.dnK j
      · have hj2 : j + 1 ≤ 513 := by omega
        have HAll2 : Hid (∀ k, k < j + 1 → q < Num.dnK k) := fun k hk => by
          rcases (show k < j ∨ k = j by omega) with h | h
          · exact HAll.out k h
          · rw [h]; exact hlt
        by_cases hgt : Num.dnK j < p
        · have HE : Hid (Num.dnL p (j + 1) = Num.dnL p j ++ [Num.dnK j]) := by unfold Hid; rw [HSu.out, if_pos hgt]
          have u1 : -100000 ≤ Num.dnK j := by omega
          have u2 : Num.dnK j ≤ 100000 := by omega
          obtain ⟨U, hU⟩ : ∃ U, U = Num.dnK j := ⟨_, rfl⟩
          obtain ⟨M, hM⟩ : ∃ M, M = Num.dnL p j := ⟨_, rfl⟩
          rw [← hU] at HE HUs hlt hgt u1 u2 ⊢
          rw [← hM] at HE hown hlen
          obtain ⟨ln, hln⟩ : ∃ ln, ln = M.length := ⟨_, rfl⟩
          obtain ⟨xs, hxs⟩ : ∃ xs, xs = intC M := ⟨_, rfl⟩
          rw [← hln, ← hxs] at hown
          rw [← hln] at hlen
          have HLn := hide hln
          have HXs := hide hxs
          clear hU hM hln hxs hUj
          go_wp2_with (at_builtin; refine wpList_append_lies _ rfl _ _ 90 rfl w.heap.size 3 i0 (.int .i64 0) 1 8 Tryz.underlying90 hi0 hz0 hz1 hz2 rfl (by omega) v ln xs rfl (hown.alloc _) ⟨wr.heap.size, 0, none⟩ 1 1 [.int .i64 U] rfl rfl ?f1 ?f2 (by omega) ?f3 ?f4 ?f5 (wr.heap.size + 1) (by simp) ?_)
          try (case f1 => exact news_sp wr [.int .i64 U] _ _ rfl)
          case f2 => first | rfl | (intro u hu; simp at hu; subst hu; rfl)
          case f3 => unfold maxLen; omega
          case f4 => omega
          case f5 => first | omega | (simp; omega)
          intro g cap w2 hown2 hgrow hat hlt2
          have hb2 : Below w.heap.size w w2 := (hb.alloc (by omega) _).grown hgrow (by simp; omega) (fun q hq => (hown.lt q hq).1)
          have HO2 : Hid (w2.ownsRow w.heap.size 3 1 (.slice (some ⟨g, 0, none⟩) (ln + 1) cap) (Num.dnL p (j + 1)).length (intC (Num.dnL p (j + 1)))) := by
            unfold Hid
            rw [HE.out, intC_snoc, ← HXs.out, List.length_append, ← HLn.out]
            exact hown2
          clear hown2 hgrow hat hown hb
          go_wp2
          go_roundw
          case rel => exact ⟨j + 1, hj2, by rw [HUs.out], HAll2.out, hb2, HO2.out⟩
          case measure => simp [intOf]; omega
        · have HE : Hid (Num.dnL p (j + 1) = Num.dnL p j) := by unfold Hid; rw [HSu.out, if_neg hgt, List.append_nil]
          have u1 : -100000 ≤ Num.dnK j := by omega
          have u2 : Num.dnK j ≤ 100000 := by omega
          obtain ⟨U, hU⟩ : ∃ U, U = Num.dnK j := ⟨_, rfl⟩
          rw [← hU] at HUs hlt hgt u1 u2 ⊢
          have HO := hide hown
          clear hU hUj hown
          go_wp2
          go_roundw
          case rel => exact ⟨j + 1, hj2, by rw [HUs.out], HAll2.out, hb, by rw [HE.out]; exact HO.out⟩
          case measure => simp [intOf]; omega
      · have HE : Hid (L = Num.dnL p j) := by
          unfold Hid
          rw [HL.out]
          exact Num.lines_dn (by omega) hj HAll.out (fun k h1 h2 => by unfold Num.dnK at hlt ⊢; omega)
        have HO := hide hown
        clear hown hUj
        go_wp2
        go_ret
        exact ⟨v, rfl, hb, by rw [HE.out]; exact HO.out⟩

set_option maxHeartbeats 400000 in
theorem meet_any (n p q a b : Int) (w : World) (hpq : p ≠ q) (hn : -16384 ≤ n ∧ n ≤ 16384) (hp : -16384 ≤ p ∧ p ≤ 16384) (hq : -16384 ≤ q ∧ q ≤ 16384) (ha : -16384 ≤ a ∧ a ≤ 16384) (hb : -16384 ≤ b ∧ b ≤ 16384) :
    Calls Tryz.prog 118 #[.int .i64 n, .int .i64 p, .int .i64 q, .int .i64 a, .int .i64 b] w fun e w' => e = .returned (.int .i64 (Num.atV a b p q n)) ∧ w' = w := by
  have m1 := Num.mul_bd (b - a) (n - p) 32768 32768 (by omega) (by omega)
  have HE := hide (Num.atV_eq (a := a) (b := b) (n := n) hpq)
  by_cases hlt : q - p < 0
  · have h1 := Num.hu_le (-((b - a) * (n - p))) (-(q - p)) 10000000000 (by omega) (by omega) (by omega) (by omega)
    go_enter Tryz.func118, Tryz.ntmps118
    go_wp2_with (go_at_call 56; refine (halfUp_any _ _ _ (by omega) (by omega) (by omega) (by omega)).mono ?_; rintro e w' ⟨rfl, rfl⟩)
    go_ret
    exact ⟨ret_int (by rw [HE.out, if_pos hlt]), rfl⟩
  · have h1 := Num.hu_le ((b - a) * (n - p)) (q - p) 10000000000 (by omega) (by omega) (by omega) (by omega)
    go_enter Tryz.func118, Tryz.ntmps118
    go_wp2_with (go_at_call 56; refine (halfUp_any _ _ _ (by omega) (by omega) (by omega) (by omega)).mono ?_; rintro e w' ⟨rfl, rfl⟩)
    go_ret
    exact ⟨ret_int (by rw [HE.out, if_neg (by omega)]), rfl⟩
end Go.Proofs.YtkhcjkmifddlbaaGreat

/- CtB -/
namespace Go.Proofs.YtkhcjkmifddlbaaGreat
open Go.RowKit Go.Deep

theorem intC_at (l : List Int) (i : Nat) (hi : i < l.length) : (intC l)[i]? = some (.int .i64 l[i]) := by simp [intC, hi]
theorem owns_int {w : World} {base b cap : Nat} {t : TypeId} {l : List Int} (h : w.ownsRow base t 1 (.slice (some ⟨b, 0, none⟩) l.length cap) l.length (intC l)) (i : Nat) (hi : i < l.length) : w.cell? ⟨b, i, none⟩ = some (.int .i64 l[i]) := by
  rw [h.cellAt i (by omega), intC_at l i hi]

theorem atRows_at {ax ay bx b2 : Int} {j : Nat} (hj : j < (Num.linesV ay b2).length) : (Num.rowsV ax ay bx b2).take (j + 1) = (Num.rowsV ax ay bx b2).take j ++ [(fun z => (Num.atV ax bx ay b2 z, z)) (Num.linesV ay b2)[j]] := by
  have hl : j < (Num.rowsV ax ay bx b2).length := by unfold Num.rowsV; simpa using hj
  rw [List.take_succ_eq_append_getElem hl]
  simp [Num.rowsV]

set_option maxRecDepth 100000 in
set_option maxHeartbeats 2000000 in
theorem atRows_any (ax ay bx b2 : Int) (w : World) (ha : (-16384 ≤ ax ∧ ax ≤ 16384) ∧ -16384 ≤ ay ∧ ay ≤ 16384) (hb : (-16384 ≤ bx ∧ bx ≤ 16384) ∧ -16384 ≤ b2 ∧ b2 ≤ 16384) :
    Calls Tryz.prog 104 #[.agg #[.int .i64 ax, .int .i64 ay], .agg #[.int .i64 bx, .int .i64 b2]] w fun e w' => ∃ v, e = .returned v ∧ Below w.heap.size w w' ∧ w'.ownsRow w.heap.size 59 2 v (Num.rowsV ax ay bx b2).length ((Num.rowsV ax ay bx b2).flatMap spC) ∧ ((Num.rowsV ax ay bx b2).length = 0 → v = .slice none 0 0) := by
  have hmem : ∀ z ∈ Num.linesV ay b2, (ay < z ∧ z < b2) ∨ (b2 < z ∧ z < ay) := fun z hz => Num.linesV_mem hz
  have hat0 : ∀ j (hj : j < (Num.linesV ay b2).length), (Num.rowsV ax ay bx b2).take (j + 1) = (Num.rowsV ax ay bx b2).take j ++ [(fun z => (Num.atV ax bx ay b2 z, z)) (Num.linesV ay b2)[j]] := fun j hj => atRows_at hj
  have hll : (Num.rowsV ax ay bx b2).length = (Num.linesV ay b2).length := by unfold Num.rowsV; simp
  have hle := Num.linesV_len ay b2
  obtain ⟨i0, hi0, hz0, hz1, hz2⟩ := info_parts info_spot
  have HL := hide (fun w => linesBetween_any ay b2 w ha.2 hb.2)
  obtain ⟨L, hL⟩ : ∃ L, L = Num.linesV ay b2 := ⟨_, rfl⟩
  obtain ⟨R, hR⟩ : ∃ R, R = Num.rowsV ax ay bx b2 := ⟨_, rfl⟩
  rw [← hL] at HL hmem hll hle
  have hat1 : ∀ j (hj : j < L.length), R.take (j + 1) = R.take j ++ [(fun z => (Num.atV ax bx ay b2 z, z)) L[j]] := by rw [hR, hL]; exact hat0
  rw [← hR] at hll ⊢
  have HAt := hide hat1
  have HMem := hide hmem
  clear hL hR hat0 hat1 hmem
  go_enter Tryz.func104, Tryz.ntmps104
  go_wp2_with fail
  refine (HL.out _).mono ?_
  rintro e w1 ⟨vL, rfl, hb1, hown1⟩
  have hs1 : w.heap.size + 1 < w1.heap.size := by have := hb1.size; simp at this; omega
  have hB1 : Below (w.heap.size + 2) ((w.alloc (.cells #[.int .i64 ax, .int .i64 ay] 59)).alloc (.cells #[.int .i64 bx, .int .i64 b2] 59)) w1 := hb1.mono (by simp)
  obtain ⟨ao, capL, rfl, hao⟩ := owns_formN hown1
  have HO1 := hide hown1
  have HAo := hide hao
  obtain ⟨m2, hm2⟩ : ∃ m2, m2 = L.length := ⟨_, rfl⟩
  rw [← hm2] at hle hll ⊢
  have HM2 := hide hm2
  have hbl : ∀ g2, ao = some ⟨g2, 0, none⟩ → w.heap.size + 2 ≤ g2 ∧ g2 < w1.heap.size := fun g2 e => by
    have := hown1.lt g2 (by rw [e]; rfl)
    simp at this; omega
  have HBl := hide hbl
  clear hb1 hown1 hao hm2 hbl
  go_wp2_with fail
  go_loopw [5, 15] (fun v t wr => ∃ j : Nat, j ≤ m2 ∧ t = .int .i64 j ∧ w1.heap.size ≤ wr.heap.size ∧ Below (w.heap.size + 2) ((w.alloc (.cells #[.int .i64 ax, .int .i64 ay] 59)).alloc (.cells #[.int .i64 bx, .int .i64 b2] 59)) wr ∧ wr.ownsRow (w.heap.size + 2) 59 2 v j ((R.take j).flatMap spC) ∧ (j = 0 → v = .slice none 0 0) ∧ ∀ g2, ao = some ⟨g2, 0, none⟩ → v.ownBlock ≠ some g2 ∧ wr.heap[g2]? = w1.heap[g2]?) (fun _ t _ => m2 - (intOf t).toNat)
  case atStart => exact ⟨0, by omega, rfl, Nat.le_refl _, hB1, by simpa using World.ownsRow_nil _ _ _ _, fun _ => rfl, fun g2 _ => ⟨by simp [Value.ownBlock], rfl⟩⟩
  case round =>
    obtain ⟨v, rfl⟩ : ∃ v, v = u5 := ⟨_, rfl⟩
    obtain ⟨j, hj, rfl, hsr, hB, hown, hnil, hne⟩ := hrel
    by_cases hlt : j < m2
    · have hjl : j < L.length := by rw [← HM2.out]; exact hlt
      obtain ⟨g2, rfl⟩ := HAo.out (by omega)
      obtain ⟨hne2, hblk⟩ := hne g2 rfl
      obtain ⟨gl1, gl2⟩ := HBl.out g2 rfl
      have hO2 := owns_of_block (w' := wr) HO1.out (fun b hbb => by simp [Value.ownBlock] at hbb; subst hbb; exact hblk)
      have cz := owns_int hO2 j hjl
      have hzm := HMem.out _ (List.getElem_mem hjl)
      have HTk := hide (HAt.out j hjl)
      obtain ⟨z, hz⟩ : ∃ z, z = L[j] := ⟨_, rfl⟩
      rw [← hz] at cz hzm HTk
      clear hO2 hz
      have zb : -16384 ≤ z ∧ z ≤ 16384 := by omega
      have hpq : ay ≠ b2 := by omega
      have HC := hide (fun w => meet_any z ay b2 ax bx w hpq zb ha.2 hb.2 ha.1 hb.1)
      obtain ⟨m, hm⟩ : ∃ m, m = Num.atV ax bx ay b2 z := ⟨_, rfl⟩
      rw [← hm] at HC
      have HTk2 : Hid (R.take (j + 1) = R.take j ++ [(m, z)]) := by unfold Hid; rw [HTk.out, hm]
      have hd1 : decide ((j : Int) < (m2 : Int)) = true := by simp; omega
      have sz0 : w.heap.size < wr.heap.size := by omega
      have sz1 : w.heap.size + 1 < wr.heap.size := by omega
      have a0 : wr.cell? ⟨w.heap.size, 0, none⟩ = some (.int .i64 ax) := (hB.cell (p := ⟨w.heap.size, 0, none⟩) (by simp)).trans (by go_simp)
      have a1 : wr.cell? ⟨w.heap.size, 1, none⟩ = some (.int .i64 ay) := (hB.cell (p := ⟨w.heap.size, 1, none⟩) (by simp)).trans (by go_simp)
      have e0 : wr.cell? ⟨w.heap.size + 1, 0, none⟩ = some (.int .i64 bx) := (hB.cell (p := ⟨w.heap.size + 1, 0, none⟩) (by simp)).trans (by go_simp)
      have e1 : wr.cell? ⟨w.heap.size + 1, 1, none⟩ = some (.int .i64 b2) := (hB.cell (p := ⟨w.heap.size + 1, 1, none⟩) (by simp)).trans (by go_simp)
      obtain ⟨xs, hxs⟩ : ∃ xs, xs = (R.take j).flatMap spC := ⟨_, rfl⟩
      rw [← hxs] at hown
      have HX := hide hxs
      have HNe := hide hne2
      have HBk := hide hblk
      clear hm hzm HTk hxs hne hne2 hblk hnil zb hpq
      go_wp2_with fail
      refine (HC.out _).mono ?_
      rintro e w' ⟨rfl, rfl⟩
      go_wp2_with (at_builtin; refine wpList_append_lies _ rfl _ _ 84 rfl (w.heap.size + 2) 59 i0 (.agg #[.int .i64 0, .int .i64 0]) 2 16 Tryz.underlying84 hi0 hz0 hz1 hz2 rfl (by omega) v j xs rfl (hown.alloc _) ⟨w'.heap.size, 0, none⟩ 1 1 [.int .i64 m, .int .i64 z] rfl rfl ?e1 ?e2 (by omega) ?e3 ?e4 ?e5 (w'.heap.size + 1) (by simp) ?_)
      try (case e1 => exact news_sp w' [.int .i64 m, .int .i64 z] _ _ rfl)
      case e2 => first | exact one_two _ _ | exact ⟨rfl, rfl⟩
      case e3 => unfold maxLen; omega
      case e4 => omega
      case e5 => first | omega | (simp; omega)
      intro g cap w4 hown4 hgrow hat hlt4
      have hb4 : Below (w.heap.size + 2) ((w.alloc (.cells #[.int .i64 ax, .int .i64 ay] 59)).alloc (.cells #[.int .i64 bx, .int .i64 b2] 59)) w4 := (hB.alloc (by omega) _).grown hgrow (by simp; omega) (fun q hq => (hown.lt q hq).1)
      have hs4 : w1.heap.size ≤ w4.heap.size := by have := hgrow.size; rw [nblk_alloc] at this; omega
      have HO4 : Hid (w4.ownsRow (w.heap.size + 2) 59 2 (.slice (some ⟨g, 0, none⟩) (j + 1) cap) (j + 1) ((R.take (j + 1)).flatMap spC)) := by
        unfold Hid
        have := push_sp (l := R.take j) (l' := R.take (j + 1)) (p := (m, z)) (m := j + 1) (by rw [← HX.out]; exact hown4) HTk2.out (by rw [List.length_take, hll]; omega)
        rw [List.length_take, hll, Nat.min_eq_left (by omega)] at this
        exact this
      have HNe2 : Hid ((Value.slice (some ⟨g, 0, none⟩) (j + 1) cap).ownBlock ≠ some g2) := by
        unfold Hid
        intro e
        simp [Value.ownBlock] at e
        rcases hat with hat | hat
        · exact HNe.out (by rw [hat, e])
        · omega
      have HBk2 : Hid (w4.heap[g2]? = w1.heap[g2]?) := by
        unfold Hid
        rw [hgrow.block g2 (by rw [nblk_alloc]; omega) (fun e => HNe.out e.symm), blk_alloc_lt _ _ _ (by omega)]
        exact HBk.out
      clear hown4 hgrow hat hown hB a0 a1 e0 e1 cz
      go_wp2
      go_roundw
      case rel => exact ⟨j + 1, by omega, by go_num, hs4, hb4, HO4.out, by omega, fun g3 e3 => by simp at e3; subst e3; exact ⟨HNe2.out, HBk2.out⟩⟩
      case measure => simp [intOf]; omega
    · have e : j = m2 := by omega
      have hd0 : decide ((j : Int) < (m2 : Int)) = false := by simp; omega
      have HO := hide hown
      have HB := hide hB
      have HNil := hide hnil
      clear hown hB hne hnil
      go_wp2
      go_ret
      refine ⟨v, rfl, Below.trans (by (repeat (any_goals (first | exact Below.refl _ _ | assumption | refine Below.drew ?_ | refine below_drewN ?_ _ | refine Below.setCell ?_ ?_ _ | refine Below.alloc ?_ ?_ _ | omega | (simp; done) | (simp; omega))))) (HB.out.mono (by omega)), ?_, fun h => HNil.out (by omega)⟩
      have h := owns_mono (base' := w.heap.size) HO.out (by omega)
      rw [List.take_of_length_le (by omega)] at h
      rw [hll, ← e]
      exact h

theorem atCols_at {ax ay bx b2 : Int} {j : Nat} (hj : j < (Num.linesV ax bx).length) : (Num.colsV ax ay bx b2).take (j + 1) = (Num.colsV ax ay bx b2).take j ++ [(fun z => (z, Num.atV ay b2 ax bx z)) (Num.linesV ax bx)[j]] := by
  have hl : j < (Num.colsV ax ay bx b2).length := by unfold Num.colsV; simpa using hj
  rw [List.take_succ_eq_append_getElem hl]
  simp [Num.colsV]

set_option maxRecDepth 100000 in
set_option maxHeartbeats 2000000 in
theorem atCols_any (ax ay bx b2 : Int) (w : World) (ha : (-16384 ≤ ax ∧ ax ≤ 16384) ∧ -16384 ≤ ay ∧ ay ≤ 16384) (hb : (-16384 ≤ bx ∧ bx ≤ 16384) ∧ -16384 ≤ b2 ∧ b2 ≤ 16384) :
    Calls Tryz.prog 105 #[.agg #[.int .i64 ax, .int .i64 ay], .agg #[.int .i64 bx, .int .i64 b2]] w fun e w' => ∃ v, e = .returned v ∧ Below w.heap.size w w' ∧ w'.ownsRow w.heap.size 59 2 v (Num.colsV ax ay bx b2).length ((Num.colsV ax ay bx b2).flatMap spC) ∧ ((Num.colsV ax ay bx b2).length = 0 → v = .slice none 0 0) := by
  have hmem : ∀ z ∈ Num.linesV ax bx, (ax < z ∧ z < bx) ∨ (bx < z ∧ z < ax) := fun z hz => Num.linesV_mem hz
  have hat0 : ∀ j (hj : j < (Num.linesV ax bx).length), (Num.colsV ax ay bx b2).take (j + 1) = (Num.colsV ax ay bx b2).take j ++ [(fun z => (z, Num.atV ay b2 ax bx z)) (Num.linesV ax bx)[j]] := fun j hj => atCols_at hj
  have hll : (Num.colsV ax ay bx b2).length = (Num.linesV ax bx).length := by unfold Num.colsV; simp
  have hle := Num.linesV_len ax bx
  obtain ⟨i0, hi0, hz0, hz1, hz2⟩ := info_parts info_spot
  have HL := hide (fun w => linesBetween_any ax bx w ha.1 hb.1)
  obtain ⟨L, hL⟩ : ∃ L, L = Num.linesV ax bx := ⟨_, rfl⟩
  obtain ⟨R, hR⟩ : ∃ R, R = Num.colsV ax ay bx b2 := ⟨_, rfl⟩
  rw [← hL] at HL hmem hll hle
  have hat1 : ∀ j (hj : j < L.length), R.take (j + 1) = R.take j ++ [(fun z => (z, Num.atV ay b2 ax bx z)) L[j]] := by rw [hR, hL]; exact hat0
  rw [← hR] at hll ⊢
  have HAt := hide hat1
  have HMem := hide hmem
  clear hL hR hat0 hat1 hmem
  go_enter Tryz.func105, Tryz.ntmps105
  go_wp2_with fail
  refine (HL.out _).mono ?_
  rintro e w1 ⟨vL, rfl, hb1, hown1⟩
  have hs1 : w.heap.size + 1 < w1.heap.size := by have := hb1.size; simp at this; omega
  have hB1 : Below (w.heap.size + 2) ((w.alloc (.cells #[.int .i64 ax, .int .i64 ay] 59)).alloc (.cells #[.int .i64 bx, .int .i64 b2] 59)) w1 := hb1.mono (by simp)
  obtain ⟨ao, capL, rfl, hao⟩ := owns_formN hown1
  have HO1 := hide hown1
  have HAo := hide hao
  obtain ⟨m2, hm2⟩ : ∃ m2, m2 = L.length := ⟨_, rfl⟩
  rw [← hm2] at hle hll ⊢
  have HM2 := hide hm2
  have hbl : ∀ g2, ao = some ⟨g2, 0, none⟩ → w.heap.size + 2 ≤ g2 ∧ g2 < w1.heap.size := fun g2 e => by
    have := hown1.lt g2 (by rw [e]; rfl)
    simp at this; omega
  have HBl := hide hbl
  clear hb1 hown1 hao hm2 hbl
  go_wp2_with fail
  go_loopw [5, 15] (fun v t wr => ∃ j : Nat, j ≤ m2 ∧ t = .int .i64 j ∧ w1.heap.size ≤ wr.heap.size ∧ Below (w.heap.size + 2) ((w.alloc (.cells #[.int .i64 ax, .int .i64 ay] 59)).alloc (.cells #[.int .i64 bx, .int .i64 b2] 59)) wr ∧ wr.ownsRow (w.heap.size + 2) 59 2 v j ((R.take j).flatMap spC) ∧ (j = 0 → v = .slice none 0 0) ∧ ∀ g2, ao = some ⟨g2, 0, none⟩ → v.ownBlock ≠ some g2 ∧ wr.heap[g2]? = w1.heap[g2]?) (fun _ t _ => m2 - (intOf t).toNat)
  case atStart => exact ⟨0, by omega, rfl, Nat.le_refl _, hB1, by simpa using World.ownsRow_nil _ _ _ _, fun _ => rfl, fun g2 _ => ⟨by simp [Value.ownBlock], rfl⟩⟩
  case round =>
    obtain ⟨v, rfl⟩ : ∃ v, v = u5 := ⟨_, rfl⟩
    obtain ⟨j, hj, rfl, hsr, hB, hown, hnil, hne⟩ := hrel
    by_cases hlt : j < m2
    · have hjl : j < L.length := by rw [← HM2.out]; exact hlt
      obtain ⟨g2, rfl⟩ := HAo.out (by omega)
      obtain ⟨hne2, hblk⟩ := hne g2 rfl
      obtain ⟨gl1, gl2⟩ := HBl.out g2 rfl
      have hO2 := owns_of_block (w' := wr) HO1.out (fun b hbb => by simp [Value.ownBlock] at hbb; subst hbb; exact hblk)
      have cz := owns_int hO2 j hjl
      have hzm := HMem.out _ (List.getElem_mem hjl)
      have HTk := hide (HAt.out j hjl)
      obtain ⟨z, hz⟩ : ∃ z, z = L[j] := ⟨_, rfl⟩
      rw [← hz] at cz hzm HTk
      clear hO2 hz
      have zb : -16384 ≤ z ∧ z ≤ 16384 := by omega
      have hpq : ax ≠ bx := by omega
      have HC := hide (fun w => meet_any z ax bx ay b2 w hpq zb ha.1 hb.1 ha.2 hb.2)
      obtain ⟨m, hm⟩ : ∃ m, m = Num.atV ay b2 ax bx z := ⟨_, rfl⟩
      rw [← hm] at HC
      have HTk2 : Hid (R.take (j + 1) = R.take j ++ [(z, m)]) := by unfold Hid; rw [HTk.out, hm]
      have hd1 : decide ((j : Int) < (m2 : Int)) = true := by simp; omega
      have sz0 : w.heap.size < wr.heap.size := by omega
      have sz1 : w.heap.size + 1 < wr.heap.size := by omega
      have a0 : wr.cell? ⟨w.heap.size, 0, none⟩ = some (.int .i64 ax) := (hB.cell (p := ⟨w.heap.size, 0, none⟩) (by simp)).trans (by go_simp)
      have a1 : wr.cell? ⟨w.heap.size, 1, none⟩ = some (.int .i64 ay) := (hB.cell (p := ⟨w.heap.size, 1, none⟩) (by simp)).trans (by go_simp)
      have e0 : wr.cell? ⟨w.heap.size + 1, 0, none⟩ = some (.int .i64 bx) := (hB.cell (p := ⟨w.heap.size + 1, 0, none⟩) (by simp)).trans (by go_simp)
      have e1 : wr.cell? ⟨w.heap.size + 1, 1, none⟩ = some (.int .i64 b2) := (hB.cell (p := ⟨w.heap.size + 1, 1, none⟩) (by simp)).trans (by go_simp)
      obtain ⟨xs, hxs⟩ : ∃ xs, xs = (R.take j).flatMap spC := ⟨_, rfl⟩
      rw [← hxs] at hown
      have HX := hide hxs
      have HNe := hide hne2
      have HBk := hide hblk
      clear hm hzm HTk hxs hne hne2 hblk hnil zb hpq
      go_wp2_with fail
      refine (HC.out _).mono ?_
      rintro e w' ⟨rfl, rfl⟩
      go_wp2_with (at_builtin; refine wpList_append_lies _ rfl _ _ 84 rfl (w.heap.size + 2) 59 i0 (.agg #[.int .i64 0, .int .i64 0]) 2 16 Tryz.underlying84 hi0 hz0 hz1 hz2 rfl (by omega) v j xs rfl (hown.alloc _) ⟨w'.heap.size, 0, none⟩ 1 1 [.int .i64 z, .int .i64 m] rfl rfl ?e1 ?e2 (by omega) ?e3 ?e4 ?e5 (w'.heap.size + 1) (by simp) ?_)
      try (case e1 => exact news_sp w' [.int .i64 z, .int .i64 m] _ _ rfl)
      case e2 => first | exact one_two _ _ | exact ⟨rfl, rfl⟩
      case e3 => unfold maxLen; omega
      case e4 => omega
      case e5 => first | omega | (simp; omega)
      intro g cap w4 hown4 hgrow hat hlt4
      have hb4 : Below (w.heap.size + 2) ((w.alloc (.cells #[.int .i64 ax, .int .i64 ay] 59)).alloc (.cells #[.int .i64 bx, .int .i64 b2] 59)) w4 := (hB.alloc (by omega) _).grown hgrow (by simp; omega) (fun q hq => (hown.lt q hq).1)
      have hs4 : w1.heap.size ≤ w4.heap.size := by have := hgrow.size; rw [nblk_alloc] at this; omega
      have HO4 : Hid (w4.ownsRow (w.heap.size + 2) 59 2 (.slice (some ⟨g, 0, none⟩) (j + 1) cap) (j + 1) ((R.take (j + 1)).flatMap spC)) := by
        unfold Hid
        have := push_sp (l := R.take j) (l' := R.take (j + 1)) (p := (z, m)) (m := j + 1) (by rw [← HX.out]; exact hown4) HTk2.out (by rw [List.length_take, hll]; omega)
        rw [List.length_take, hll, Nat.min_eq_left (by omega)] at this
        exact this
      have HNe2 : Hid ((Value.slice (some ⟨g, 0, none⟩) (j + 1) cap).ownBlock ≠ some g2) := by
        unfold Hid
        intro e
        simp [Value.ownBlock] at e
        rcases hat with hat | hat
        · exact HNe.out (by rw [hat, e])
        · omega
      have HBk2 : Hid (w4.heap[g2]? = w1.heap[g2]?) := by
        unfold Hid
        rw [hgrow.block g2 (by rw [nblk_alloc]; omega) (fun e => HNe.out e.symm), blk_alloc_lt _ _ _ (by omega)]
        exact HBk.out
      clear hown4 hgrow hat hown hB a0 a1 e0 e1 cz
      go_wp2
      go_roundw
      case rel => exact ⟨j + 1, by omega, by go_num, hs4, hb4, HO4.out, by omega, fun g3 e3 => by simp at e3; subst e3; exact ⟨HNe2.out, HBk2.out⟩⟩
      case measure => simp [intOf]; omega
    · have e : j = m2 := by omega
      have hd0 : decide ((j : Int) < (m2 : Int)) = false := by simp; omega
      have HO := hide hown
      have HB := hide hB
      have HNil := hide hnil
      clear hown hB hne hnil
      go_wp2
      go_ret
      refine ⟨v, rfl, Below.trans (by (repeat (any_goals (first | exact Below.refl _ _ | assumption | refine Below.drew ?_ | refine below_drewN ?_ _ | refine Below.setCell ?_ ?_ _ | refine Below.alloc ?_ ?_ _ | omega | (simp; done) | (simp; omega))))) (HB.out.mono (by omega)), ?_, fun h => HNil.out (by omega)⟩
      have h := owns_mono (base' := w.heap.size) HO.out (by omega)
      rw [List.take_of_length_le (by omega)] at h
      rw [hll, ← e]
      exact h

end Go.Proofs.YtkhcjkmifddlbaaGreat
