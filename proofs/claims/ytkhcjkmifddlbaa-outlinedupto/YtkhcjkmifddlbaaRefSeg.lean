/- The document's segments: stop, begins, from. -/
import Derived.Test.YtkhcjkmifddlbaaRefChk
import Derived.Test.YtkhcjkmifddlbaaSegsB
import Derived.BigRegion
namespace Go.Proofs.Ytkhcjkmifddlbaa
open Go.RowKit

def thereB (K : Nat → Int) (n t : Nat) : Bool := if t % 2 = 0 then true else (K (t / 2 % n) == 1 && K ((t / 2 + 1) % n) == 1)
theorem stp_there {X Y K : Nat → Int} {n t : Nat} : Num.stp X Y K n t = if thereB K n t = true then some (Num.stv X Y K n t) else none := by
  unfold Num.stp thereB Num.stv
  by_cases h : t % 2 = 0
  · simp [h]
  · simp only [if_neg h]
    by_cases h2 : K (t / 2 % n) = 1 ∧ K ((t / 2 + 1) % n) = 1
    · rw [if_pos h2, if_pos (by simp [h2])]
    · rw [if_neg h2, if_neg (by simpa using h2)]

set_option maxRecDepth 100000 in
set_option maxHeartbeats 2000000 in
theorem stop_any (a : Option Addr) (n c t : Nat) (X Y K : Nat → Int) (w : World) (hp : 0 < n) (hn : n ≤ 2097152) (ht : t ≤ 16777216) (hX : ∀ i, i < n → -4096 ≤ X i ∧ X i ≤ 4096) (hY : ∀ i, i < n → -4096 ≤ Y i ∧ Y i ≤ 4096) (hr : RingAt w a n X Y K) :
    Calls Try.prog 147 #[.slice a n c, .int .i64 t] w fun e w' => e = .returned (.tuple #[.agg #[.int .i64 (Num.stv X Y K n t).1, .int .i64 (Num.stv X Y K n t).2.1], .int .i64 (Num.stv X Y K n t).2.2, .bool (thereB K n t)]) ∧ Below w.heap.size w w' := by
  have HR := hide hr
  have i1 : t / 2 % n < n := Nat.mod_lt _ hp
  have i2 : (t / 2 + 1) % n < n := Nat.mod_lt _ hp
  obtain ⟨bX, bX'⟩ := hX _ i1
  obtain ⟨bY, bY'⟩ := hY _ i1
  obtain ⟨cX, cX'⟩ := hX _ i2
  obtain ⟨cY, cY'⟩ := hY _ i2
  clear hr hX hY
  by_cases hev : t % 2 = 0
  · have e1 : Num.stv X Y K n t = (2 * X (t / 2 % n), 2 * Y (t / 2 % n), K (t / 2 % n)) := by unfold Num.stv; rw [if_pos hev]
    have e2 : thereB K n t = true := by unfold thereB; rw [if_pos hev]
    rw [e1, e2]
    clear e1 e2
    obtain ⟨p0, h0⟩ : ∃ p0, p0 = X (t / 2 % n) := ⟨_, rfl⟩
    obtain ⟨p1, h1⟩ : ∃ p1, p1 = Y (t / 2 % n) := ⟨_, rfl⟩
    obtain ⟨p2, h2⟩ : ∃ p2, p2 = K (t / 2 % n) := ⟨_, rfl⟩
    rw [← h0, ← h1, ← h2]
    rw [← h0] at bX bX'
    rw [← h1] at bY bY'
    have H0 := hide h0
    have H1 := hide h1
    have H2 := hide h2
    clear h0 h1 h2
    have hev1 : ((t : Int) % 2 == 0) = true := by simp; omega
    go_enter Try.func147, Try.ntmps147
    go_wp2_with fail
    refine (at_any _ _ _ X Y K _ _ (by omega) (by omega) hp (by omega) (HR.out.below (by (repeat (any_goals (first | exact Below.refl _ _ | assumption | refine Below.drew ?_ | refine below_drewN ?_ _ | refine Below.setCell ?_ ?_ _ | refine Below.alloc ?_ ?_ _ | omega | (simp; done) | (simp; omega))))))).mono ?_
    rw [show ((t : Int) / 2).toNat = t / 2 by omega]
    rw [← H0.out, ← H1.out, ← H2.out]
    rintro e w1 ⟨rfl, hb⟩
    obtain ⟨hc, hfz⟩ := bcell hb
    have q0 : w1.cell? ⟨w.heap.size, 0, none⟩ = some (.int .i64 0) := by rw [hc _ _ (by simp)]; go_simp
    have q1 : w1.cell? ⟨w.heap.size, 1, none⟩ = some (.int .i64 0) := by rw [hc _ _ (by simp)]; go_simp
    have z0 : w1.frozen? ⟨w.heap.size, 0, none⟩ = false := by rw [hfz _ _ (by simp)]; go_simp
    have z1 : w1.frozen? ⟨w.heap.size, 1, none⟩ = false := by rw [hfz _ _ (by simp)]; go_simp
    have hz : w.heap.size < w1.heap.size := by have := hb.size; simp at this; omega
    have hb0 : Below w.heap.size w w1 := Below.trans (by (repeat (any_goals (first | exact Below.refl _ _ | assumption | refine Below.drew ?_ | refine below_drewN ?_ _ | refine Below.setCell ?_ ?_ _ | refine Below.alloc ?_ ?_ _ | omega | (simp; done) | (simp; omega))))) (hb.mono (by simp))
    have HB := hide hb0
    clear hb hc hfz hb0
    have m1 := wrap_ok (2 * p0) (by omega) (by omega)
    have m2 := wrap_ok (2 * p1) (by omega) (by omega)
    go_wp2_with fail
    go_region
    go_wp2
    have := HB.out
    refine bodyPost_ret (v := .tuple #[.agg #[.int .i64 (2 * p0), .int .i64 (2 * p1)], .int .i64 p2, .bool true]) (by simp [results, Try.results147, go_sem, q0, q1, hz]) rfl ⟨rfl, ?_⟩
    (repeat (any_goals (first | exact Below.refl _ _ | assumption | refine Below.drew ?_ | refine below_drewN ?_ _ | refine Below.setCell ?_ ?_ _ | refine Below.alloc ?_ ?_ _ | omega | (simp; done) | (simp; omega))))
  · have e1 : Num.stv X Y K n t = (X (t / 2 % n) + X ((t / 2 + 1) % n), Y (t / 2 % n) + Y ((t / 2 + 1) % n), 0) := by unfold Num.stv; rw [if_neg hev]
    have e2 : thereB K n t = (K (t / 2 % n) == 1 && K ((t / 2 + 1) % n) == 1) := by unfold thereB; rw [if_neg hev]
    rw [e1, e2]
    clear e1 e2
    obtain ⟨p0, h0⟩ : ∃ p0, p0 = X (t / 2 % n) := ⟨_, rfl⟩
    obtain ⟨p1, h1⟩ : ∃ p1, p1 = Y (t / 2 % n) := ⟨_, rfl⟩
    obtain ⟨p2, h2⟩ : ∃ p2, p2 = K (t / 2 % n) := ⟨_, rfl⟩
    rw [← h0, ← h1, ← h2]
    rw [← h0] at bX bX'
    rw [← h1] at bY bY'
    have H0 := hide h0
    have H1 := hide h1
    have H2 := hide h2
    clear h0 h1 h2
    obtain ⟨r0, h0⟩ : ∃ r0, r0 = X ((t / 2 + 1) % n) := ⟨_, rfl⟩
    obtain ⟨r1, h1⟩ : ∃ r1, r1 = Y ((t / 2 + 1) % n) := ⟨_, rfl⟩
    obtain ⟨r2, h2⟩ : ∃ r2, r2 = K ((t / 2 + 1) % n) := ⟨_, rfl⟩
    rw [← h0, ← h1, ← h2]
    rw [← h0] at cX cX'
    rw [← h1] at cY cY'
    have G0 := hide h0
    have G1 := hide h1
    have G2 := hide h2
    clear h0 h1 h2
    have hev1 : ((t : Int) % 2 == 0) = false := by simp; omega
    go_enter Try.func147, Try.ntmps147
    go_wp2_with fail
    refine (at_any _ _ _ X Y K _ _ (by omega) (by omega) hp (by omega) (HR.out.below (by (repeat (any_goals (first | exact Below.refl _ _ | assumption | refine Below.drew ?_ | refine below_drewN ?_ _ | refine Below.setCell ?_ ?_ _ | refine Below.alloc ?_ ?_ _ | omega | (simp; done) | (simp; omega))))))).mono ?_
    rw [show ((t : Int) / 2).toNat = t / 2 by omega]
    rw [← H0.out, ← H1.out, ← H2.out]
    rintro e w1 ⟨rfl, hb⟩
    obtain ⟨hc, hfz⟩ := bcell hb
    have q0 : w1.cell? ⟨w.heap.size, 0, none⟩ = some (.int .i64 0) := by rw [hc _ _ (by simp)]; go_simp
    have q1 : w1.cell? ⟨w.heap.size, 1, none⟩ = some (.int .i64 0) := by rw [hc _ _ (by simp)]; go_simp
    have z0 : w1.frozen? ⟨w.heap.size, 0, none⟩ = false := by rw [hfz _ _ (by simp)]; go_simp
    have z1 : w1.frozen? ⟨w.heap.size, 1, none⟩ = false := by rw [hfz _ _ (by simp)]; go_simp
    have hz : w.heap.size < w1.heap.size := by have := hb.size; simp at this; omega
    have hb0 : Below w.heap.size w w1 := Below.trans (by (repeat (any_goals (first | exact Below.refl _ _ | assumption | refine Below.drew ?_ | refine below_drewN ?_ _ | refine Below.setCell ?_ ?_ _ | refine Below.alloc ?_ ?_ _ | omega | (simp; done) | (simp; omega))))) (hb.mono (by simp))
    have HB := hide hb0
    clear hb hc hfz hb0
    go_wp2_with fail
    refine (at_any _ _ _ X Y K _ _ (by omega) (by omega) hp (by omega) (HR.out.below (by have := HB.out; (repeat (any_goals (first | exact Below.refl _ _ | assumption | refine Below.drew ?_ | refine below_drewN ?_ _ | refine Below.setCell ?_ ?_ _ | refine Below.alloc ?_ ?_ _ | omega | (simp; done) | (simp; omega))))))).mono ?_
    rw [show ((t : Int) / 2 + 1).toNat = t / 2 + 1 by omega]
    rw [← G0.out, ← G1.out, ← G2.out]
    rintro e w2 ⟨rfl, hb⟩
    obtain ⟨hc, hfz⟩ := bcell hb
    have o0 : w2.cell? ⟨w.heap.size, 0, none⟩ = some (.int .i64 0) := by rw [hc _ _ (by simp; omega)]; go_simp
    have o1 : w2.cell? ⟨w.heap.size, 1, none⟩ = some (.int .i64 0) := by rw [hc _ _ (by simp; omega)]; go_simp
    have y0 : w2.frozen? ⟨w.heap.size, 0, none⟩ = false := by rw [hfz _ _ (by simp; omega)]; go_simp
    have y1 : w2.frozen? ⟨w.heap.size, 1, none⟩ = false := by rw [hfz _ _ (by simp; omega)]; go_simp
    have d0 : w2.cell? ⟨w1.heap.size, 0, none⟩ = some (.int .i64 p0) := by rw [hc _ _ (by simp)]; go_simp
    have d1 : w2.cell? ⟨w1.heap.size, 1, none⟩ = some (.int .i64 p1) := by rw [hc _ _ (by simp)]; go_simp
    have d2 : w2.cell? ⟨w1.heap.size, 2, none⟩ = some (.int .i64 p2) := by rw [hc _ _ (by simp)]; go_simp
    have hz2 : w1.heap.size < w2.heap.size := by have := hb.size; simp at this; omega
    have hz3 : w.heap.size < w2.heap.size := by omega
    have hb0 : Below w.heap.size w w2 := Below.trans (by have := HB.out; (repeat (any_goals (first | exact Below.refl _ _ | assumption | refine Below.drew ?_ | refine below_drewN ?_ _ | refine Below.setCell ?_ ?_ _ | refine Below.alloc ?_ ?_ _ | omega | (simp; done) | (simp; omega))))) (hb.mono (by simp; omega))
    have HB2 := hide hb0
    clear hb hc hfz hb0 q0 q1 z0 z1 HB
    have m1 := wrap_ok (p0 + r0) (by omega) (by omega)
    have m2 := wrap_ok (p1 + r1) (by omega) (by omega)
    have fin : ∀ (bb : Bool), (p2 == 1 && r2 == 1) = bb → True := fun _ _ => trivial
    clear fin
    cases hk : (p2 == 1)
    · go_wp2_with fail
      go_region
      go_wp2
      have := HB2.out
      refine bodyPost_ret (v := .tuple #[.agg #[.int .i64 (p0 + r0), .int .i64 (p1 + r1)], .int .i64 0, .bool false]) (by simp [results, Try.results147, go_sem, o0, o1, hz3]) rfl ⟨by simp [hk], ?_⟩
      (repeat (any_goals (first | exact Below.refl _ _ | assumption | refine Below.drew ?_ | refine below_drewN ?_ _ | refine Below.setCell ?_ ?_ _ | refine Below.alloc ?_ ?_ _ | omega | (simp; done) | (simp; omega))))
    · cases hk2 : (r2 == 1)
      · go_wp2_with fail
        go_region
        go_wp2
        have := HB2.out
        refine bodyPost_ret (v := .tuple #[.agg #[.int .i64 (p0 + r0), .int .i64 (p1 + r1)], .int .i64 0, .bool false]) (by simp [results, Try.results147, go_sem, o0, o1, hz3]) rfl ⟨by simp [hk, hk2], ?_⟩
        (repeat (any_goals (first | exact Below.refl _ _ | assumption | refine Below.drew ?_ | refine below_drewN ?_ _ | refine Below.setCell ?_ ?_ _ | refine Below.alloc ?_ ?_ _ | omega | (simp; done) | (simp; omega))))
      · go_wp2_with fail
        go_region
        go_wp2
        have := HB2.out
        refine bodyPost_ret (v := .tuple #[.agg #[.int .i64 (p0 + r0), .int .i64 (p1 + r1)], .int .i64 0, .bool true]) (by simp [results, Try.results147, go_sem, o0, o1, hz3]) rfl ⟨by simp [hk, hk2], ?_⟩
        (repeat (any_goals (first | exact Below.refl _ _ | assumption | refine Below.drew ?_ | refine below_drewN ?_ _ | refine Below.setCell ?_ ?_ _ | refine Below.alloc ?_ ?_ _ | omega | (simp; done) | (simp; omega))))
end Go.Proofs.Ytkhcjkmifddlbaa
