/- The document's segments: begins, from. -/
import Derived.Test.YtkhcjkmifddlbaaRefSeg
import Derived.Test.YtkhcjkmifddlbaaRingT
namespace Go.Proofs.Ytkhcjkmifddlbaa
open Go.RowKit Go.Deep

theorem onB_there {X Y K : Nat → Int} {n t : Nat} : Num.onB X Y K n t = (thereB K n t && ((Num.stv X Y K n t).2.2 == 0)) := by
  unfold Num.onB
  rw [stp_there]
  cases h : thereB K n t <;> simp

set_option maxRecDepth 100000 in
set_option maxHeartbeats 1000000 in
theorem begins_any (a : Option Addr) (n c t : Nat) (X Y K : Nat → Int) (w : World) (hp : 0 < n) (hn : n ≤ 2097152) (ht : t ≤ 16777216) (hX : ∀ i, i < n → -4096 ≤ X i ∧ X i ≤ 4096) (hY : ∀ i, i < n → -4096 ≤ Y i ∧ Y i ≤ 4096) (hr : RingAt w a n X Y K) :
    Calls Try.prog 120 #[.slice a n c, .int .i64 t] w fun e w' => e = .returned (.bool (Num.onB X Y K n t)) ∧ Below w.heap.size w w' := by
  have HR := hide hr
  have HX := hide hX
  have HY := hide hY
  clear hr hX hY
  rw [onB_there]
  obtain ⟨q, hq⟩ : ∃ q, q = Num.stv X Y K n t := ⟨_, rfl⟩
  obtain ⟨th, hth⟩ : ∃ th, th = thereB K n t := ⟨_, rfl⟩
  rw [← hq, ← hth]
  have HQ := hide hq
  have HT := hide hth
  clear hq hth
  obtain ⟨q0, q1, q2⟩ := q
  go_enter Try.func120, Try.ntmps120
  go_wp2_with fail
  refine (stop_any _ _ _ t X Y K _ hp hn ht HX.out HY.out HR.out).mono ?_
  rw [← HQ.out, ← HT.out]
  rintro e w1 ⟨rfl, hb⟩
  have hs := hb.size
  cases th
  · go_wp2
    go_ret
    exact ⟨rfl, by (repeat (any_goals (first | exact Below.refl _ _ | assumption | refine Below.drew ?_ | refine below_drewN ?_ _ | refine Below.setCell ?_ ?_ _ | refine Below.alloc ?_ ?_ _ | omega | (simp; done) | (simp; omega))))⟩
  · go_wp2
    go_ret
    exact ⟨ret_bool (by simp), by (repeat (any_goals (first | exact Below.refl _ _ | assumption | refine Below.drew ?_ | refine below_drewN ?_ _ | refine Below.setCell ?_ ?_ _ | refine Below.alloc ?_ ?_ _ | omega | (simp; done) | (simp; omega))))⟩

theorem scan_none {X Y K : Nat → Int} {n d k m : Nat} {g : Num.Sg} (h : thereB K n k = false) : Num.scanR X Y K n (d + 1) k g m = Num.scanR X Y K n d (k + 1) g m := by
  simp only [Num.scanR, stp_there, h, if_neg (show ¬ (false = true) by simp)]
theorem scan_on {X Y K : Nat → Int} {n d k m : Nat} {g : Num.Sg} (h : thereB K n k = true) (h0 : ((Num.stv X Y K n k).2.2 == 0) = true) : Num.scanR X Y K n (d + 1) k g m = Num.setTo g (Num.stv X Y K n k) := by
  have h0 : (Num.stv X Y K n k).2.2 = 0 := by simpa using h0
  simp only [Num.scanR, stp_there, h, if_pos, h0]
theorem scan_ctl {X Y K : Nat → Int} {n d k m : Nat} {g : Num.Sg} (h : thereB K n k = true) (h0 : ((Num.stv X Y K n k).2.2 == 0) = false) : Num.scanR X Y K n (d + 1) k g m = Num.scanR X Y K n d (k + 1) (Num.addR g m (Num.stv X Y K n k)) (m + 1) := by
  have h0 : ¬ (Num.stv X Y K n k).2.2 = 0 := by simpa using h0
  simp only [Num.scanR, stp_there, h, if_pos, if_neg h0]

theorem from_results (tmps : Array Value) (W : World) (b : Nat) (g : Num.Sg) (h4 : tmps.getD 4 undef = .pointer (some ⟨b, 0, none⟩)) (hr : W.rowIs b 44 9 (sgF g)) : (results Try.f121 tmps).run Try.prog W = .ok (.agg #[.int .i64 g.k, .int .i64 g.x0, .int .i64 g.y0, .int .i64 g.x1, .int .i64 g.y1, .int .i64 g.x2, .int .i64 g.y2, .int .i64 g.x3, .int .i64 g.y3]) W := by
  obtain ⟨d0, d1, d2, d3, d4, d5, d6, d7, d8⟩ := sg_cells hr
  have h4' : tmps[4]?.getD undef = .pointer (some ⟨b, 0, none⟩) := by simpa using h4
  simp [results, Try.results121, go_sem, h4', d0, d1, d2, d3, d4, d5, d6, d7, d8]

theorem setF_row {w : World} {b : Nat} {t : TypeId} {g : Num.Sg} (h : w.rowIs b t 9 (sgF g)) (p : Int × Int × Int) : (((w.setCell ⟨b, 0, none⟩ (.int .i64 p.2.2)).setCell ⟨b, 3, none⟩ (.int .i64 p.1)).setCell ⟨b, 4, none⟩ (.int .i64 p.2.1)).rowIs b t 9 (sgF (Num.addR g 0 p)) := by
  refine (((h.set 0 _).set 3 _).set 4 _).congr fun q hq => ?_
  rcases (show q = 0 ∨ q = 1 ∨ q = 2 ∨ q = 3 ∨ q = 4 ∨ q = 5 ∨ q = 6 ∨ q = 7 ∨ q = 8 by omega) with rfl | rfl | rfl | rfl | rfl | rfl | rfl | rfl | rfl <;> rfl
theorem setS_row {w : World} {b : Nat} {t : TypeId} {g : Num.Sg} (h : w.rowIs b t 9 (sgF g)) (p : Int × Int × Int) (m : Nat) (hm : m ≠ 0) : (((w.setCell ⟨b, 0, none⟩ (.int .i64 p.2.2)).setCell ⟨b, 5, none⟩ (.int .i64 p.1)).setCell ⟨b, 6, none⟩ (.int .i64 p.2.1)).rowIs b t 9 (sgF (Num.addR g m p)) := by
  refine (((h.set 0 _).set 5 _).set 6 _).congr fun q hq => ?_
  unfold Num.addR
  rw [if_neg hm]
  rcases (show q = 0 ∨ q = 1 ∨ q = 2 ∨ q = 3 ∨ q = 4 ∨ q = 5 ∨ q = 6 ∨ q = 7 ∨ q = 8 by omega) with rfl | rfl | rfl | rfl | rfl | rfl | rfl | rfl | rfl <;> rfl

set_option maxRecDepth 100000 in
set_option maxHeartbeats 1500000 in
theorem from_any (a : Option Addr) (n c t : Nat) (X Y K : Nat → Int) (w : World) (hp : 0 < n) (hn : n ≤ 2097152) (ht : t ≤ 4194304) (hX : ∀ i, i < n → -4096 ≤ X i ∧ X i ≤ 4096) (hY : ∀ i, i < n → -4096 ≤ Y i ∧ Y i ≤ 4096) (hr : RingAt w a n X Y K) :
    Calls Try.prog 121 #[.slice a n c, .int .i64 t] w fun e w' => e = .returned (.agg #[.int .i64 (Num.fromV X Y K n t).k, .int .i64 (Num.fromV X Y K n t).x0, .int .i64 (Num.fromV X Y K n t).y0, .int .i64 (Num.fromV X Y K n t).x1, .int .i64 (Num.fromV X Y K n t).y1, .int .i64 (Num.fromV X Y K n t).x2, .int .i64 (Num.fromV X Y K n t).y2, .int .i64 (Num.fromV X Y K n t).x3, .int .i64 (Num.fromV X Y K n t).y3]) ∧ Below w.heap.size w w' := by
  have HR := hide hr
  have HX := hide hX
  have HY := hide hY
  clear hr hX hY
  obtain ⟨F, hF⟩ : ∃ F, F = Num.fromV X Y K n t := ⟨_, rfl⟩
  rw [← hF]
  have HF := hide hF
  clear hF
  go_enter Try.func121, Try.ntmps121
  go_wp2_with fail
  refine (stop_any _ _ _ t X Y K _ hp hn (by omega) HX.out HY.out (HR.out.below (by (repeat (any_goals (first | exact Below.refl _ _ | assumption | refine Below.drew ?_ | refine below_drewN ?_ _ | refine Below.setCell ?_ ?_ _ | refine Below.alloc ?_ ?_ _ | omega | (simp; done) | (simp; omega))))))).mono ?_
  obtain ⟨p, hq⟩ : ∃ p, p = Num.stv X Y K n t := ⟨_, rfl⟩
  rw [← hq]
  have HQ := hide hq
  clear hq
  obtain ⟨p0, p1, p2⟩ := p
  rintro e w1 ⟨rfl, hb⟩
  have hsz : w.heap.size < w1.heap.size := by have := hb.size; simp at this; omega
  have hb0 : Below w.heap.size w w1 := Below.trans (by (repeat (any_goals (first | exact Below.refl _ _ | assumption | refine Below.drew ?_ | refine below_drewN ?_ _ | refine Below.setCell ?_ ?_ _ | refine Below.alloc ?_ ?_ _ | omega | (simp; done) | (simp; omega))))) (hb.mono (by simp))
  have hR0 : w1.rowIs w.heap.size 44 9 (sgF ⟨0, 0, 0, 0, 0, 0, 0, 0, 0⟩) := row_below (row_sg w ⟨0, 0, 0, 0, 0, 0, 0, 0, 0⟩ 44) hb (by simp)
  have HR0 := hide hR0
  clear hb hR0
  go_wp2_with fail
  go_loopw [9, 10] (fun um uk wr => ∃ (k m : Nat) (sg : Num.Sg), t + 1 ≤ k ∧ k ≤ t + 2 * n + 1 ∧ uk = .int .i64 k ∧ um = .int .i64 m ∧ m ≤ k ∧ Below w.heap.size w wr ∧ w1.heap.size + 1 < wr.heap.size ∧ wr.rowIs w.heap.size 44 9 (sgF ⟨0, 0, 0, 0, 0, 0, 0, 0, 0⟩) ∧ wr.rowIs (w1.heap.size + 1) 44 9 (sgF sg) ∧ F = Num.scanR X Y K n (t + 2 * n + 1 - k) k sg m) (fun _ uk _ => t + 2 * n + 1 - (intOf uk).toNat)
  case atStart =>
    refine ⟨t + 1, 0, Num.initS (p0, p1, p2), by omega, by omega, by go_num, rfl, by omega, by (repeat (any_goals (first | exact Below.refl _ _ | assumption | refine Below.drew ?_ | refine below_drewN ?_ _ | refine Below.setCell ?_ ?_ _ | refine Below.alloc ?_ ?_ _ | omega | (simp; done) | (simp; omega)))), by simp, (HR0.out.alloc _).alloc _, ?_, ?_⟩
    · have h := row_sg (w1.alloc (.cells #[.int .i64 p0, .int .i64 p1] 41)) (Num.initS (p0, p1, p2)) 44
      rw [nblk_alloc] at h
      exact h
    · rw [HF.out]
      unfold Num.fromV
      rw [← HQ.out, show t + 2 * n + 1 - (t + 1) = 2 * n by omega]
  case round =>
    obtain ⟨k, m, sg, hk1, hk2, rfl, rfl, hmk, hb, hGl, hz, hg, hscan⟩ := hrel
    have hs := hb.size
    have HSC := hide hscan
    clear hscan
    by_cases hlt : k ≤ t + 2 * n
    · have hd1 : decide ((k : Int) ≤ (t : Int) + 2 * (n : Int)) = true := by simp; omega
      have hfu : t + 2 * n + 1 - k = (t + 2 * n + 1 - (k + 1)) + 1 := by omega
      have HFu := hide hfu
      have HZ := hide hz
      have HG := hide hg
      clear hfu hz hg
      go_wp2_with fail
      refine (stop_any _ _ _ k X Y K _ hp hn (by omega) HX.out HY.out (HR.out.below hb)).mono ?_
      obtain ⟨q, hq⟩ : ∃ q, q = Num.stv X Y K n k := ⟨_, rfl⟩
      obtain ⟨th, hth⟩ : ∃ th, th = thereB K n k := ⟨_, rfl⟩
      rw [← hq, ← hth]
      have HQK := hide hq
      have HTH := hide hth
      clear hq hth
      obtain ⟨r0, r1, r2⟩ := q
      rintro e w3 ⟨rfl, hb3⟩
      have hs3 := hb3.size
      have HZ3 := hide (row_below HZ.out hb3 (by omega))
      have HG3 := hide (row_below HG.out hb3 (by omega))
      have hb4 : Below w.heap.size w w3 := hb.trans (hb3.mono hs)
      clear hb3 hb
      have hG3 : w1.heap.size + 1 < w3.heap.size := by omega
      have hW3 : w.heap.size < w3.heap.size := by omega
      cases th
      · have HS2 : Hid (F = Num.scanR X Y K n (t + 2 * n + 1 - (k + 1)) (k + 1) sg m) := by
          unfold Hid
          rw [HSC.out, HFu.out, scan_none HTH.out.symm]
        go_wp2
        go_roundw
        case rel => exact ⟨k + 1, m, sg, by omega, by omega, by go_num, rfl, by omega, by (repeat (any_goals (first | exact Below.refl _ _ | assumption | refine Below.drew ?_ | refine below_drewN ?_ _ | refine Below.setCell ?_ ?_ _ | refine Below.alloc ?_ ?_ _ | omega | (simp; done) | (simp; omega)))), by simp; omega, HZ3.out.alloc _, HG3.out.alloc _, HS2.out⟩
        case measure => simp [intOf]; omega
      · cases h0 : (r2 == 0)
        · have HS2 : Hid (F = Num.scanR X Y K n (t + 2 * n + 1 - (k + 1)) (k + 1) (Num.addR sg m (r0, r1, r2)) (m + 1)) := by
            unfold Hid
            rw [HSC.out, HFu.out, scan_ctl HTH.out.symm (by rw [← HQK.out]; exact h0), ← HQK.out]
          obtain ⟨e0, e1, e2, e3, e4, e5, e6, e7, e8⟩ := sg_cells HG3.out
          clear e1 e2 e7 e8
          have y0 := HG3.out.frozen 0
          have y3 := HG3.out.frozen 3
          have y4 := HG3.out.frozen 4
          have y5 := HG3.out.frozen 5
          have y6 := HG3.out.frozen 6
          have y7 := HG3.out.frozen 7
          have y8 := HG3.out.frozen 8
          clear y7 y8
          by_cases hm0 : m = 0
          · subst hm0
            have HN := hide (setF_row HG3.out (r0, r1, r2))
            have HZN := hide (((HZ3.out.setOther (a := ⟨w1.heap.size + 1, 0, none⟩) (by simp; omega) (.int .i64 r2)).setOther (a := ⟨w1.heap.size + 1, 3, none⟩) (by simp; omega) (.int .i64 r0)).setOther (a := ⟨w1.heap.size + 1, 4, none⟩) (by simp; omega) (.int .i64 r1))
            go_wp2
            go_roundw
            case rel => exact ⟨k + 1, 1, Num.addR sg 0 (r0, r1, r2), by omega, by omega, by go_num, rfl, by omega, by (repeat (any_goals (first | exact Below.refl _ _ | assumption | refine Below.drew ?_ | refine below_drewN ?_ _ | refine Below.setCell ?_ ?_ _ | refine Below.alloc ?_ ?_ _ | omega | (simp; done) | (simp; omega)))), by simp; omega, HZN.out.alloc _, HN.out.alloc _, HS2.out⟩
            case measure => simp [intOf]; omega
          · have hm1 : ((m : Int) + 1 == 1) = false := by simp; omega
            have HN := hide (setS_row HG3.out (r0, r1, r2) m hm0)
            have HZN := hide (((HZ3.out.setOther (a := ⟨w1.heap.size + 1, 0, none⟩) (by simp; omega) (.int .i64 r2)).setOther (a := ⟨w1.heap.size + 1, 5, none⟩) (by simp; omega) (.int .i64 r0)).setOther (a := ⟨w1.heap.size + 1, 6, none⟩) (by simp; omega) (.int .i64 r1))
            go_wp2
            go_roundw
            case rel => exact ⟨k + 1, m + 1, Num.addR sg m (r0, r1, r2), by omega, by omega, by go_num, by go_num, by omega, by (repeat (any_goals (first | exact Below.refl _ _ | assumption | refine Below.drew ?_ | refine below_drewN ?_ _ | refine Below.setCell ?_ ?_ _ | refine Below.alloc ?_ ?_ _ | omega | (simp; done) | (simp; omega)))), by simp; omega, HZN.out.alloc _, HN.out.alloc _, HS2.out⟩
            case measure => simp [intOf]; omega
        · have HS2 : Hid (F = Num.setTo sg (r0, r1, r2)) := by
            unfold Hid
            rw [HSC.out, HFu.out, scan_on HTH.out.symm (by rw [← HQK.out]; exact h0), ← HQK.out]
          obtain ⟨e0, e1, e2, e3, e4, e5, e6, e7, e8⟩ := sg_cells HG3.out
          obtain ⟨d0, d1, d2, d3, d4, d5, d6, d7, d8⟩ := sg_cells HZ3.out
          have y0 := HG3.out.frozen 0
          have y3 := HG3.out.frozen 3
          have y4 := HG3.out.frozen 4
          have y5 := HG3.out.frozen 5
          have y6 := HG3.out.frozen 6
          have y7 := HG3.out.frozen 7
          have y8 := HG3.out.frozen 8
          clear y0 y3 y4 y5 y6
          have x0 := HZ3.out.frozen 0
          have x1 := HZ3.out.frozen 1
          have x2 := HZ3.out.frozen 2
          have x3 := HZ3.out.frozen 3
          have x4 := HZ3.out.frozen 4
          have x5 := HZ3.out.frozen 5
          have x6 := HZ3.out.frozen 6
          have x7 := HZ3.out.frozen 7
          have x8 := HZ3.out.frozen 8
          have HFin := hide (set9_row ((HZ3.out.setOther (a := ⟨w1.heap.size + 1, 7, none⟩) (by simp; omega) (.int .i64 r0)).setOther (a := ⟨w1.heap.size + 1, 8, none⟩) (by simp; omega) (.int .i64 r1)) (Num.setTo sg (r0, r1, r2)))
          have HBf : Hid (Below w.heap.size w ((set9 ((w3.setCell ⟨w1.heap.size + 1, 7, none⟩ (.int .i64 r0)).setCell ⟨w1.heap.size + 1, 8, none⟩ (.int .i64 r1)) w.heap.size (Num.setTo sg (r0, r1, r2))).alloc (.cells #[.int .i64 r0, .int .i64 r1] 41))) :=
            (set9_below ((hb4.setCell (p := ⟨w1.heap.size + 1, 7, none⟩) (by simp; omega) _).setCell (p := ⟨w1.heap.size + 1, 8, none⟩) (by simp; omega) _) (Nat.le_refl _) _).alloc (by rw [set9_size, nblk_setCell, nblk_setCell]; omega) _
          have hne : ¬ w.heap.size = w1.heap.size + 1 := by omega
          have hne2 : ¬ w1.heap.size + 1 = w.heap.size := by omega
          go_wp2
          have hfin := HFin.out
          unfold set9 at hfin
          refine bodyPost_ret (from_results _ _ w.heap.size (Num.setTo sg (r0, r1, r2)) (by simp) (by exact hfin.alloc _)) (by rfl) ⟨by rw [HS2.out], ?_⟩
          have hbf := HBf.out
          unfold set9 at hbf
          exact hbf
    · have hfu : t + 2 * n + 1 - k = 0 := by omega
      have HS2 : Hid (F = sg) := by
        unfold Hid
        rw [HSC.out, hfu]; rfl
      have hd0 : decide ((k : Int) ≤ (t : Int) + 2 * (n : Int)) = false := by simp; omega
      have HZ := hide hz
      have HG := hide hg
      clear hfu hz hg
      obtain ⟨e0, e1, e2, e3, e4, e5, e6, e7, e8⟩ := sg_cells HG.out
      obtain ⟨d0, d1, d2, d3, d4, d5, d6, d7, d8⟩ := sg_cells HZ.out
      have x0 := HZ.out.frozen 0
      have x1 := HZ.out.frozen 1
      have x2 := HZ.out.frozen 2
      have x3 := HZ.out.frozen 3
      have x4 := HZ.out.frozen 4
      have x5 := HZ.out.frozen 5
      have x6 := HZ.out.frozen 6
      have x7 := HZ.out.frozen 7
      have x8 := HZ.out.frozen 8
      have HFin := hide (set9_row HZ.out sg)
      have HBf := hide (set9_below hb (Nat.le_refl _) sg)
      have hne : ¬ w.heap.size = w1.heap.size + 1 := by omega
      have hne2 : ¬ w1.heap.size + 1 = w.heap.size := by omega
      have hW3 : w.heap.size < wr.heap.size := by omega
      go_wp2
      have hfin := HFin.out
      unfold set9 at hfin
      refine bodyPost_ret (from_results _ _ w.heap.size sg (by simp) (by exact hfin)) (by rfl) ⟨by rw [HS2.out], ?_⟩
      have hbf := HBf.out
      unfold set9 at hbf
      exact hbf
end Go.Proofs.Ytkhcjkmifddlbaa
