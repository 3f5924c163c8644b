/- The segments of a ring: ringSegments, walked. -/
import Derived.Test.YtkhcjkmifddlbaaRingT
namespace Go.Proofs.Ytkhcjkmifddlbaa
open Go.RowKit Go.Deep

set_option maxRecDepth 100000 in
set_option maxHeartbeats 8000000 in
theorem ringSegments_any (a : Option Addr) (n c : Nat) (X Y K : Nat → Int) (w : World) (hn : n ≤ 2097152) (h2 : 2 ≤ n) (hs : ∀ i, i < n → Num.badB K n i = false) (hX : ∀ i, i < n → -4096 ≤ X i ∧ X i ≤ 4096) (hY : ∀ i, i < n → -4096 ≤ Y i ∧ Y i ≤ 4096) (hr : RingAt w a n X Y K) :
    Calls Try.prog 146 #[.slice a n c] w fun e w' => ∃ v, e = .returned v ∧ Below w.heap.size w w' ∧ w'.ownsRow w.heap.size 44 9 v (Num.refRing X Y K n).length ((Num.refRing X Y K n).flatMap sgC) := by
  obtain ⟨f, p, hp, hp0, hpb, hwalk⟩ := Num.segs_eq (X := X) (Y := Y) h2 hs
  have HR := hide hr
  have HX := hide hX
  have HY := hide hY
  have hlen := impU_len X Y K n n
  have hpos := imp_pos (X := X) (Y := Y) (K := K) (n := n) (by omega)
  clear hr hX hY hs
  obtain ⟨R, hR⟩ : ∃ R, R = impU X Y K n n := ⟨_, rfl⟩
  have hR2 : Num.imp X Y K n = R := by rw [hR]; rfl
  rw [hR2] at hp hpb hwalk
  rw [← hR] at hlen hpos
  have hf := first_of hp hp0 hpb
  have hfl : f < R.length := by
    rcases Nat.lt_or_ge f R.length with h | h
    · exact h
    · rw [List.getElem?_eq_none h] at hp; cases hp
  have hpg : p = (gX R f, gY R f, gK R f) := by rw [gAll hfl]; rw [List.getElem?_eq_getElem hfl] at hp; simpa using hp.symm
  obtain ⟨T, hT⟩ : ∃ T, T = Num.refRing X Y K n := ⟨_, rfl⟩
  rw [← hT] at hwalk ⊢
  have HW := hide hwalk
  have HF := hide hf
  have HPG := hide hpg
  have HRR := hide hR
  clear hwalk hf hpg hp hp0 hpb hT hR2 hR
  obtain ⟨r, hr⟩ : ∃ r, r = R.length := ⟨_, rfl⟩
  have HRL := hide hr
  go_enter Try.func146, Try.ntmps146
  go_wp2_with fail
  refine (withImplied_any _ _ _ X Y K _ hn HX.out HY.out HR.out).mono ?_
  rw [← HRR.out]
  rintro e w1 ⟨v, rfl, hb1, hown1⟩
  obtain ⟨g, cap, rfl, hgb, hgl⟩ := hown1.form hpos
  have HR1 := hide (owns_ring hown1)
  rw [← hr] at hpos hlen hfl
  rw [← hr]
  have hs1 := hb1.size
  clear hown1 hr
  go_wp2_with fail
  refine (firstOn_any _ _ _ (gX R) (gY R) (gK R) _ (by omega) (by rw [HRL.out]; exact HR1.out)).mono ?_
  rw [HRL.out, HF.out, ← HRL.out]
  rintro e w2 ⟨rfl, hb2⟩
  have hs2 := hb2.size
  have HR2 := hide (HR1.out.below hb2)
  have hb02 : Below w.heap.size w w2 := hb1.trans (hb2.mono hs1)
  clear hb1 hb2
  have hneg : ((f : Int) == -1) = false := by simp
  rcases HR2.out with h | ⟨b, off, hbo, hc⟩
  · have := HRL.out; omega
  simp at hbo
  obtain ⟨rfl, rfl⟩ := hbo
  simp only [Nat.zero_add] at hc
  rw [← HRL.out] at hc
  obtain ⟨c0, c1, c2⟩ := hc f hfl
  have HC := hide hc
  clear hc
  have hgl2 : g < w2.heap.size := by omega
  have g0 : (0 : Int) ≤ (f : Int) := by omega
  have g1 : (f : Int) < (r : Int) := by omega
  go_wp2_with (go_at_call 161; refine (spot_any _ _ _ _).mono ?_; rintro e w' ⟨rfl, rfl⟩)
  go_loopw [5, 7, 24] (fun v i t wr => ∃ (j : Nat) (sg : Num.Sg) (out : List Num.Sg), j ≤ r ∧ t = .int .i64 j ∧ i = .int .i64 (wrp r (f + j)) ∧ Below w2.heap.size w2 wr ∧ wr.rowIs (w2.heap.size + 1 + 1) 44 9 (sgF sg) ∧
      wr.ownsRow (w2.heap.size + 1 + 1 + 1) 44 9 v out.length (out.flatMap sgC) ∧ out.length ≤ j ∧ out ++ Num.walkL ((R.drop (f + 1) ++ R.take (f + 1)).drop j) sg = T) (fun _ _ t _ => r - (intOf t).toNat)
  case atStart =>
    refine ⟨0, Num.initS p, [], by omega, rfl, by simp [wrp, hfl], by (repeat (any_goals (first | exact Below.refl _ _ | assumption | refine Below.drew ?_ | refine below_drewN ?_ _ | refine Below.setCell ?_ ?_ _ | refine Below.alloc ?_ ?_ _ | omega | (simp; done) | (simp; omega)))), ?_, World.ownsRow_nil _ _ _ _, by simp, by simpa using HW.out⟩
    rw [HPG.out]
    have h := row_sg ((w2.alloc (.cells #[.int .i64 (gX R f), .int .i64 (gY R f), .int .i64 (gK R f)] 133)).alloc (.cells #[.int .i64 (gX R f), .int .i64 (gY R f)] 41)) (Num.initS (gX R f, gY R f, gK R f)) 44
    rw [nblk_alloc, nblk_alloc] at h
    exact h
  case round =>
    obtain ⟨v, rfl⟩ : ∃ v, v = u5 := ⟨_, rfl⟩
    obtain ⟨j, sg, out, hj, rfl, rfl, hb, hrow, hown, hol, hwk⟩ := hrel
    have hsz := hb.size
    have HWK := hide hwk
    clear hwk c0 c1 c2
    by_cases hlt : j < r
    · have hd1 : decide ((j : Int) < (r : Int)) = true := by simp; omega
      have hxl := wrp_lt hfl (show j ≤ r by omega)
      have hys := wrp_succ hfl hlt
      have hyl := wrp_lt hfl (show j + 1 ≤ r by omega)
      have hrot := rot_drop (R := R) (f := f) (j := j) (by rw [← HRL.out]; exact hfl) (by rw [← HRL.out]; exact hlt)
      rw [← HRL.out] at hrot
      obtain ⟨x, hx⟩ : ∃ x, x = wrp r (f + j) := ⟨_, rfl⟩
      obtain ⟨y, hy⟩ : ∃ y, y = wrp r (f + (j + 1)) := ⟨_, rfl⟩
      rw [← hx] at hxl hys ⊢
      rw [← hy] at hys hyl hrot
      have HY2 := hide hy
      have HRot := hide hrot
      have hGl := hrow.lt
      obtain ⟨q0, q1, q2, q3, q4, q5, q6, q7, q8⟩ := sg_cells hrow
      have z0 := hrow.frozen 0
      have z1 := hrow.frozen 1
      have z2 := hrow.frozen 2
      have z3 := hrow.frozen 3
      have z4 := hrow.frozen 4
      have z5 := hrow.frozen 5
      have z6 := hrow.frozen 6
      have z7 := hrow.frozen 7
      have z8 := hrow.frozen 8
      have hcy : wr.cell? ⟨g, y * 3, none⟩ = some (.int .i64 (gX R y)) ∧ wr.cell? ⟨g, y * 3 + 1, none⟩ = some (.int .i64 (gY R y)) ∧ wr.cell? ⟨g, y * 3 + 2, none⟩ = some (.int .i64 (gK R y)) := by
        obtain ⟨u0, u1, u2⟩ := HC.out y hyl
        exact ⟨(hb.cell (p := ⟨g, _, none⟩) hgl2).trans u0, (hb.cell (p := ⟨g, _, none⟩) hgl2).trans u1, (hb.cell (p := ⟨g, _, none⟩) hgl2).trans u2⟩
      obtain ⟨d0, d1, d2⟩ := hcy
      have hgw : g < wr.heap.size := by omega
      have HRow := hide hrow
      clear hrow hrot hy hx
      by_cases hw : x + 1 = r
      · rw [if_pos hw] at hys
        subst hys
        simp only [Nat.zero_mul, Nat.zero_add] at d0 d1 d2
        have hw1 : ((x : Int) + 1 == (r : Int)) = true := by simp; omega
        have gy : (0 : Int) < (r : Int) := by omega
        cases hk0 : (gK R 0 == 0)
        · have HW2 : Hid (out ++ Num.walkL ((R.drop (f + 1) ++ R.take (f + 1)).drop (j + 1)) (Num.addP sg (gX R 0, gY R 0, gK R 0)) = T) := by
            have := HWK.out
            rw [HRot.out, walk_ctl (by exact hk0)] at this
            exact this
          go_wp2_with fail
          refine (withControl_any sg (gX R 0, gY R 0, gK R 0) _).mono ?_
          rintro e w3 ⟨rfl, hb3⟩
          have hbw : Below wr.heap.size wr w3 := Below.trans (by (repeat (any_goals (first | exact Below.refl _ _ | assumption | refine Below.drew ?_ | refine below_drewN ?_ _ | refine Below.setCell ?_ ?_ _ | refine Below.alloc ?_ ?_ _ | omega | (simp; done) | (simp; omega))))) (hb3.mono (by simp))
          have HO := hide (owns_set9 hown hbw (G := w2.heap.size + 1 + 1) (by omega) (Num.addP sg (gX R 0, gY R 0, gK R 0)))
          have HR3 := hide (row_below HRow.out hbw hGl)
          have hs3 := hbw.size
          obtain ⟨e0, e1, e2, e3, e4, e5, e6, e7, e8⟩ := sg_cells HR3.out
          have y0 := HR3.out.frozen 0
          have y1 := HR3.out.frozen 1
          have y2 := HR3.out.frozen 2
          have y3 := HR3.out.frozen 3
          have y4 := HR3.out.frozen 4
          have y5 := HR3.out.frozen 5
          have y6 := HR3.out.frozen 6
          have y7 := HR3.out.frozen 7
          have y8 := HR3.out.frozen 8
          have hb4 : Below w2.heap.size w2 w3 := hb.trans (hbw.mono hsz)
          have HS9 := hide (set9_row HR3.out (Num.addP sg (gX R 0, gY R 0, gK R 0)))
          have HB9 := hide (set9_below hb4 (b := w2.heap.size + 1 + 1) (by omega) (Num.addP sg (gX R 0, gY R 0, gK R 0)))
          clear hb3 hbw hown hb q0 q1 q2 q3 q4 q5 q6 q7 q8 z0 z1 z2 z3 z4 z5 z6 z7 z8 d0 d1 d2
          obtain ⟨ag, hag⟩ : ∃ ag, ag = Num.addP sg (gX R 0, gY R 0, gK R 0) := ⟨_, rfl⟩
          rw [← hag] at HO HS9 HW2 HB9 ⊢
          clear hag
          go_wp2
          go_roundw
          case rel => exact ⟨j + 1, ag, out, by omega, by go_num, by rw [← HY2.out]; rfl, HB9.out, HS9.out, HO.out, by omega, HW2.out⟩
          case measure => simp [intOf]; omega
        · go_wp2_with fail
          refine (spot_any _ _ _ _).mono ?_
          rintro e w3 ⟨rfl, hw3⟩
          have hbw : Below wr.heap.size wr w3 := by rw [hw3]; (repeat (any_goals (first | exact Below.refl _ _ | assumption | refine Below.drew ?_ | refine below_drewN ?_ _ | refine Below.setCell ?_ ?_ _ | refine Below.alloc ?_ ?_ _ | omega | (simp; done) | (simp; omega))))
          clear hw3
          have HR3 := hide (row_below HRow.out hbw hGl)
          have hs3 := hbw.size
          obtain ⟨e0, e1, e2, e3, e4, e5, e6, e7, e8⟩ := sg_cells HR3.out
          have y7 := HR3.out.frozen 7
          have y8 := HR3.out.frozen 8
          have hG3 : w2.heap.size + 1 + 1 < w3.heap.size := by omega
          have hown3 := owns_of_block hown (fun b hbb => hbw.block b (hown.lt b hbb).2)
          have hb4 : Below w2.heap.size w2 w3 := hb.trans (hbw.mono hsz)
          clear hbw hown hb q0 q1 q2 q3 q4 q5 q6 q7 q8 z0 z1 z2 z3 z4 z5 z6 z7 z8 d0 d1 d2
          obtain ⟨i0, hi0, hz0, hz1, hz2⟩ := info_parts info_seg
          obtain ⟨ol, hol2⟩ : ∃ ol, ol = out.length := ⟨_, rfl⟩
          obtain ⟨xs, hxs⟩ : ∃ xs, xs = out.flatMap sgC := ⟨_, rfl⟩
          rw [← hol2] at hol
          rw [← hol2, ← hxs] at hown3
          have HOL := hide hol2
          have HXS := hide hxs
          clear hol2 hxs
          have hown4 : ((w3.setCell ⟨w2.heap.size + 1 + 1, 7, none⟩ (.int .i64 (gX R 0))).setCell ⟨w2.heap.size + 1 + 1, 8, none⟩ (.int .i64 (gY R 0))).ownsRow (w2.heap.size + 1 + 1 + 1) 44 9 v ol xs :=
            owns_of_block hown3 (fun b hbb => by
              have := (hown3.lt b hbb).1
              rw [set_other (by omega), set_other (by omega)])
          go_wp2_with (at_builtin; refine wpList_append_lies _ rfl _ _ 102 rfl (w2.heap.size + 1 + 1 + 1) 44 i0 (.agg #[.int .i64 0, .int .i64 0, .int .i64 0, .int .i64 0, .int .i64 0, .int .i64 0, .int .i64 0, .int .i64 0, .int .i64 0]) 9 72 Try.underlying102 hi0 hz0 hz1 hz2 rfl (by omega) v ol xs rfl (hown4.alloc _) ⟨w3.heap.size, 0, none⟩ 1 1 [.int .i64 sg.k, .int .i64 sg.x0, .int .i64 sg.y0, .int .i64 sg.x1, .int .i64 sg.y1, .int .i64 sg.x2, .int .i64 sg.y2, .int .i64 (gX R 0), .int .i64 (gY R 0)] rfl rfl ?m1 ?m2 (by omega) ?m3 ?m4 ?m5 (w3.heap.size + 1) (by simp) ?_)
          case m1 => exact news_new ((w3.setCell ⟨w2.heap.size + 1 + 1, 7, none⟩ (.int .i64 (gX R 0))).setCell ⟨w2.heap.size + 1 + 1, 8, none⟩ (.int .i64 (gY R 0))) [.int .i64 sg.k, .int .i64 sg.x0, .int .i64 sg.y0, .int .i64 sg.x1, .int .i64 sg.y1, .int .i64 sg.x2, .int .i64 sg.y2, .int .i64 (gX R 0), .int .i64 (gY R 0)] _ _ (by simp)
          case m2 => exact one_sg (Num.setTo sg (gX R 0, gY R 0, gK R 0))
          case m3 => unfold maxLen; omega
          case m4 => omega
          case m5 => simp; omega
          intro g2 cap2 w4 hown5 hgrow hat hlt4
          have hne : some (w2.heap.size + 1 + 1) ≠ v.ownBlock := fun e => by have := (hown3.lt _ e.symm).1; omega
          have hR4 : w4.rowIs (w2.heap.size + 1 + 1) 44 9 (sgF (Num.setTo sg (gX R 0, gY R 0, gK R 0))) :=
            ((set2_row HR3.out (gX R 0, gY R 0, gK R 0)).alloc _).of_block (hgrow.block _ (by simp; omega) hne)
          have hb5 : Below w2.heap.size w2 w4 := Below.grown (w := ((w3.setCell ⟨w2.heap.size + 1 + 1, 7, none⟩ (.int .i64 (gX R 0))).setCell ⟨w2.heap.size + 1 + 1, 8, none⟩ (.int .i64 (gY R 0))).alloc _) (by (repeat (any_goals (first | exact Below.refl _ _ | assumption | refine Below.drew ?_ | refine below_drewN ?_ _ | refine Below.setCell ?_ ?_ _ | refine Below.alloc ?_ ?_ _ | omega | (simp; done) | (simp; omega))))) hgrow (by simp; omega) (fun q hq => by have := (hown3.lt q hq).1; omega)
          have hO6 : w4.ownsRow (w2.heap.size + 1 + 1 + 1) 44 9 (.slice (some ⟨g2, 0, none⟩) (ol + 1) cap2) (out ++ [Num.setTo sg (gX R 0, gY R 0, gK R 0)]).length ((out ++ [Num.setTo sg (gX R 0, gY R 0, gK R 0)]).flatMap sgC) :=
            push_sg (by rw [← HXS.out]; exact hown5) (by rw [HOL.out])
          have HO7 := hide (owns_set9 hO6 (Below.refl _ _) (G := w2.heap.size + 1 + 1) (by omega) (Num.initS (gX R 0, gY R 0, gK R 0)))
          have HS9 := hide (set9_row hR4 (Num.initS (gX R 0, gY R 0, gK R 0)))
          have HB9 := hide (set9_below hb5 (b := w2.heap.size + 1 + 1) (by omega) (Num.initS (gX R 0, gY R 0, gK R 0)))
          have HW2 : Hid ((out ++ [Num.setTo sg (gX R 0, gY R 0, gK R 0)]) ++ Num.walkL ((R.drop (f + 1) ++ R.take (f + 1)).drop (j + 1)) (Num.initS (gX R 0, gY R 0, gK R 0)) = T) := by
            have := HWK.out
            rw [HRot.out, walk_on (by exact hk0)] at this
            unfold Hid
            rw [List.append_assoc]
            exact this
          have HOl2 : Hid ((out ++ [Num.setTo sg (gX R 0, gY R 0, gK R 0)]).length ≤ j + 1) := by
            unfold Hid
            have := HOL.out
            simp; omega
          obtain ⟨t0, t1, t2, t3, t4, t5, t6, t7, t8⟩ := sg_cells hR4
          have t7 : w4.cell? ⟨w2.heap.size + 1 + 1, 7, none⟩ = some (.int .i64 (gX R 0)) := t7
          have t8 : w4.cell? ⟨w2.heap.size + 1 + 1, 8, none⟩ = some (.int .i64 (gY R 0)) := t8
          have y0 := hR4.frozen 0
          have y1 := hR4.frozen 1
          have y2 := hR4.frozen 2
          have y3 := hR4.frozen 3
          have y4 := hR4.frozen 4
          have y5 := hR4.frozen 5
          have y6 := hR4.frozen 6
          have y7 := hR4.frozen 7
          have y8 := hR4.frozen 8
          have hG4 := hR4.lt
          clear hown5 hgrow hat hne hO6 hown4 hown3 hb4 e0 e1 e2 e3 e4 e5 e6 e7 e8 hR4
          go_wp2
          go_roundw
          case rel => exact ⟨j + 1, Num.initS (gX R 0, gY R 0, gK R 0), out ++ [Num.setTo sg (gX R 0, gY R 0, gK R 0)], by omega, by go_num, by rw [← HY2.out]; rfl, HB9.out, HS9.out, HO7.out, HOl2.out, HW2.out⟩
          case measure => simp [intOf]; omega
      · rw [if_neg hw] at hys
        subst hys
        have hw1 : ((x : Int) + 1 == (r : Int)) = false := by simp; omega
        have gy : (x : Int) + 1 < (r : Int) := by omega
        cases hk0 : (gK R (x + 1) == 0)
        · have HW2 : Hid (out ++ Num.walkL ((R.drop (f + 1) ++ R.take (f + 1)).drop (j + 1)) (Num.addP sg (gX R (x + 1), gY R (x + 1), gK R (x + 1))) = T) := by
            have := HWK.out
            rw [HRot.out, walk_ctl (by exact hk0)] at this
            exact this
          go_wp2_with fail
          refine (withControl_any sg (gX R (x + 1), gY R (x + 1), gK R (x + 1)) _).mono ?_
          rintro e w3 ⟨rfl, hb3⟩
          have hbw : Below wr.heap.size wr w3 := Below.trans (by (repeat (any_goals (first | exact Below.refl _ _ | assumption | refine Below.drew ?_ | refine below_drewN ?_ _ | refine Below.setCell ?_ ?_ _ | refine Below.alloc ?_ ?_ _ | omega | (simp; done) | (simp; omega))))) (hb3.mono (by simp))
          have HO := hide (owns_set9 hown hbw (G := w2.heap.size + 1 + 1) (by omega) (Num.addP sg (gX R (x + 1), gY R (x + 1), gK R (x + 1))))
          have HR3 := hide (row_below HRow.out hbw hGl)
          have hs3 := hbw.size
          obtain ⟨e0, e1, e2, e3, e4, e5, e6, e7, e8⟩ := sg_cells HR3.out
          have y0 := HR3.out.frozen 0
          have y1 := HR3.out.frozen 1
          have y2 := HR3.out.frozen 2
          have y3 := HR3.out.frozen 3
          have y4 := HR3.out.frozen 4
          have y5 := HR3.out.frozen 5
          have y6 := HR3.out.frozen 6
          have y7 := HR3.out.frozen 7
          have y8 := HR3.out.frozen 8
          have hb4 : Below w2.heap.size w2 w3 := hb.trans (hbw.mono hsz)
          have HS9 := hide (set9_row HR3.out (Num.addP sg (gX R (x + 1), gY R (x + 1), gK R (x + 1))))
          have HB9 := hide (set9_below hb4 (b := w2.heap.size + 1 + 1) (by omega) (Num.addP sg (gX R (x + 1), gY R (x + 1), gK R (x + 1))))
          clear hb3 hbw hown hb q0 q1 q2 q3 q4 q5 q6 q7 q8 z0 z1 z2 z3 z4 z5 z6 z7 z8 d0 d1 d2
          obtain ⟨ag, hag⟩ : ∃ ag, ag = Num.addP sg (gX R (x + 1), gY R (x + 1), gK R (x + 1)) := ⟨_, rfl⟩
          rw [← hag] at HO HS9 HW2 HB9 ⊢
          clear hag
          go_wp2
          go_roundw
          case rel => exact ⟨j + 1, ag, out, by omega, by go_num, by rw [← HY2.out]; go_num, HB9.out, HS9.out, HO.out, by omega, HW2.out⟩
          case measure => simp [intOf]; omega
        · go_wp2_with fail
          refine (spot_any _ _ _ _).mono ?_
          rintro e w3 ⟨rfl, hw3⟩
          have hbw : Below wr.heap.size wr w3 := by rw [hw3]; (repeat (any_goals (first | exact Below.refl _ _ | assumption | refine Below.drew ?_ | refine below_drewN ?_ _ | refine Below.setCell ?_ ?_ _ | refine Below.alloc ?_ ?_ _ | omega | (simp; done) | (simp; omega))))
          clear hw3
          have HR3 := hide (row_below HRow.out hbw hGl)
          have hs3 := hbw.size
          obtain ⟨e0, e1, e2, e3, e4, e5, e6, e7, e8⟩ := sg_cells HR3.out
          have y7 := HR3.out.frozen 7
          have y8 := HR3.out.frozen 8
          have hG3 : w2.heap.size + 1 + 1 < w3.heap.size := by omega
          have hown3 := owns_of_block hown (fun b hbb => hbw.block b (hown.lt b hbb).2)
          have hb4 : Below w2.heap.size w2 w3 := hb.trans (hbw.mono hsz)
          clear hbw hown hb q0 q1 q2 q3 q4 q5 q6 q7 q8 z0 z1 z2 z3 z4 z5 z6 z7 z8 d0 d1 d2
          obtain ⟨i0, hi0, hz0, hz1, hz2⟩ := info_parts info_seg
          obtain ⟨ol, hol2⟩ : ∃ ol, ol = out.length := ⟨_, rfl⟩
          obtain ⟨xs, hxs⟩ : ∃ xs, xs = out.flatMap sgC := ⟨_, rfl⟩
          rw [← hol2] at hol
          rw [← hol2, ← hxs] at hown3
          have HOL := hide hol2
          have HXS := hide hxs
          clear hol2 hxs
          have hown4 : ((w3.setCell ⟨w2.heap.size + 1 + 1, 7, none⟩ (.int .i64 (gX R (x + 1)))).setCell ⟨w2.heap.size + 1 + 1, 8, none⟩ (.int .i64 (gY R (x + 1)))).ownsRow (w2.heap.size + 1 + 1 + 1) 44 9 v ol xs :=
            owns_of_block hown3 (fun b hbb => by
              have := (hown3.lt b hbb).1
              rw [set_other (by omega), set_other (by omega)])
          go_wp2_with (at_builtin; refine wpList_append_lies _ rfl _ _ 102 rfl (w2.heap.size + 1 + 1 + 1) 44 i0 (.agg #[.int .i64 0, .int .i64 0, .int .i64 0, .int .i64 0, .int .i64 0, .int .i64 0, .int .i64 0, .int .i64 0, .int .i64 0]) 9 72 Try.underlying102 hi0 hz0 hz1 hz2 rfl (by omega) v ol xs rfl (hown4.alloc _) ⟨w3.heap.size, 0, none⟩ 1 1 [.int .i64 sg.k, .int .i64 sg.x0, .int .i64 sg.y0, .int .i64 sg.x1, .int .i64 sg.y1, .int .i64 sg.x2, .int .i64 sg.y2, .int .i64 (gX R (x + 1)), .int .i64 (gY R (x + 1))] rfl rfl ?s1 ?s2 (by omega) ?s3 ?s4 ?s5 (w3.heap.size + 1) (by simp) ?_)
          case s1 => exact news_new ((w3.setCell ⟨w2.heap.size + 1 + 1, 7, none⟩ (.int .i64 (gX R (x + 1)))).setCell ⟨w2.heap.size + 1 + 1, 8, none⟩ (.int .i64 (gY R (x + 1)))) [.int .i64 sg.k, .int .i64 sg.x0, .int .i64 sg.y0, .int .i64 sg.x1, .int .i64 sg.y1, .int .i64 sg.x2, .int .i64 sg.y2, .int .i64 (gX R (x + 1)), .int .i64 (gY R (x + 1))] _ _ (by simp)
          case s2 => exact one_sg (Num.setTo sg (gX R (x + 1), gY R (x + 1), gK R (x + 1)))
          case s3 => unfold maxLen; omega
          case s4 => omega
          case s5 => simp; omega
          intro g2 cap2 w4 hown5 hgrow hat hlt4
          have hne : some (w2.heap.size + 1 + 1) ≠ v.ownBlock := fun e => by have := (hown3.lt _ e.symm).1; omega
          have hR4 : w4.rowIs (w2.heap.size + 1 + 1) 44 9 (sgF (Num.setTo sg (gX R (x + 1), gY R (x + 1), gK R (x + 1)))) :=
            ((set2_row HR3.out (gX R (x + 1), gY R (x + 1), gK R (x + 1))).alloc _).of_block (hgrow.block _ (by simp; omega) hne)
          have hb5 : Below w2.heap.size w2 w4 := Below.grown (w := ((w3.setCell ⟨w2.heap.size + 1 + 1, 7, none⟩ (.int .i64 (gX R (x + 1)))).setCell ⟨w2.heap.size + 1 + 1, 8, none⟩ (.int .i64 (gY R (x + 1)))).alloc _) (by (repeat (any_goals (first | exact Below.refl _ _ | assumption | refine Below.drew ?_ | refine below_drewN ?_ _ | refine Below.setCell ?_ ?_ _ | refine Below.alloc ?_ ?_ _ | omega | (simp; done) | (simp; omega))))) hgrow (by simp; omega) (fun q hq => by have := (hown3.lt q hq).1; omega)
          have hO6 : w4.ownsRow (w2.heap.size + 1 + 1 + 1) 44 9 (.slice (some ⟨g2, 0, none⟩) (ol + 1) cap2) (out ++ [Num.setTo sg (gX R (x + 1), gY R (x + 1), gK R (x + 1))]).length ((out ++ [Num.setTo sg (gX R (x + 1), gY R (x + 1), gK R (x + 1))]).flatMap sgC) :=
            push_sg (by rw [← HXS.out]; exact hown5) (by rw [HOL.out])
          have HO7 := hide (owns_set9 hO6 (Below.refl _ _) (G := w2.heap.size + 1 + 1) (by omega) (Num.initS (gX R (x + 1), gY R (x + 1), gK R (x + 1))))
          have HS9 := hide (set9_row hR4 (Num.initS (gX R (x + 1), gY R (x + 1), gK R (x + 1))))
          have HB9 := hide (set9_below hb5 (b := w2.heap.size + 1 + 1) (by omega) (Num.initS (gX R (x + 1), gY R (x + 1), gK R (x + 1))))
          have HW2 : Hid ((out ++ [Num.setTo sg (gX R (x + 1), gY R (x + 1), gK R (x + 1))]) ++ Num.walkL ((R.drop (f + 1) ++ R.take (f + 1)).drop (j + 1)) (Num.initS (gX R (x + 1), gY R (x + 1), gK R (x + 1))) = T) := by
            have := HWK.out
            rw [HRot.out, walk_on (by exact hk0)] at this
            unfold Hid
            rw [List.append_assoc]
            exact this
          have HOl2 : Hid ((out ++ [Num.setTo sg (gX R (x + 1), gY R (x + 1), gK R (x + 1))]).length ≤ j + 1) := by
            unfold Hid
            have := HOL.out
            simp; omega
          obtain ⟨t0, t1, t2, t3, t4, t5, t6, t7, t8⟩ := sg_cells hR4
          have t7 : w4.cell? ⟨w2.heap.size + 1 + 1, 7, none⟩ = some (.int .i64 (gX R (x + 1))) := t7
          have t8 : w4.cell? ⟨w2.heap.size + 1 + 1, 8, none⟩ = some (.int .i64 (gY R (x + 1))) := t8
          have y0 := hR4.frozen 0
          have y1 := hR4.frozen 1
          have y2 := hR4.frozen 2
          have y3 := hR4.frozen 3
          have y4 := hR4.frozen 4
          have y5 := hR4.frozen 5
          have y6 := hR4.frozen 6
          have y7 := hR4.frozen 7
          have y8 := hR4.frozen 8
          have hG4 := hR4.lt
          clear hown5 hgrow hat hne hO6 hown4 hown3 hb4 e0 e1 e2 e3 e4 e5 e6 e7 e8 hR4
          go_wp2
          go_roundw
          case rel => exact ⟨j + 1, Num.initS (gX R (x + 1), gY R (x + 1), gK R (x + 1)), out ++ [Num.setTo sg (gX R (x + 1), gY R (x + 1), gK R (x + 1))], by omega, by go_num, by rw [← HY2.out]; go_num, HB9.out, HS9.out, HO7.out, HOl2.out, HW2.out⟩
          case measure => simp [intOf]; omega
    · have e : j = r := by omega
      have hfin : out = T := by
        have h := HWK.out
        rw [List.drop_of_length_le (by have := HRL.out; simp; omega)] at h
        simpa [Num.walkL] using h
      subst hfin
      have hd0 : decide ((j : Int) < (r : Int)) = false := by simp; omega
      have hb9 : Below w.heap.size w wr := hb02.trans (hb.mono (by omega))
      have HO9 := hide (owns_base hown (base' := w.heap.size) (by omega))
      clear hrow hown hb
      go_wp2
      go_ret
      exact ⟨v, rfl, hb9, HO9.out⟩
end Go.Proofs.Ytkhcjkmifddlbaa
