/- The document's Curve, whole. -/
import Derived.Test.YtkhcjkmifddlbaaCrvP
import Derived.Test.YtkhcjkmifddlbaaCrvR
namespace Go.Proofs.Ytkhcjkmifddlbaa
open Go.RowKit Go.Deep

set_option maxHeartbeats 400000 in
theorem refInRange_exact (x y : Int) (w : World) :
    Calls Try.prog 95 #[.agg #[.int .i64 x, .int .i64 y]] w fun e w' => e = .returned (.bool (Num.inB x y)) ∧ w' = w.alloc (.cells #[.int .i64 x, .int .i64 y] 41) := by
  go_enter Try.func95, Try.ntmps95
  go_wp2
  all_goals
    go_ret
    refine ⟨ret_bool ?_, rfl⟩
    simp only [Num.inB, Num.wi]
    simp [*]
    try omega

theorem owns_set {w : World} {base : Nat} {t : TypeId} {sz : Nat} {v : Value} {n : Nat} {xs : List Value} (h : w.ownsRow base t sz v n xs) {p : Addr} {u : Value} (hp : v.ownBlock ≠ some p.block) : (w.setCell p u).ownsRow base t sz v n xs :=
  owns_of_block h fun b hb => blk_setCell_other _ _ _ _ (fun e => hp (by rw [hb, e]))

set_option maxRecDepth 100000 in
set_option maxHeartbeats 4000000 in
theorem refCurve0 (x0 y0 x1 y1 x2 y2 x3 y3 : Int) (w : World) :
    Calls Try.prog 60 #[.agg #[.int .i64 0, .int .i64 x0, .int .i64 y0, .int .i64 x1, .int .i64 y1, .int .i64 x2, .int .i64 y2, .int .i64 x3, .int .i64 y3]] w fun e w' => ∃ v, e = .returned (.tuple #[v, .int .i64 (Num.curveE (⟨0, x0, y0, x1, y1, x2, y2, x3, y3⟩ : Num.Sg))]) ∧ Below w.heap.size w w' ∧ w'.ownsRow w.heap.size 41 2 v (Num.curveL (⟨0, x0, y0, x1, y1, x2, y2, x3, y3⟩ : Num.Sg)).length ((Num.curveL (⟨0, x0, y0, x1, y1, x2, y2, x3, y3⟩ : Num.Sg)).flatMap spC) := by
  obtain ⟨E, hE⟩ : ∃ E, E = Num.curveE (⟨0, x0, y0, x1, y1, x2, y2, x3, y3⟩ : Num.Sg) := ⟨_, rfl⟩
  obtain ⟨L, hL⟩ : ∃ L, L = Num.curveL (⟨0, x0, y0, x1, y1, x2, y2, x3, y3⟩ : Num.Sg) := ⟨_, rfl⟩
  rw [← hE, ← hL]
  have HNo : Hid (Num.rangeB (⟨0, x0, y0, x1, y1, x2, y2, x3, y3⟩ : Num.Sg) = false → E = 6 ∧ L = []) := fun hr => by
    have hE2 : Num.curveE (⟨0, x0, y0, x1, y1, x2, y2, x3, y3⟩ : Num.Sg) = 6 := by unfold Num.curveE; rw [hr]; rfl
    exact ⟨by rw [hE, hE2], by rw [hL]; exact curve_no hE2 (by decide)⟩
  have HYes : Hid (Num.rangeB (⟨0, x0, y0, x1, y1, x2, y2, x3, y3⟩ : Num.Sg) = true → (E = 0 ∧ L = spotsU (⟨0, x0, y0, x1, y1, x2, y2, x3, y3⟩ : Num.Sg) (Num.curveN (⟨0, x0, y0, x1, y1, x2, y2, x3, y3⟩ : Num.Sg)) (Num.curveN (⟨0, x0, y0, x1, y1, x2, y2, x3, y3⟩ : Num.Sg) + 1)) ∧ ((Num.curveN (⟨0, x0, y0, x1, y1, x2, y2, x3, y3⟩ : Num.Sg) : Int) = Num.stepsV (Num.needV (⟨0, x0, y0, x1, y1, x2, y2, x3, y3⟩ : Num.Sg)) ∧ 1 ≤ Num.curveN (⟨0, x0, y0, x1, y1, x2, y2, x3, y3⟩ : Num.Sg) ∧ Num.curveN (⟨0, x0, y0, x1, y1, x2, y2, x3, y3⟩ : Num.Sg) ≤ 111)) := fun hr => by
    rw [hE, hL]; exact ⟨curve_yes rfl hr, curveN_eq hr⟩
  clear hE hL
  have HRg : Hid (Num.rangeB (⟨0, x0, y0, x1, y1, x2, y2, x3, y3⟩ : Num.Sg) = (Num.inB x0 y0 && Num.inB x3 y3)) := by unfold Hid; simp [Num.rangeB]
  have HRow := hide (sg9_row 0 x0 y0 x1 y1 x2 y2 x3 y3 w 44)
  obtain ⟨F9, hF9⟩ : ∃ F9, F9 = sg9 0 x0 y0 x1 y1 x2 y2 x3 y3 := ⟨_, rfl⟩
  have HCe := hide (fun (w : World) (b : Nat) (h : w.rowIs b 44 9 (sg9 0 x0 y0 x1 y1 x2 y2 x3 y3)) => sg9_cells h)
  rw [← hF9] at HRow HCe
  clear hF9
  obtain ⟨i0, hi0, hz0, hz1, hz2⟩ := info_parts info_spot
  go_enter Try.func60, Try.ntmps60
  go_wp2_with fail
  go_loopw [6] (fun t wr => ∃ j : Nat, j ≤ 4 ∧ t = .int .i64 j ∧ Below (w.heap.size + 3) (((w.alloc (.cells #[.int .i64 0, .int .i64 x0, .int .i64 y0, .int .i64 x1, .int .i64 y1, .int .i64 x2, .int .i64 y2, .int .i64 x3, .int .i64 y3] 44)).alloc (.cells #[.bool true, .bool true, .bool false, .bool false] 169)).alloc (.cells #[.int .i64 x0, .int .i64 y0, .int .i64 x3, .int .i64 y3, .int .i64 x1, .int .i64 y1, .int .i64 x2, .int .i64 y2] 49)) wr ∧ (1 ≤ j → Num.inB x0 y0 = true) ∧ (2 ≤ j → Num.inB x3 y3 = true)) (fun t _ => 4 - (intOf t).toNat)
  case atStart => exact ⟨0, by omega, rfl, Below.refl _ _, by omega, by omega⟩
  case round =>
    obtain ⟨j, hj, rfl, hb, r0, r1⟩ := hrel
    have hs := hb.size
    simp at hs
    have y0s : w.heap.size < wr.heap.size := by omega
    have y1s : w.heap.size + 1 < wr.heap.size := by omega
    have y2s : w.heap.size + 1 + 1 < wr.heap.size := by omega
    have HR := hide (And.intro r0 r1)
    clear r0 r1
    have hbw : Below w.heap.size w wr := Below.trans (by (repeat (any_goals (first | exact Below.refl _ _ | assumption | refine Below.drew ?_ | refine below_drewN ?_ _ | refine Below.setCell ?_ ?_ _ | refine Below.alloc ?_ ?_ _ | omega | (simp; done) | (simp; omega))))) (hb.mono (by omega))
    have HB := hide hb
    have HBW := hide hbw
    rcases (show j = 0 ∨ j = 1 ∨ j = 2 ∨ j = 3 ∨ j = 4 by omega) with rfl | rfl | rfl | rfl | rfl
    · have l0 : wr.cell? ⟨w.heap.size + 1 + 1, 0, none⟩ = some (.int .i64 x0) := (hb.cell (p := ⟨w.heap.size + 1 + 1, 0, none⟩) (by first | (simp; done) | (simp; omega))).trans (by go_simp)
      have l1 : wr.cell? ⟨w.heap.size + 1 + 1, 1, none⟩ = some (.int .i64 y0) := (hb.cell (p := ⟨w.heap.size + 1 + 1, 1, none⟩) (by first | (simp; done) | (simp; omega))).trans (by go_simp)
      have l2 : wr.cell? ⟨w.heap.size + 1, 0, none⟩ = some (.bool true) := (hb.cell (p := ⟨w.heap.size + 1, 0, none⟩) (by first | (simp; done) | (simp; omega))).trans (by go_simp)
      clear hb hbw
      cases hin : Num.inB x0 y0
      · have HE := hide (HNo.out (by rw [HRg.out]; simp [hin]))
        go_wp2_with (go_at_call 95; refine (refInRange_exact _ _ _).mono ?_; rintro e w' ⟨rfl, rfl⟩)
        go_ret2
        obtain ⟨rfl, rfl⟩ := HE.out
        exact ⟨_, rfl, HBW.out.alloc (by omega) _, World.ownsRow_nil _ _ _ _⟩
      · go_wp2_with (go_at_call 95; refine (refInRange_exact _ _ _).mono ?_; rintro e w' ⟨rfl, rfl⟩)
        go_roundw
        case rel => exact ⟨1, by omega, rfl, HB.out.alloc (by omega) _, fun _ => by first | exact hin | trivial, by omega⟩
        case measure => simp [intOf]
    · have l0 : wr.cell? ⟨w.heap.size + 1 + 1, 2, none⟩ = some (.int .i64 x3) := (hb.cell (p := ⟨w.heap.size + 1 + 1, 2, none⟩) (by first | (simp; done) | (simp; omega))).trans (by go_simp)
      have l1 : wr.cell? ⟨w.heap.size + 1 + 1, 3, none⟩ = some (.int .i64 y3) := (hb.cell (p := ⟨w.heap.size + 1 + 1, 3, none⟩) (by first | (simp; done) | (simp; omega))).trans (by go_simp)
      have l2 : wr.cell? ⟨w.heap.size + 1, 1, none⟩ = some (.bool true) := (hb.cell (p := ⟨w.heap.size + 1, 1, none⟩) (by first | (simp; done) | (simp; omega))).trans (by go_simp)
      clear hb hbw
      cases hin : Num.inB x3 y3
      · have HE := hide (HNo.out (by rw [HRg.out]; simp [hin]))
        go_wp2_with (go_at_call 95; refine (refInRange_exact _ _ _).mono ?_; rintro e w' ⟨rfl, rfl⟩)
        go_ret2
        obtain ⟨rfl, rfl⟩ := HE.out
        exact ⟨_, rfl, HBW.out.alloc (by omega) _, World.ownsRow_nil _ _ _ _⟩
      · go_wp2_with (go_at_call 95; refine (refInRange_exact _ _ _).mono ?_; rintro e w' ⟨rfl, rfl⟩)
        go_roundw
        case rel => exact ⟨2, by omega, rfl, HB.out.alloc (by omega) _, fun _ => HR.out.1 (by omega), fun _ => by first | exact hin | trivial⟩
        case measure => simp [intOf]
    · have l0 : wr.cell? ⟨w.heap.size + 1 + 1, 4, none⟩ = some (.int .i64 x1) := (hb.cell (p := ⟨w.heap.size + 1 + 1, 4, none⟩) (by first | (simp; done) | (simp; omega))).trans (by go_simp)
      have l1 : wr.cell? ⟨w.heap.size + 1 + 1, 5, none⟩ = some (.int .i64 y1) := (hb.cell (p := ⟨w.heap.size + 1 + 1, 5, none⟩) (by first | (simp; done) | (simp; omega))).trans (by go_simp)
      have l2 : wr.cell? ⟨w.heap.size + 1, 2, none⟩ = some (.bool false) := (hb.cell (p := ⟨w.heap.size + 1, 2, none⟩) (by first | (simp; done) | (simp; omega))).trans (by go_simp)
      clear hb hbw
      go_wp2_with (go_at_call 95; refine (refInRange_exact _ _ _).mono ?_; rintro e w' ⟨rfl, rfl⟩)
      go_roundw
      case rel => exact ⟨3, by omega, rfl, HB.out.alloc (by omega) _, fun _ => HR.out.1 (by omega), fun _ => HR.out.2 (by omega)⟩
      case measure => simp [intOf]
    · have l0 : wr.cell? ⟨w.heap.size + 1 + 1, 6, none⟩ = some (.int .i64 x2) := (hb.cell (p := ⟨w.heap.size + 1 + 1, 6, none⟩) (by first | (simp; done) | (simp; omega))).trans (by go_simp)
      have l1 : wr.cell? ⟨w.heap.size + 1 + 1, 7, none⟩ = some (.int .i64 y2) := (hb.cell (p := ⟨w.heap.size + 1 + 1, 7, none⟩) (by first | (simp; done) | (simp; omega))).trans (by go_simp)
      have l2 : wr.cell? ⟨w.heap.size + 1, 3, none⟩ = some (.bool false) := (hb.cell (p := ⟨w.heap.size + 1, 3, none⟩) (by first | (simp; done) | (simp; omega))).trans (by go_simp)
      clear hb hbw
      go_wp2_with (go_at_call 95; refine (refInRange_exact _ _ _).mono ?_; rintro e w' ⟨rfl, rfl⟩)
      go_roundw
      case rel => exact ⟨4, by omega, rfl, HB.out.alloc (by omega) _, fun _ => HR.out.1 (by omega), fun _ => HR.out.2 (by omega)⟩
      case measure => simp [intOf]
    · have hr : Num.rangeB (⟨0, x0, y0, x1, y1, x2, y2, x3, y3⟩ : Num.Sg) = true := by
        rw [HRg.out, HR.out.1 (by omega), HR.out.2 (by omega)]; rfl
      have q0 := Num.inB_yes (HR.out.1 (by omega))
      have q1 := Num.inB_yes (HR.out.2 (by omega))
      obtain ⟨⟨eE, eL⟩, eN, n1, n2⟩ := HYes.out hr
      have HP := hide (fun w => parts_any 0 x0 y0 x1 y1 x2 y2 x3 y3 w hr)
      obtain ⟨N, hN⟩ : ∃ N, N = Num.curveN (⟨0, x0, y0, x1, y1, x2, y2, x3, y3⟩ : Num.Sg) := ⟨_, rfl⟩
      rw [← hN] at eN n1 n2 eL
      rw [← eN] at HP
      have hN1 : N = 1 := by have e := Num.stepsV_zero (d := Num.needV (⟨0, x0, y0, x1, y1, x2, y2, x3, y3⟩ : Num.Sg)) (by simp [Num.needV]); omega
      have HSp : Hid (∀ j : Nat, j ≤ N → Num.mx ((N : Int) - j) j x0 x3 = Num.spotX (⟨0, x0, y0, x1, y1, x2, y2, x3, y3⟩ : Num.Sg) N j ∧ Num.mx ((N : Int) - j) j y0 y3 = Num.spotY (⟨0, x0, y0, x1, y1, x2, y2, x3, y3⟩ : Num.Sg) N j) := fun j hj => by
        subst hN1
        unfold Num.spotX Num.spotY Num.mx
        rcases (show j = 0 ∨ j = 1 by omega) with rfl | rfl <;> simp
      clear hN1
      have hrow0 : wr.rowIs w.heap.size 44 9 F9 := row_below ((HRow.out.alloc _).alloc _) hb (by omega)
      obtain ⟨c0, c1, c2, c3, c4, c5, c6, c7, c8⟩ := HCe.out _ _ hrow0
      have HR0 := hide hrow0
      have HSX : Hid (∀ j : Nat, Num.spotX (⟨0, x0, y0, x1, y1, x2, y2, x3, y3⟩ : Num.Sg) N j = Num.spotX (⟨0, x0, y0, x1, y1, x2, y2, x3, y3⟩ : Num.Sg) N j) := fun j => by rfl
      have HSY : Hid (∀ j : Nat, Num.spotY (⟨0, x0, y0, x1, y1, x2, y2, x3, y3⟩ : Num.Sg) N j = Num.spotY (⟨0, x0, y0, x1, y1, x2, y2, x3, y3⟩ : Num.Sg) N j) := fun j => by rfl
      obtain ⟨GG, hGG⟩ : ∃ GG : Num.Sg, GG = (⟨0, x0, y0, x1, y1, x2, y2, x3, y3⟩ : Num.Sg) := ⟨_, rfl⟩
      rw [← hGG] at HSX HSY eL
      rw [← hGG] at HSp
      clear HNo HYes
      subst eE eL
      clear hb hbw hrow0 hr eN hN hGG
      go_wp2_with fail
      refine (HP.out _).mono ?_
      rintro e w2 ⟨rfl, hb2⟩
      have hs2 := hb2.size
      have hbW : Below w.heap.size w w2 := HBW.out.trans (hb2.mono (by omega))
      have HR2 := hide (row_below HR0.out hb2 HR0.out.lt)
      clear hb2 c0 c1 c2 c3 c4 c5 c6 c7 c8
      go_wp2_with fail
      go_loopw [9, 10] (fun v t wr => ∃ j : Nat, j ≤ N + 1 ∧ t = .int .i64 j ∧ Below w.heap.size w wr ∧ wr.rowIs w.heap.size 44 9 F9 ∧ wr.ownsRow (w.heap.size + 1) 41 2 v j ((spotsU GG N j).flatMap spC)) (fun _ t _ => N + 1 - (intOf t).toNat)
      case atStart => exact ⟨0, by omega, rfl, hbW, HR2.out, World.ownsRow_nil _ _ _ _⟩
      case round =>
        obtain ⟨v, rfl⟩ : ∃ v, v = u9 := ⟨_, rfl⟩
        obtain ⟨j, hj, rfl, hb, hrow, hown⟩ := hrel
        have hsz := hrow.lt
        by_cases hlt : j < N + 1
        · have hd1 : decide ((j : Int) ≤ (N : Int)) = true := by simp; omega
          obtain ⟨c0, c1, c2, c3, c4, c5, c6, c7, c8⟩ := HCe.out _ _ hrow
          have HW := hide hrow
          clear hrow
          go_wp2_with fail
          refine (mix_any _ _ _ _ _ _ _ (by omega) (by omega) (by omega) (by omega) (by omega) (by omega) (by omega)).mono ?_
          rintro e w3 ⟨rfl, hb3⟩
          have hs3 := hb3.size
          have hown3 := owns_of_block hown (fun b hbb => hb3.block b (hown.lt b hbb).2)
          have hB3 : Below w.heap.size w w3 := hb.trans (hb3.mono (by omega))
          have HW3 := hide (row_below HW.out hb3 HW.out.lt)
          have HSu := hide (spotsU_succ GG N j)
          have HLe := hide (spotsU_len GG N j)
          clear hb hb3 hown c0 c1 c2 c3 c4 c5 c6 c7 c8
          obtain ⟨c0, c1, c2, c3, c4, c5, c6, c7, c8⟩ := HCe.out _ _ HW3.out
          obtain ⟨sx, hsx⟩ : ∃ sx, sx = Num.spotX GG N j := ⟨_, rfl⟩
          obtain ⟨sy, hsy⟩ : ∃ sy, sy = Num.spotY GG N j := ⟨_, rfl⟩
          rw [← hsx, ← hsy] at HSu
          obtain ⟨xs, hxs⟩ : ∃ xs, xs = (spotsU GG N j).flatMap spC := ⟨_, rfl⟩
          rw [← hxs] at hown3
          have HX := hide hxs
          have zz : w.heap.size < w3.heap.size := by omega
          rw [(HSp.out j (by omega)).1, (HSp.out j (by omega)).2, ← hsx, ← hsy]
          clear hsx hsy hxs
          go_wp2_with (at_builtin; refine wpList_append_lies _ rfl _ _ 48 rfl (w.heap.size + 1) 41 i0 (.agg #[.int .i64 0, .int .i64 0]) 2 16 Try.underlying48 hi0 hz0 hz1 hz2 rfl (by omega) v j xs rfl ((hown3.alloc _).alloc _) ⟨w3.heap.size + 1, 0, none⟩ 1 1 [.int .i64 sx, .int .i64 sy] rfl rfl ?e1 ?e2 (by omega) ?e3 ?e4 ?e5 (w3.heap.size + 1 + 1) (by simp) ?_)
          try (case e1 => exact news_sp (w3.alloc _) [.int .i64 sx, .int .i64 sy] _ _ (by simp))
          case e2 => first | exact one_two _ _ | exact ⟨rfl, rfl⟩
          case e3 => unfold maxLen; omega
          case e4 => omega
          case e5 => first | omega | (simp; omega)
          intro g cap w4 hown4 hgrow hat hlt4
          have hb4 : Below w.heap.size w w4 := ((hB3.alloc (by omega) _).alloc (by simp; omega) _).grown hgrow (by simp; omega) (fun q hq => by have := (hown3.lt q hq).1; omega)
          have hR4 : w4.rowIs w.heap.size 44 9 F9 := ((HW3.out.alloc _).alloc _).of_block (hgrow.block _ (by simp; omega) (fun e => by have := (hown3.lt _ e.symm).1; omega))
          have HO4 : Hid (w4.ownsRow (w.heap.size + 1) 41 2 (.slice (some ⟨g, 0, none⟩) (j + 1) cap) (j + 1) ((spotsU GG N (j + 1)).flatMap spC)) := by
            unfold Hid
            have := push_sp (l := spotsU GG N j) (l' := spotsU GG N (j + 1)) (p := (sx, sy)) (m := j + 1) (by rw [← HX.out]; exact hown4) HSu.out (by rw [HLe.out])
            rw [spotsU_len] at this
            exact this
          have HR4 := hide hR4
          clear hown4 hgrow hat hown3 hR4 HW3 HW
          go_wp2
          go_roundw
          case rel => exact ⟨j + 1, by omega, by go_num, hb4, HR4.out, HO4.out⟩
          case measure => simp [intOf]; omega
        · have e : j = N + 1 := by omega
          have hd0 : decide ((j : Int) ≤ (N : Int)) = false := by simp; omega
          have HO := hide hown
          have HBz := hide hb
          clear hown hrow hb
          go_wp2
          go_ret2
          refine ⟨v, rfl, HBz.out, ?_⟩
          have h := owns_mono HO.out (Nat.le_succ w.heap.size)
          rw [e] at h
          rw [spotsU_len]
          exact h

set_option maxRecDepth 100000 in
set_option maxHeartbeats 4000000 in
theorem refCurve1 (x0 y0 x1 y1 x2 y2 x3 y3 : Int) (w : World) :
    Calls Try.prog 60 #[.agg #[.int .i64 1, .int .i64 x0, .int .i64 y0, .int .i64 x1, .int .i64 y1, .int .i64 x2, .int .i64 y2, .int .i64 x3, .int .i64 y3]] w fun e w' => ∃ v, e = .returned (.tuple #[v, .int .i64 (Num.curveE (⟨1, x0, y0, x1, y1, x2, y2, x3, y3⟩ : Num.Sg))]) ∧ Below w.heap.size w w' ∧ w'.ownsRow w.heap.size 41 2 v (Num.curveL (⟨1, x0, y0, x1, y1, x2, y2, x3, y3⟩ : Num.Sg)).length ((Num.curveL (⟨1, x0, y0, x1, y1, x2, y2, x3, y3⟩ : Num.Sg)).flatMap spC) := by
  obtain ⟨E, hE⟩ : ∃ E, E = Num.curveE (⟨1, x0, y0, x1, y1, x2, y2, x3, y3⟩ : Num.Sg) := ⟨_, rfl⟩
  obtain ⟨L, hL⟩ : ∃ L, L = Num.curveL (⟨1, x0, y0, x1, y1, x2, y2, x3, y3⟩ : Num.Sg) := ⟨_, rfl⟩
  rw [← hE, ← hL]
  have HNo : Hid (Num.rangeB (⟨1, x0, y0, x1, y1, x2, y2, x3, y3⟩ : Num.Sg) = false → E = 6 ∧ L = []) := fun hr => by
    have hE2 : Num.curveE (⟨1, x0, y0, x1, y1, x2, y2, x3, y3⟩ : Num.Sg) = 6 := by unfold Num.curveE; rw [hr]; rfl
    exact ⟨by rw [hE, hE2], by rw [hL]; exact curve_no hE2 (by decide)⟩
  have HYes : Hid (Num.rangeB (⟨1, x0, y0, x1, y1, x2, y2, x3, y3⟩ : Num.Sg) = true → (E = 0 ∧ L = spotsU (⟨1, x0, y0, x1, y1, x2, y2, x3, y3⟩ : Num.Sg) (Num.curveN (⟨1, x0, y0, x1, y1, x2, y2, x3, y3⟩ : Num.Sg)) (Num.curveN (⟨1, x0, y0, x1, y1, x2, y2, x3, y3⟩ : Num.Sg) + 1)) ∧ ((Num.curveN (⟨1, x0, y0, x1, y1, x2, y2, x3, y3⟩ : Num.Sg) : Int) = Num.stepsV (Num.needV (⟨1, x0, y0, x1, y1, x2, y2, x3, y3⟩ : Num.Sg)) ∧ 1 ≤ Num.curveN (⟨1, x0, y0, x1, y1, x2, y2, x3, y3⟩ : Num.Sg) ∧ Num.curveN (⟨1, x0, y0, x1, y1, x2, y2, x3, y3⟩ : Num.Sg) ≤ 111)) := fun hr => by
    rw [hE, hL]; exact ⟨curve_yes rfl hr, curveN_eq hr⟩
  clear hE hL
  have HRg : Hid (Num.rangeB (⟨1, x0, y0, x1, y1, x2, y2, x3, y3⟩ : Num.Sg) = (Num.inB x0 y0 && Num.inB x3 y3 && Num.inB x1 y1)) := by unfold Hid; simp [Num.rangeB]
  have HRow := hide (sg9_row 1 x0 y0 x1 y1 x2 y2 x3 y3 w 44)
  obtain ⟨F9, hF9⟩ : ∃ F9, F9 = sg9 1 x0 y0 x1 y1 x2 y2 x3 y3 := ⟨_, rfl⟩
  have HCe := hide (fun (w : World) (b : Nat) (h : w.rowIs b 44 9 (sg9 1 x0 y0 x1 y1 x2 y2 x3 y3)) => sg9_cells h)
  rw [← hF9] at HRow HCe
  clear hF9
  obtain ⟨i0, hi0, hz0, hz1, hz2⟩ := info_parts info_spot
  go_enter Try.func60, Try.ntmps60
  go_wp2_with fail
  go_loopw [6] (fun t wr => ∃ j : Nat, j ≤ 4 ∧ t = .int .i64 j ∧ Below (w.heap.size + 3) (((w.alloc (.cells #[.int .i64 1, .int .i64 x0, .int .i64 y0, .int .i64 x1, .int .i64 y1, .int .i64 x2, .int .i64 y2, .int .i64 x3, .int .i64 y3] 44)).alloc (.cells #[.bool true, .bool true, .bool true, .bool false] 169)).alloc (.cells #[.int .i64 x0, .int .i64 y0, .int .i64 x3, .int .i64 y3, .int .i64 x1, .int .i64 y1, .int .i64 x2, .int .i64 y2] 49)) wr ∧ (1 ≤ j → Num.inB x0 y0 = true) ∧ (2 ≤ j → Num.inB x3 y3 = true) ∧ (3 ≤ j → Num.inB x1 y1 = true)) (fun t _ => 4 - (intOf t).toNat)
  case atStart => exact ⟨0, by omega, rfl, Below.refl _ _, by omega, by omega, by omega⟩
  case round =>
    obtain ⟨j, hj, rfl, hb, r0, r1, r2⟩ := hrel
    have hs := hb.size
    simp at hs
    have y0s : w.heap.size < wr.heap.size := by omega
    have y1s : w.heap.size + 1 < wr.heap.size := by omega
    have y2s : w.heap.size + 1 + 1 < wr.heap.size := by omega
    have HR := hide (And.intro r0 (And.intro r1 r2))
    clear r0 r1 r2
    have hbw : Below w.heap.size w wr := Below.trans (by (repeat (any_goals (first | exact Below.refl _ _ | assumption | refine Below.drew ?_ | refine below_drewN ?_ _ | refine Below.setCell ?_ ?_ _ | refine Below.alloc ?_ ?_ _ | omega | (simp; done) | (simp; omega))))) (hb.mono (by omega))
    have HB := hide hb
    have HBW := hide hbw
    rcases (show j = 0 ∨ j = 1 ∨ j = 2 ∨ j = 3 ∨ j = 4 by omega) with rfl | rfl | rfl | rfl | rfl
    · have l0 : wr.cell? ⟨w.heap.size + 1 + 1, 0, none⟩ = some (.int .i64 x0) := (hb.cell (p := ⟨w.heap.size + 1 + 1, 0, none⟩) (by first | (simp; done) | (simp; omega))).trans (by go_simp)
      have l1 : wr.cell? ⟨w.heap.size + 1 + 1, 1, none⟩ = some (.int .i64 y0) := (hb.cell (p := ⟨w.heap.size + 1 + 1, 1, none⟩) (by first | (simp; done) | (simp; omega))).trans (by go_simp)
      have l2 : wr.cell? ⟨w.heap.size + 1, 0, none⟩ = some (.bool true) := (hb.cell (p := ⟨w.heap.size + 1, 0, none⟩) (by first | (simp; done) | (simp; omega))).trans (by go_simp)
      clear hb hbw
      cases hin : Num.inB x0 y0
      · have HE := hide (HNo.out (by rw [HRg.out]; simp [hin]))
        go_wp2_with (go_at_call 95; refine (refInRange_exact _ _ _).mono ?_; rintro e w' ⟨rfl, rfl⟩)
        go_ret2
        obtain ⟨rfl, rfl⟩ := HE.out
        exact ⟨_, rfl, HBW.out.alloc (by omega) _, World.ownsRow_nil _ _ _ _⟩
      · go_wp2_with (go_at_call 95; refine (refInRange_exact _ _ _).mono ?_; rintro e w' ⟨rfl, rfl⟩)
        go_roundw
        case rel => exact ⟨1, by omega, rfl, HB.out.alloc (by omega) _, fun _ => by first | exact hin | trivial, by omega, by omega⟩
        case measure => simp [intOf]
    · have l0 : wr.cell? ⟨w.heap.size + 1 + 1, 2, none⟩ = some (.int .i64 x3) := (hb.cell (p := ⟨w.heap.size + 1 + 1, 2, none⟩) (by first | (simp; done) | (simp; omega))).trans (by go_simp)
      have l1 : wr.cell? ⟨w.heap.size + 1 + 1, 3, none⟩ = some (.int .i64 y3) := (hb.cell (p := ⟨w.heap.size + 1 + 1, 3, none⟩) (by first | (simp; done) | (simp; omega))).trans (by go_simp)
      have l2 : wr.cell? ⟨w.heap.size + 1, 1, none⟩ = some (.bool true) := (hb.cell (p := ⟨w.heap.size + 1, 1, none⟩) (by first | (simp; done) | (simp; omega))).trans (by go_simp)
      clear hb hbw
      cases hin : Num.inB x3 y3
      · have HE := hide (HNo.out (by rw [HRg.out]; simp [hin]))
        go_wp2_with (go_at_call 95; refine (refInRange_exact _ _ _).mono ?_; rintro e w' ⟨rfl, rfl⟩)
        go_ret2
        obtain ⟨rfl, rfl⟩ := HE.out
        exact ⟨_, rfl, HBW.out.alloc (by omega) _, World.ownsRow_nil _ _ _ _⟩
      · go_wp2_with (go_at_call 95; refine (refInRange_exact _ _ _).mono ?_; rintro e w' ⟨rfl, rfl⟩)
        go_roundw
        case rel => exact ⟨2, by omega, rfl, HB.out.alloc (by omega) _, fun _ => HR.out.1 (by omega), fun _ => by first | exact hin | trivial, by omega⟩
        case measure => simp [intOf]
    · have l0 : wr.cell? ⟨w.heap.size + 1 + 1, 4, none⟩ = some (.int .i64 x1) := (hb.cell (p := ⟨w.heap.size + 1 + 1, 4, none⟩) (by first | (simp; done) | (simp; omega))).trans (by go_simp)
      have l1 : wr.cell? ⟨w.heap.size + 1 + 1, 5, none⟩ = some (.int .i64 y1) := (hb.cell (p := ⟨w.heap.size + 1 + 1, 5, none⟩) (by first | (simp; done) | (simp; omega))).trans (by go_simp)
      have l2 : wr.cell? ⟨w.heap.size + 1, 2, none⟩ = some (.bool true) := (hb.cell (p := ⟨w.heap.size + 1, 2, none⟩) (by first | (simp; done) | (simp; omega))).trans (by go_simp)
      clear hb hbw
      cases hin : Num.inB x1 y1
      · have HE := hide (HNo.out (by rw [HRg.out]; simp [hin]))
        go_wp2_with (go_at_call 95; refine (refInRange_exact _ _ _).mono ?_; rintro e w' ⟨rfl, rfl⟩)
        go_ret2
        obtain ⟨rfl, rfl⟩ := HE.out
        exact ⟨_, rfl, HBW.out.alloc (by omega) _, World.ownsRow_nil _ _ _ _⟩
      · go_wp2_with (go_at_call 95; refine (refInRange_exact _ _ _).mono ?_; rintro e w' ⟨rfl, rfl⟩)
        go_roundw
        case rel => exact ⟨3, by omega, rfl, HB.out.alloc (by omega) _, fun _ => HR.out.1 (by omega), fun _ => HR.out.2.1 (by omega), fun _ => by first | exact hin | trivial⟩
        case measure => simp [intOf]
    · have l0 : wr.cell? ⟨w.heap.size + 1 + 1, 6, none⟩ = some (.int .i64 x2) := (hb.cell (p := ⟨w.heap.size + 1 + 1, 6, none⟩) (by first | (simp; done) | (simp; omega))).trans (by go_simp)
      have l1 : wr.cell? ⟨w.heap.size + 1 + 1, 7, none⟩ = some (.int .i64 y2) := (hb.cell (p := ⟨w.heap.size + 1 + 1, 7, none⟩) (by first | (simp; done) | (simp; omega))).trans (by go_simp)
      have l2 : wr.cell? ⟨w.heap.size + 1, 3, none⟩ = some (.bool false) := (hb.cell (p := ⟨w.heap.size + 1, 3, none⟩) (by first | (simp; done) | (simp; omega))).trans (by go_simp)
      clear hb hbw
      go_wp2_with (go_at_call 95; refine (refInRange_exact _ _ _).mono ?_; rintro e w' ⟨rfl, rfl⟩)
      go_roundw
      case rel => exact ⟨4, by omega, rfl, HB.out.alloc (by omega) _, fun _ => HR.out.1 (by omega), fun _ => HR.out.2.1 (by omega), fun _ => HR.out.2.2 (by omega)⟩
      case measure => simp [intOf]
    · have hr : Num.rangeB (⟨1, x0, y0, x1, y1, x2, y2, x3, y3⟩ : Num.Sg) = true := by
        rw [HRg.out, HR.out.1 (by omega), HR.out.2.1 (by omega), HR.out.2.2 (by omega)]; rfl
      have q0 := Num.inB_yes (HR.out.1 (by omega))
      have q1 := Num.inB_yes (HR.out.2.1 (by omega))
      have q2 := Num.inB_yes (HR.out.2.2 (by omega))
      obtain ⟨⟨eE, eL⟩, eN, n1, n2⟩ := HYes.out hr
      have HP := hide (fun w => parts_any 1 x0 y0 x1 y1 x2 y2 x3 y3 w hr)
      obtain ⟨N, hN⟩ : ∃ N, N = Num.curveN (⟨1, x0, y0, x1, y1, x2, y2, x3, y3⟩ : Num.Sg) := ⟨_, rfl⟩
      rw [← hN] at eN n1 n2 eL
      rw [← eN] at HP
      have hrow0 : wr.rowIs w.heap.size 44 9 F9 := row_below ((HRow.out.alloc _).alloc _) hb (by omega)
      obtain ⟨c0, c1, c2, c3, c4, c5, c6, c7, c8⟩ := HCe.out _ _ hrow0
      have HR0 := hide hrow0
      have HSX : Hid (∀ j : Nat, Num.spotX (⟨1, x0, y0, x1, y1, x2, y2, x3, y3⟩ : Num.Sg) N j = Num.hu (Num.qSum ((N : Int) - j) j x0 x1 x3) ((N : Int) * N)) := fun j => by unfold Num.spotX; rw [if_pos rfl]
      have HSY : Hid (∀ j : Nat, Num.spotY (⟨1, x0, y0, x1, y1, x2, y2, x3, y3⟩ : Num.Sg) N j = Num.hu (Num.qSum ((N : Int) - j) j y0 y1 y3) ((N : Int) * N)) := fun j => by unfold Num.spotY; rw [if_pos rfl]
      obtain ⟨GG, hGG⟩ : ∃ GG : Num.Sg, GG = (⟨1, x0, y0, x1, y1, x2, y2, x3, y3⟩ : Num.Sg) := ⟨_, rfl⟩
      rw [← hGG] at HSX HSY eL
      clear HNo HYes
      subst eE eL
      clear hb hbw hrow0 hr eN hN hGG
      go_wp2_with fail
      refine (HP.out _).mono ?_
      rintro e w2 ⟨rfl, hb2⟩
      have hs2 := hb2.size
      have hbW : Below w.heap.size w w2 := HBW.out.trans (hb2.mono (by omega))
      have HR2 := hide (row_below HR0.out hb2 HR0.out.lt)
      clear hb2 c0 c1 c2 c3 c4 c5 c6 c7 c8
      go_wp2_with fail
      go_loopw [9, 10] (fun v t wr => ∃ j : Nat, j ≤ N + 1 ∧ t = .int .i64 j ∧ Below w.heap.size w wr ∧ wr.rowIs w.heap.size 44 9 F9 ∧ wr.ownsRow (w.heap.size + 1) 41 2 v j ((spotsU GG N j).flatMap spC)) (fun _ t _ => N + 1 - (intOf t).toNat)
      case atStart => exact ⟨0, by omega, rfl, hbW, HR2.out, World.ownsRow_nil _ _ _ _⟩
      case round =>
        obtain ⟨v, rfl⟩ : ∃ v, v = u9 := ⟨_, rfl⟩
        obtain ⟨j, hj, rfl, hb, hrow, hown⟩ := hrel
        have hsz := hrow.lt
        by_cases hlt : j < N + 1
        · have hd1 : decide ((j : Int) ≤ (N : Int)) = true := by simp; omega
          obtain ⟨c0, c1, c2, c3, c4, c5, c6, c7, c8⟩ := HCe.out _ _ hrow
          have HW := hide hrow
          clear hrow
          go_wp2_with fail
          refine (mix_any _ _ _ _ _ _ _ (by omega) (by omega) (by omega) (by omega) (by omega) (by omega) (by omega)).mono ?_
          rintro e w3 ⟨rfl, hb3⟩
          have hs3 := hb3.size
          have hown3 := owns_of_block hown (fun b hbb => hb3.block b (hown.lt b hbb).2)
          have hB3 : Below w.heap.size w w3 := hb.trans (hb3.mono (by omega))
          have HW3 := hide (row_below HW.out hb3 HW.out.lt)
          have HSu := hide (spotsU_succ GG N j)
          have HLe := hide (spotsU_len GG N j)
          clear hb hb3 hown c0 c1 c2 c3 c4 c5 c6 c7 c8
          obtain ⟨c0, c1, c2, c3, c4, c5, c6, c7, c8⟩ := HCe.out _ _ HW3.out
          obtain ⟨sx, hsx⟩ : ∃ sx, sx = Num.spotX GG N j := ⟨_, rfl⟩
          obtain ⟨sy, hsy⟩ : ∃ sy, sy = Num.spotY GG N j := ⟨_, rfl⟩
          rw [← hsx, ← hsy] at HSu
          obtain ⟨xs, hxs⟩ : ∃ xs, xs = (spotsU GG N j).flatMap spC := ⟨_, rfl⟩
          rw [← hxs] at hown3
          have HX := hide hxs
          have zz : w.heap.size < w3.heap.size := by omega
          have HSxy := hide (And.intro (HSX.out j) (HSY.out j))
          obtain ⟨m0, hm0⟩ : ∃ m0, m0 = Num.mx ((N : Int) - j) j x0 x3 := ⟨_, rfl⟩
          obtain ⟨m1, hm1⟩ : ∃ m1, m1 = Num.mx ((N : Int) - j) j y0 y3 := ⟨_, rfl⟩
          rw [← hm0, ← hm1]
          rw [← hsx, ← hsy] at HSxy
          clear hsx hsy hxs hm0 hm1
          go_wp2_with fail
          refine (quads_any _ _ _ _ _ _ _ _ _ _ _ _ (by omega) (by omega) (by omega) (by omega) q0.1 q0.2 q2.1 q2.2 q1.1 q1.2).mono ?_
          rw [← HSxy.out.1, ← HSxy.out.2]
          rintro e w5 ⟨rfl, hb5⟩
          obtain ⟨hc5, hf5⟩ := bcell hb5
          have zz5 : w3.heap.size < w5.heap.size := by have := hb5.size; simp at this; omega
          have g0 : w5.cell? ⟨w3.heap.size, 0, none⟩ = some (.int .i64 m0) := by rw [hc5 _ _ (by simp)]; go_simp
          have g1 : w5.cell? ⟨w3.heap.size, 1, none⟩ = some (.int .i64 m1) := by rw [hc5 _ _ (by simp)]; go_simp
          have f0 : w5.frozen? ⟨w3.heap.size, 0, none⟩ = false := by rw [hf5 _ _ (by simp)]; go_simp
          have f1 : w5.frozen? ⟨w3.heap.size, 1, none⟩ = false := by rw [hf5 _ _ (by simp)]; go_simp
          have hB5 : Below w.heap.size w w5 := (hB3.alloc (by omega) _).trans (hb5.mono (by simp; omega))
          have hownA := hown3.alloc (.cells #[.int .i64 m0, .int .i64 m1] 41)
          have hown5 := owns_of_block hownA (fun b hbb => hb5.block b (hownA.lt b hbb).2)
          have hne5 : v.ownBlock ≠ some w3.heap.size := fun e => by have := (hown3.lt _ e).2; omega
          have HW5 := hide (row_below (HW3.out.alloc (.cells #[.int .i64 m0, .int .i64 m1] 41)) hb5 (by simp; omega))
          clear hb5 hc5 hf5 hownA c0 c1 c2 c3 c4 c5 c6 c7 c8
          go_wp2_with (at_builtin; refine wpList_append_lies _ rfl _ _ 48 rfl (w.heap.size + 1) 41 i0 (.agg #[.int .i64 0, .int .i64 0]) 2 16 Try.underlying48 hi0 hz0 hz1 hz2 rfl (by omega) v j xs rfl (((owns_set (p := ⟨w3.heap.size, 1, none⟩) (owns_set (p := ⟨w3.heap.size, 0, none⟩) hown5 hne5) hne5)).alloc _) ⟨w5.heap.size, 0, none⟩ 1 1 [.int .i64 sx, .int .i64 sy] rfl rfl ?e1 ?e2 (by omega) ?e3 ?e4 ?e5 (w5.heap.size + 1) (by simp) ?_)
          try (case e1 => exact news_sp _ [.int .i64 sx, .int .i64 sy] _ _ (by simp))
          case e2 => first | exact one_two _ _ | exact ⟨rfl, rfl⟩
          case e3 => unfold maxLen; omega
          case e4 => omega
          case e5 => first | omega | (simp; omega)
          intro g cap w4 hown4 hgrow hat hlt4
          have hb4 : Below w.heap.size w w4 := (((hB5.setCell (by simp; omega) _).setCell (by simp; omega) _).alloc (by simp; omega) _).grown hgrow (by simp; omega) (fun q hq => by have := (hown3.lt q hq).1; omega)
          have hR4 : w4.rowIs w.heap.size 44 9 F9 := (((HW5.out.setOther (by simp; omega) _).setOther (by simp; omega) _).alloc _).of_block (hgrow.block _ (by simp; omega) (fun e => by have := (hown3.lt _ e.symm).1; omega))
          have HO4 : Hid (w4.ownsRow (w.heap.size + 1) 41 2 (.slice (some ⟨g, 0, none⟩) (j + 1) cap) (j + 1) ((spotsU GG N (j + 1)).flatMap spC)) := by
            unfold Hid
            have := push_sp (l := spotsU GG N j) (l' := spotsU GG N (j + 1)) (p := (sx, sy)) (m := j + 1) (by rw [← HX.out]; exact hown4) HSu.out (by rw [HLe.out])
            rw [spotsU_len] at this
            exact this
          have HR4 := hide hR4
          clear hown4 hgrow hat hown3 hR4 HW3 HW hown5 g0 g1 f0 f1 hne5
          go_wp2
          go_roundw
          case rel => exact ⟨j + 1, by omega, by go_num, hb4, HR4.out, HO4.out⟩
          case measure => simp [intOf]; omega
        · have e : j = N + 1 := by omega
          have hd0 : decide ((j : Int) ≤ (N : Int)) = false := by simp; omega
          have HO := hide hown
          have HBz := hide hb
          clear hown hrow hb
          go_wp2
          go_ret2
          refine ⟨v, rfl, HBz.out, ?_⟩
          have h := owns_mono HO.out (Nat.le_succ w.heap.size)
          rw [e] at h
          rw [spotsU_len]
          exact h

set_option maxRecDepth 100000 in
set_option maxHeartbeats 4000000 in
theorem refCurve2 (x0 y0 x1 y1 x2 y2 x3 y3 : Int) (w : World) :
    Calls Try.prog 60 #[.agg #[.int .i64 2, .int .i64 x0, .int .i64 y0, .int .i64 x1, .int .i64 y1, .int .i64 x2, .int .i64 y2, .int .i64 x3, .int .i64 y3]] w fun e w' => ∃ v, e = .returned (.tuple #[v, .int .i64 (Num.curveE (⟨2, x0, y0, x1, y1, x2, y2, x3, y3⟩ : Num.Sg))]) ∧ Below w.heap.size w w' ∧ w'.ownsRow w.heap.size 41 2 v (Num.curveL (⟨2, x0, y0, x1, y1, x2, y2, x3, y3⟩ : Num.Sg)).length ((Num.curveL (⟨2, x0, y0, x1, y1, x2, y2, x3, y3⟩ : Num.Sg)).flatMap spC) := by
  obtain ⟨E, hE⟩ : ∃ E, E = Num.curveE (⟨2, x0, y0, x1, y1, x2, y2, x3, y3⟩ : Num.Sg) := ⟨_, rfl⟩
  obtain ⟨L, hL⟩ : ∃ L, L = Num.curveL (⟨2, x0, y0, x1, y1, x2, y2, x3, y3⟩ : Num.Sg) := ⟨_, rfl⟩
  rw [← hE, ← hL]
  have HNo : Hid (Num.rangeB (⟨2, x0, y0, x1, y1, x2, y2, x3, y3⟩ : Num.Sg) = false → E = 6 ∧ L = []) := fun hr => by
    have hE2 : Num.curveE (⟨2, x0, y0, x1, y1, x2, y2, x3, y3⟩ : Num.Sg) = 6 := by unfold Num.curveE; rw [hr]; rfl
    exact ⟨by rw [hE, hE2], by rw [hL]; exact curve_no hE2 (by decide)⟩
  have HYes : Hid (Num.rangeB (⟨2, x0, y0, x1, y1, x2, y2, x3, y3⟩ : Num.Sg) = true → (E = 0 ∧ L = spotsU (⟨2, x0, y0, x1, y1, x2, y2, x3, y3⟩ : Num.Sg) (Num.curveN (⟨2, x0, y0, x1, y1, x2, y2, x3, y3⟩ : Num.Sg)) (Num.curveN (⟨2, x0, y0, x1, y1, x2, y2, x3, y3⟩ : Num.Sg) + 1)) ∧ ((Num.curveN (⟨2, x0, y0, x1, y1, x2, y2, x3, y3⟩ : Num.Sg) : Int) = Num.stepsV (Num.needV (⟨2, x0, y0, x1, y1, x2, y2, x3, y3⟩ : Num.Sg)) ∧ 1 ≤ Num.curveN (⟨2, x0, y0, x1, y1, x2, y2, x3, y3⟩ : Num.Sg) ∧ Num.curveN (⟨2, x0, y0, x1, y1, x2, y2, x3, y3⟩ : Num.Sg) ≤ 111)) := fun hr => by
    rw [hE, hL]; exact ⟨curve_yes rfl hr, curveN_eq hr⟩
  clear hE hL
  have HRg : Hid (Num.rangeB (⟨2, x0, y0, x1, y1, x2, y2, x3, y3⟩ : Num.Sg) = (Num.inB x0 y0 && Num.inB x3 y3 && Num.inB x1 y1 && Num.inB x2 y2)) := by unfold Hid; simp [Num.rangeB]
  have HRow := hide (sg9_row 2 x0 y0 x1 y1 x2 y2 x3 y3 w 44)
  obtain ⟨F9, hF9⟩ : ∃ F9, F9 = sg9 2 x0 y0 x1 y1 x2 y2 x3 y3 := ⟨_, rfl⟩
  have HCe := hide (fun (w : World) (b : Nat) (h : w.rowIs b 44 9 (sg9 2 x0 y0 x1 y1 x2 y2 x3 y3)) => sg9_cells h)
  rw [← hF9] at HRow HCe
  clear hF9
  obtain ⟨i0, hi0, hz0, hz1, hz2⟩ := info_parts info_spot
  go_enter Try.func60, Try.ntmps60
  go_wp2_with fail
  go_loopw [6] (fun t wr => ∃ j : Nat, j ≤ 4 ∧ t = .int .i64 j ∧ Below (w.heap.size + 3) (((w.alloc (.cells #[.int .i64 2, .int .i64 x0, .int .i64 y0, .int .i64 x1, .int .i64 y1, .int .i64 x2, .int .i64 y2, .int .i64 x3, .int .i64 y3] 44)).alloc (.cells #[.bool true, .bool true, .bool true, .bool true] 169)).alloc (.cells #[.int .i64 x0, .int .i64 y0, .int .i64 x3, .int .i64 y3, .int .i64 x1, .int .i64 y1, .int .i64 x2, .int .i64 y2] 49)) wr ∧ (1 ≤ j → Num.inB x0 y0 = true) ∧ (2 ≤ j → Num.inB x3 y3 = true) ∧ (3 ≤ j → Num.inB x1 y1 = true) ∧ (4 ≤ j → Num.inB x2 y2 = true)) (fun t _ => 4 - (intOf t).toNat)
  case atStart => exact ⟨0, by omega, rfl, Below.refl _ _, by omega, by omega, by omega, by omega⟩
  case round =>
    obtain ⟨j, hj, rfl, hb, r0, r1, r2, r3⟩ := hrel
    have hs := hb.size
    simp at hs
    have y0s : w.heap.size < wr.heap.size := by omega
    have y1s : w.heap.size + 1 < wr.heap.size := by omega
    have y2s : w.heap.size + 1 + 1 < wr.heap.size := by omega
    have HR := hide (And.intro r0 (And.intro r1 (And.intro r2 r3)))
    clear r0 r1 r2 r3
    have hbw : Below w.heap.size w wr := Below.trans (by (repeat (any_goals (first | exact Below.refl _ _ | assumption | refine Below.drew ?_ | refine below_drewN ?_ _ | refine Below.setCell ?_ ?_ _ | refine Below.alloc ?_ ?_ _ | omega | (simp; done) | (simp; omega))))) (hb.mono (by omega))
    have HB := hide hb
    have HBW := hide hbw
    rcases (show j = 0 ∨ j = 1 ∨ j = 2 ∨ j = 3 ∨ j = 4 by omega) with rfl | rfl | rfl | rfl | rfl
    · have l0 : wr.cell? ⟨w.heap.size + 1 + 1, 0, none⟩ = some (.int .i64 x0) := (hb.cell (p := ⟨w.heap.size + 1 + 1, 0, none⟩) (by first | (simp; done) | (simp; omega))).trans (by go_simp)
      have l1 : wr.cell? ⟨w.heap.size + 1 + 1, 1, none⟩ = some (.int .i64 y0) := (hb.cell (p := ⟨w.heap.size + 1 + 1, 1, none⟩) (by first | (simp; done) | (simp; omega))).trans (by go_simp)
      have l2 : wr.cell? ⟨w.heap.size + 1, 0, none⟩ = some (.bool true) := (hb.cell (p := ⟨w.heap.size + 1, 0, none⟩) (by first | (simp; done) | (simp; omega))).trans (by go_simp)
      clear hb hbw
      cases hin : Num.inB x0 y0
      · have HE := hide (HNo.out (by rw [HRg.out]; simp [hin]))
        go_wp2_with (go_at_call 95; refine (refInRange_exact _ _ _).mono ?_; rintro e w' ⟨rfl, rfl⟩)
        go_ret2
        obtain ⟨rfl, rfl⟩ := HE.out
        exact ⟨_, rfl, HBW.out.alloc (by omega) _, World.ownsRow_nil _ _ _ _⟩
      · go_wp2_with (go_at_call 95; refine (refInRange_exact _ _ _).mono ?_; rintro e w' ⟨rfl, rfl⟩)
        go_roundw
        case rel => exact ⟨1, by omega, rfl, HB.out.alloc (by omega) _, fun _ => by first | exact hin | trivial, by omega, by omega, by omega⟩
        case measure => simp [intOf]
    · have l0 : wr.cell? ⟨w.heap.size + 1 + 1, 2, none⟩ = some (.int .i64 x3) := (hb.cell (p := ⟨w.heap.size + 1 + 1, 2, none⟩) (by first | (simp; done) | (simp; omega))).trans (by go_simp)
      have l1 : wr.cell? ⟨w.heap.size + 1 + 1, 3, none⟩ = some (.int .i64 y3) := (hb.cell (p := ⟨w.heap.size + 1 + 1, 3, none⟩) (by first | (simp; done) | (simp; omega))).trans (by go_simp)
      have l2 : wr.cell? ⟨w.heap.size + 1, 1, none⟩ = some (.bool true) := (hb.cell (p := ⟨w.heap.size + 1, 1, none⟩) (by first | (simp; done) | (simp; omega))).trans (by go_simp)
      clear hb hbw
      cases hin : Num.inB x3 y3
      · have HE := hide (HNo.out (by rw [HRg.out]; simp [hin]))
        go_wp2_with (go_at_call 95; refine (refInRange_exact _ _ _).mono ?_; rintro e w' ⟨rfl, rfl⟩)
        go_ret2
        obtain ⟨rfl, rfl⟩ := HE.out
        exact ⟨_, rfl, HBW.out.alloc (by omega) _, World.ownsRow_nil _ _ _ _⟩
      · go_wp2_with (go_at_call 95; refine (refInRange_exact _ _ _).mono ?_; rintro e w' ⟨rfl, rfl⟩)
        go_roundw
        case rel => exact ⟨2, by omega, rfl, HB.out.alloc (by omega) _, fun _ => HR.out.1 (by omega), fun _ => by first | exact hin | trivial, by omega, by omega⟩
        case measure => simp [intOf]
    · have l0 : wr.cell? ⟨w.heap.size + 1 + 1, 4, none⟩ = some (.int .i64 x1) := (hb.cell (p := ⟨w.heap.size + 1 + 1, 4, none⟩) (by first | (simp; done) | (simp; omega))).trans (by go_simp)
      have l1 : wr.cell? ⟨w.heap.size + 1 + 1, 5, none⟩ = some (.int .i64 y1) := (hb.cell (p := ⟨w.heap.size + 1 + 1, 5, none⟩) (by first | (simp; done) | (simp; omega))).trans (by go_simp)
      have l2 : wr.cell? ⟨w.heap.size + 1, 2, none⟩ = some (.bool true) := (hb.cell (p := ⟨w.heap.size + 1, 2, none⟩) (by first | (simp; done) | (simp; omega))).trans (by go_simp)
      clear hb hbw
      cases hin : Num.inB x1 y1
      · have HE := hide (HNo.out (by rw [HRg.out]; simp [hin]))
        go_wp2_with (go_at_call 95; refine (refInRange_exact _ _ _).mono ?_; rintro e w' ⟨rfl, rfl⟩)
        go_ret2
        obtain ⟨rfl, rfl⟩ := HE.out
        exact ⟨_, rfl, HBW.out.alloc (by omega) _, World.ownsRow_nil _ _ _ _⟩
      · go_wp2_with (go_at_call 95; refine (refInRange_exact _ _ _).mono ?_; rintro e w' ⟨rfl, rfl⟩)
        go_roundw
        case rel => exact ⟨3, by omega, rfl, HB.out.alloc (by omega) _, fun _ => HR.out.1 (by omega), fun _ => HR.out.2.1 (by omega), fun _ => by first | exact hin | trivial, by omega⟩
        case measure => simp [intOf]
    · have l0 : wr.cell? ⟨w.heap.size + 1 + 1, 6, none⟩ = some (.int .i64 x2) := (hb.cell (p := ⟨w.heap.size + 1 + 1, 6, none⟩) (by first | (simp; done) | (simp; omega))).trans (by go_simp)
      have l1 : wr.cell? ⟨w.heap.size + 1 + 1, 7, none⟩ = some (.int .i64 y2) := (hb.cell (p := ⟨w.heap.size + 1 + 1, 7, none⟩) (by first | (simp; done) | (simp; omega))).trans (by go_simp)
      have l2 : wr.cell? ⟨w.heap.size + 1, 3, none⟩ = some (.bool true) := (hb.cell (p := ⟨w.heap.size + 1, 3, none⟩) (by first | (simp; done) | (simp; omega))).trans (by go_simp)
      clear hb hbw
      cases hin : Num.inB x2 y2
      · have HE := hide (HNo.out (by rw [HRg.out]; simp [hin]))
        go_wp2_with (go_at_call 95; refine (refInRange_exact _ _ _).mono ?_; rintro e w' ⟨rfl, rfl⟩)
        go_ret2
        obtain ⟨rfl, rfl⟩ := HE.out
        exact ⟨_, rfl, HBW.out.alloc (by omega) _, World.ownsRow_nil _ _ _ _⟩
      · go_wp2_with (go_at_call 95; refine (refInRange_exact _ _ _).mono ?_; rintro e w' ⟨rfl, rfl⟩)
        go_roundw
        case rel => exact ⟨4, by omega, rfl, HB.out.alloc (by omega) _, fun _ => HR.out.1 (by omega), fun _ => HR.out.2.1 (by omega), fun _ => HR.out.2.2.1 (by omega), fun _ => by first | exact hin | trivial⟩
        case measure => simp [intOf]
    · have hr : Num.rangeB (⟨2, x0, y0, x1, y1, x2, y2, x3, y3⟩ : Num.Sg) = true := by
        rw [HRg.out, HR.out.1 (by omega), HR.out.2.1 (by omega), HR.out.2.2.1 (by omega), HR.out.2.2.2 (by omega)]; rfl
      have q0 := Num.inB_yes (HR.out.1 (by omega))
      have q1 := Num.inB_yes (HR.out.2.1 (by omega))
      have q2 := Num.inB_yes (HR.out.2.2.1 (by omega))
      have q3 := Num.inB_yes (HR.out.2.2.2 (by omega))
      obtain ⟨⟨eE, eL⟩, eN, n1, n2⟩ := HYes.out hr
      have HP := hide (fun w => parts_any 2 x0 y0 x1 y1 x2 y2 x3 y3 w hr)
      obtain ⟨N, hN⟩ : ∃ N, N = Num.curveN (⟨2, x0, y0, x1, y1, x2, y2, x3, y3⟩ : Num.Sg) := ⟨_, rfl⟩
      rw [← hN] at eN n1 n2 eL
      rw [← eN] at HP
      have hrow0 : wr.rowIs w.heap.size 44 9 F9 := row_below ((HRow.out.alloc _).alloc _) hb (by omega)
      obtain ⟨c0, c1, c2, c3, c4, c5, c6, c7, c8⟩ := HCe.out _ _ hrow0
      have HR0 := hide hrow0
      have HSX : Hid (∀ j : Nat, Num.spotX (⟨2, x0, y0, x1, y1, x2, y2, x3, y3⟩ : Num.Sg) N j = Num.hu (Num.cSum ((N : Int) - j) j x0 x1 x2 x3) ((N : Int) * N * N)) := fun j => by unfold Num.spotX; rw [if_neg (by show ¬ (2 : Int) = 1; decide), if_pos rfl]
      have HSY : Hid (∀ j : Nat, Num.spotY (⟨2, x0, y0, x1, y1, x2, y2, x3, y3⟩ : Num.Sg) N j = Num.hu (Num.cSum ((N : Int) - j) j y0 y1 y2 y3) ((N : Int) * N * N)) := fun j => by unfold Num.spotY; rw [if_neg (by show ¬ (2 : Int) = 1; decide), if_pos rfl]
      obtain ⟨GG, hGG⟩ : ∃ GG : Num.Sg, GG = (⟨2, x0, y0, x1, y1, x2, y2, x3, y3⟩ : Num.Sg) := ⟨_, rfl⟩
      rw [← hGG] at HSX HSY eL
      clear HNo HYes
      subst eE eL
      clear hb hbw hrow0 hr eN hN hGG
      go_wp2_with fail
      refine (HP.out _).mono ?_
      rintro e w2 ⟨rfl, hb2⟩
      have hs2 := hb2.size
      have hbW : Below w.heap.size w w2 := HBW.out.trans (hb2.mono (by omega))
      have HR2 := hide (row_below HR0.out hb2 HR0.out.lt)
      clear hb2 c0 c1 c2 c3 c4 c5 c6 c7 c8
      go_wp2_with fail
      go_loopw [9, 10] (fun v t wr => ∃ j : Nat, j ≤ N + 1 ∧ t = .int .i64 j ∧ Below w.heap.size w wr ∧ wr.rowIs w.heap.size 44 9 F9 ∧ wr.ownsRow (w.heap.size + 1) 41 2 v j ((spotsU GG N j).flatMap spC)) (fun _ t _ => N + 1 - (intOf t).toNat)
      case atStart => exact ⟨0, by omega, rfl, hbW, HR2.out, World.ownsRow_nil _ _ _ _⟩
      case round =>
        obtain ⟨v, rfl⟩ : ∃ v, v = u9 := ⟨_, rfl⟩
        obtain ⟨j, hj, rfl, hb, hrow, hown⟩ := hrel
        have hsz := hrow.lt
        by_cases hlt : j < N + 1
        · have hd1 : decide ((j : Int) ≤ (N : Int)) = true := by simp; omega
          obtain ⟨c0, c1, c2, c3, c4, c5, c6, c7, c8⟩ := HCe.out _ _ hrow
          have HW := hide hrow
          clear hrow
          go_wp2_with fail
          refine (mix_any _ _ _ _ _ _ _ (by omega) (by omega) (by omega) (by omega) (by omega) (by omega) (by omega)).mono ?_
          rintro e w3 ⟨rfl, hb3⟩
          have hs3 := hb3.size
          have hown3 := owns_of_block hown (fun b hbb => hb3.block b (hown.lt b hbb).2)
          have hB3 : Below w.heap.size w w3 := hb.trans (hb3.mono (by omega))
          have HW3 := hide (row_below HW.out hb3 HW.out.lt)
          have HSu := hide (spotsU_succ GG N j)
          have HLe := hide (spotsU_len GG N j)
          clear hb hb3 hown c0 c1 c2 c3 c4 c5 c6 c7 c8
          obtain ⟨c0, c1, c2, c3, c4, c5, c6, c7, c8⟩ := HCe.out _ _ HW3.out
          obtain ⟨sx, hsx⟩ : ∃ sx, sx = Num.spotX GG N j := ⟨_, rfl⟩
          obtain ⟨sy, hsy⟩ : ∃ sy, sy = Num.spotY GG N j := ⟨_, rfl⟩
          rw [← hsx, ← hsy] at HSu
          obtain ⟨xs, hxs⟩ : ∃ xs, xs = (spotsU GG N j).flatMap spC := ⟨_, rfl⟩
          rw [← hxs] at hown3
          have HX := hide hxs
          have zz : w.heap.size < w3.heap.size := by omega
          have HSxy := hide (And.intro (HSX.out j) (HSY.out j))
          obtain ⟨m0, hm0⟩ : ∃ m0, m0 = Num.mx ((N : Int) - j) j x0 x3 := ⟨_, rfl⟩
          obtain ⟨m1, hm1⟩ : ∃ m1, m1 = Num.mx ((N : Int) - j) j y0 y3 := ⟨_, rfl⟩
          rw [← hm0, ← hm1]
          rw [← hsx, ← hsy] at HSxy
          clear hsx hsy hxs hm0 hm1
          go_wp2_with fail
          refine (cubics_any _ _ _ _ _ _ _ _ _ _ _ _ (by omega) (by omega) (by omega) (by omega) q0.1 q0.2 q2.1 q2.2 q3.1 q3.2 q1.1 q1.2).mono ?_
          rw [← HSxy.out.1, ← HSxy.out.2]
          rintro e w5 ⟨rfl, hb5⟩
          obtain ⟨hc5, hf5⟩ := bcell hb5
          have zz5 : w3.heap.size < w5.heap.size := by have := hb5.size; simp at this; omega
          have g0 : w5.cell? ⟨w3.heap.size, 0, none⟩ = some (.int .i64 m0) := by rw [hc5 _ _ (by simp)]; go_simp
          have g1 : w5.cell? ⟨w3.heap.size, 1, none⟩ = some (.int .i64 m1) := by rw [hc5 _ _ (by simp)]; go_simp
          have f0 : w5.frozen? ⟨w3.heap.size, 0, none⟩ = false := by rw [hf5 _ _ (by simp)]; go_simp
          have f1 : w5.frozen? ⟨w3.heap.size, 1, none⟩ = false := by rw [hf5 _ _ (by simp)]; go_simp
          have hB5 : Below w.heap.size w w5 := (hB3.alloc (by omega) _).trans (hb5.mono (by simp; omega))
          have hownA := hown3.alloc (.cells #[.int .i64 m0, .int .i64 m1] 41)
          have hown5 := owns_of_block hownA (fun b hbb => hb5.block b (hownA.lt b hbb).2)
          have hne5 : v.ownBlock ≠ some w3.heap.size := fun e => by have := (hown3.lt _ e).2; omega
          have HW5 := hide (row_below (HW3.out.alloc (.cells #[.int .i64 m0, .int .i64 m1] 41)) hb5 (by simp; omega))
          clear hb5 hc5 hf5 hownA c0 c1 c2 c3 c4 c5 c6 c7 c8
          go_wp2_with (at_builtin; refine wpList_append_lies _ rfl _ _ 48 rfl (w.heap.size + 1) 41 i0 (.agg #[.int .i64 0, .int .i64 0]) 2 16 Try.underlying48 hi0 hz0 hz1 hz2 rfl (by omega) v j xs rfl (((owns_set (p := ⟨w3.heap.size, 1, none⟩) (owns_set (p := ⟨w3.heap.size, 0, none⟩) hown5 hne5) hne5)).alloc _) ⟨w5.heap.size, 0, none⟩ 1 1 [.int .i64 sx, .int .i64 sy] rfl rfl ?e1 ?e2 (by omega) ?e3 ?e4 ?e5 (w5.heap.size + 1) (by simp) ?_)
          try (case e1 => exact news_sp _ [.int .i64 sx, .int .i64 sy] _ _ (by simp))
          case e2 => first | exact one_two _ _ | exact ⟨rfl, rfl⟩
          case e3 => unfold maxLen; omega
          case e4 => omega
          case e5 => first | omega | (simp; omega)
          intro g cap w4 hown4 hgrow hat hlt4
          have hb4 : Below w.heap.size w w4 := (((hB5.setCell (by simp; omega) _).setCell (by simp; omega) _).alloc (by simp; omega) _).grown hgrow (by simp; omega) (fun q hq => by have := (hown3.lt q hq).1; omega)
          have hR4 : w4.rowIs w.heap.size 44 9 F9 := (((HW5.out.setOther (by simp; omega) _).setOther (by simp; omega) _).alloc _).of_block (hgrow.block _ (by simp; omega) (fun e => by have := (hown3.lt _ e.symm).1; omega))
          have HO4 : Hid (w4.ownsRow (w.heap.size + 1) 41 2 (.slice (some ⟨g, 0, none⟩) (j + 1) cap) (j + 1) ((spotsU GG N (j + 1)).flatMap spC)) := by
            unfold Hid
            have := push_sp (l := spotsU GG N j) (l' := spotsU GG N (j + 1)) (p := (sx, sy)) (m := j + 1) (by rw [← HX.out]; exact hown4) HSu.out (by rw [HLe.out])
            rw [spotsU_len] at this
            exact this
          have HR4 := hide hR4
          clear hown4 hgrow hat hown3 hR4 HW3 HW hown5 g0 g1 f0 f1 hne5
          go_wp2
          go_roundw
          case rel => exact ⟨j + 1, by omega, by go_num, hb4, HR4.out, HO4.out⟩
          case measure => simp [intOf]; omega
        · have e : j = N + 1 := by omega
          have hd0 : decide ((j : Int) ≤ (N : Int)) = false := by simp; omega
          have HO := hide hown
          have HBz := hide hb
          clear hown hrow hb
          go_wp2
          go_ret2
          refine ⟨v, rfl, HBz.out, ?_⟩
          have h := owns_mono HO.out (Nat.le_succ w.heap.size)
          rw [e] at h
          rw [spotsU_len]
          exact h

set_option maxHeartbeats 400000 in
theorem refCurve_any (k x0 y0 x1 y1 x2 y2 x3 y3 : Int) (w : World) :
    Calls Try.prog 60 #[.agg #[.int .i64 k, .int .i64 x0, .int .i64 y0, .int .i64 x1, .int .i64 y1, .int .i64 x2, .int .i64 y2, .int .i64 x3, .int .i64 y3]] w fun e w' => ∃ v, e = .returned (.tuple #[v, .int .i64 (Num.curveE (⟨k, x0, y0, x1, y1, x2, y2, x3, y3⟩ : Num.Sg))]) ∧ Below w.heap.size w w' ∧ w'.ownsRow w.heap.size 41 2 v (Num.curveL (⟨k, x0, y0, x1, y1, x2, y2, x3, y3⟩ : Num.Sg)).length ((Num.curveL (⟨k, x0, y0, x1, y1, x2, y2, x3, y3⟩ : Num.Sg)).flatMap spC) := by
  cases hk : Num.kindB (⟨k, x0, y0, x1, y1, x2, y2, x3, y3⟩ : Num.Sg)
  · have hE : Num.curveE (⟨k, x0, y0, x1, y1, x2, y2, x3, y3⟩ : Num.Sg) = 3 := by unfold Num.curveE; rw [hk]; rfl
    rw [hE, curve_no hE (by decide)]
    obtain ⟨k0, k1, k2⟩ := Num.kind_no hk
    simp only at k0 k1 k2
    clear hk hE
    by_cases hlt : k < 0
    · go_enter Try.func60, Try.ntmps60
      go_wp2
      go_ret2
      exact ⟨_, rfl, by (repeat (any_goals (first | exact Below.refl _ _ | assumption | refine Below.drew ?_ | refine below_drewN ?_ _ | refine Below.setCell ?_ ?_ _ | refine Below.alloc ?_ ?_ _ | omega | (simp; done) | (simp; omega)))), World.ownsRow_nil _ _ _ _⟩
    · have hgt : 2 < k := by omega
      go_enter Try.func60, Try.ntmps60
      go_wp2
      go_ret2
      exact ⟨_, rfl, by (repeat (any_goals (first | exact Below.refl _ _ | assumption | refine Below.drew ?_ | refine below_drewN ?_ _ | refine Below.setCell ?_ ?_ _ | refine Below.alloc ?_ ?_ _ | omega | (simp; done) | (simp; omega)))), World.ownsRow_nil _ _ _ _⟩
  · have hkk : k = 0 ∨ k = 1 ∨ k = 2 := Num.kind_yes hk
    clear hk
    rcases hkk with rfl | rfl | rfl
    · exact refCurve0 _ _ _ _ _ _ _ _ _
    · exact refCurve1 _ _ _ _ _ _ _ _ _
    · exact refCurve2 _ _ _ _ _ _ _ _ _
end Go.Proofs.Ytkhcjkmifddlbaa
