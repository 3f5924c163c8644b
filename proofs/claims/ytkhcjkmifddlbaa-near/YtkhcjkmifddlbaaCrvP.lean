/- The program's Curve, whole. -/
import Derived.Test.YtkhcjkmifddlbaaSpots
namespace Go.Proofs.Ytkhcjkmifddlbaa
open Go.RowKit Go.Deep

/-- The cells of a segment. -/
def sg9 (k x0 y0 x1 y1 x2 y2 x3 y3 : Int) (q : Nat) : Value := [Value.int .i64 k, .int .i64 x0, .int .i64 y0, .int .i64 x1, .int .i64 y1, .int .i64 x2, .int .i64 y2, .int .i64 x3, .int .i64 y3][q]?.getD undef
theorem sg9_row (k x0 y0 x1 y1 x2 y2 x3 y3 : Int) (w : World) (t : TypeId) : (w.alloc (.cells #[.int .i64 k, .int .i64 x0, .int .i64 y0, .int .i64 x1, .int .i64 y1, .int .i64 x2, .int .i64 y2, .int .i64 x3, .int .i64 y3] t)).rowIs w.heap.size t 9 (sg9 k x0 y0 x1 y1 x2 y2 x3 y3) := by
  refine World.rowIs_alloc w #[.int .i64 k, .int .i64 x0, .int .i64 y0, .int .i64 x1, .int .i64 y1, .int .i64 x2, .int .i64 y2, .int .i64 x3, .int .i64 y3] t (sg9 k x0 y0 x1 y1 x2 y2 x3 y3) (fun i hi => ?_)
  have hi : i < 9 := hi
  rcases (show i = 0 ∨ i = 1 ∨ i = 2 ∨ i = 3 ∨ i = 4 ∨ i = 5 ∨ i = 6 ∨ i = 7 ∨ i = 8 by omega) with rfl | rfl | rfl | rfl | rfl | rfl | rfl | rfl | rfl <;> rfl
theorem sg9_cells {k x0 y0 x1 y1 x2 y2 x3 y3 : Int} {w : World} {b : Nat} {t : TypeId} (h : w.rowIs b t 9 (sg9 k x0 y0 x1 y1 x2 y2 x3 y3)) :
    w.cell? ⟨b, 0, none⟩ = some (.int .i64 k) ∧ w.cell? ⟨b, 1, none⟩ = some (.int .i64 x0) ∧ w.cell? ⟨b, 2, none⟩ = some (.int .i64 y0) ∧ w.cell? ⟨b, 3, none⟩ = some (.int .i64 x1) ∧ w.cell? ⟨b, 4, none⟩ = some (.int .i64 y1) ∧ w.cell? ⟨b, 5, none⟩ = some (.int .i64 x2) ∧ w.cell? ⟨b, 6, none⟩ = some (.int .i64 y2) ∧ w.cell? ⟨b, 7, none⟩ = some (.int .i64 x3) ∧ w.cell? ⟨b, 8, none⟩ = some (.int .i64 y3) :=
  ⟨h.cell (i := 0) (by omega), h.cell (i := 1) (by omega), h.cell (i := 2) (by omega), h.cell (i := 3) (by omega), h.cell (i := 4) (by omega), h.cell (i := 5) (by omega), h.cell (i := 6) (by omega), h.cell (i := 7) (by omega), h.cell (i := 8) (by omega)⟩

/-- The first j spots of a segment. -/
def spotsU (g : Num.Sg) (N j : Nat) : List (Int × Int) := (List.range j).map fun (i : Nat) => (Num.spotX g N i, Num.spotY g N i)
theorem spotsU_succ (g : Num.Sg) (N j : Nat) : spotsU g N (j + 1) = spotsU g N j ++ [(Num.spotX g N j, Num.spotY g N j)] := by
  unfold spotsU; rw [List.range_succ, List.map_append]; rfl
theorem spotsU_len (g : Num.Sg) (N j : Nat) : (spotsU g N j).length = j := by simp [spotsU]
theorem curveN_eq {g : Num.Sg} (hr : Num.rangeB g = true) : (Num.curveN g : Int) = Num.stepsV (Num.needV g) ∧ 1 ≤ Num.curveN g ∧ Num.curveN g ≤ 111 := by
  have h := Num.needV_bd hr
  have h1 := Num.stepsV_pos h.2
  have h2 := Num.stepsV_le h.2
  unfold Num.curveN
  omega
theorem curve_yes {g : Num.Sg} (hk : Num.kindB g = true) (hr : Num.rangeB g = true) : Num.curveE g = 0 ∧ Num.curveL g = spotsU g (Num.curveN g) (Num.curveN g + 1) := by
  have e : Num.curveE g = 0 := by unfold Num.curveE; rw [hk, hr]; rfl
  refine ⟨e, ?_⟩
  unfold Num.curveL
  rw [if_pos e]
  rfl
theorem curve_no {g : Num.Sg} {E : Int} (h : Num.curveE g = E) (hE : E ≠ 0) : Num.curveL g = [] := by
  unfold Num.curveL
  rw [if_neg (by omega)]

set_option maxRecDepth 100000 in
set_option maxHeartbeats 4000000 in
theorem chordCurve_any (k x0 y0 x1 y1 x2 y2 x3 y3 : Int) (w : World) :
    Calls Try.prog 69 #[.agg #[.int .i64 k, .int .i64 x0, .int .i64 y0, .int .i64 x1, .int .i64 y1, .int .i64 x2, .int .i64 y2, .int .i64 x3, .int .i64 y3]] w fun e w' => ∃ v, e = .returned (.tuple #[v, .int .i64 (Num.curveE (⟨k, x0, y0, x1, y1, x2, y2, x3, y3⟩ : Num.Sg))]) ∧ Below w.heap.size w w' ∧ w'.ownsRow w.heap.size 41 2 v (Num.curveL (⟨k, x0, y0, x1, y1, x2, y2, x3, y3⟩ : Num.Sg)).length ((Num.curveL (⟨k, x0, y0, x1, y1, x2, y2, x3, y3⟩ : Num.Sg)).flatMap spC) := by
  cases hk : Num.kindB (⟨k, x0, y0, x1, y1, x2, y2, x3, y3⟩ : Num.Sg)
  · have hE : Num.curveE (⟨k, x0, y0, x1, y1, x2, y2, x3, y3⟩ : Num.Sg) = 3 := by unfold Num.curveE; rw [hk]; rfl
    rw [hE, curve_no hE (by decide)]
    obtain ⟨k0, k1, k2⟩ := Num.kind_no hk
    simp only at k0 k1 k2
    have t0 : (k != 0) = true := by simpa using k0
    have t1 : (k != 1) = true := by simpa using k1
    have t2 : (k != 2) = true := by simpa using k2
    clear hk hE k0 k1 k2
    go_enter Try.func69, Try.ntmps69
    go_wp2
    go_ret2
    exact ⟨_, rfl, by (repeat (any_goals (first | exact Below.refl _ _ | assumption | refine Below.drew ?_ | refine below_drewN ?_ _ | refine Below.setCell ?_ ?_ _ | refine Below.alloc ?_ ?_ _ | omega | (simp; done) | (simp; omega)))), World.ownsRow_nil _ _ _ _⟩
  cases hr : Num.rangeB (⟨k, x0, y0, x1, y1, x2, y2, x3, y3⟩ : Num.Sg)
  · have hE : Num.curveE (⟨k, x0, y0, x1, y1, x2, y2, x3, y3⟩ : Num.Sg) = 6 := by unfold Num.curveE; rw [hk, hr]; rfl
    rw [hE, curve_no hE (by decide)]
    have HC := hide (segRange_any k x0 y0 x1 y1 x2 y2 x3 y3 (w.alloc (.cells #[.int .i64 k, .int .i64 x0, .int .i64 y0, .int .i64 x1, .int .i64 y1, .int .i64 x2, .int .i64 y2, .int .i64 x3, .int .i64 y3] 44)))
    rw [hr] at HC
    have hkk : k = 0 ∨ k = 1 ∨ k = 2 := Num.kind_yes hk
    clear hk hr hE
    rcases hkk with rfl | rfl | rfl
    all_goals
      go_enter Try.func69, Try.ntmps69
      go_wp2_with fail
      refine HC.out.mono ?_
      rintro e w1 ⟨rfl, hb⟩
      have hb0 : Below w.heap.size w w1 := Below.trans (by (repeat (any_goals (first | exact Below.refl _ _ | assumption | refine Below.drew ?_ | refine below_drewN ?_ _ | refine Below.setCell ?_ ?_ _ | refine Below.alloc ?_ ?_ _ | omega | (simp; done) | (simp; omega))))) (hb.mono (by simp))
      clear hb
      go_wp2
      go_ret2
      exact ⟨_, rfl, hb0, World.ownsRow_nil _ _ _ _⟩
  · obtain ⟨eE, eL⟩ := curve_yes hk hr
    obtain ⟨eN, n1, n2⟩ := curveN_eq hr
    rw [eE, eL]
    have hkk : k = 0 ∨ k = 1 ∨ k = 2 := Num.kind_yes hk
    have HC := hide (fun w => segRange_any k x0 y0 x1 y1 x2 y2 x3 y3 w)
    rw [hr] at HC
    have HD := hide (fun w => chords_any k x0 y0 x1 y1 x2 y2 x3 y3 w hr)
    obtain ⟨N, hN⟩ : ∃ N, N = Num.curveN (⟨k, x0, y0, x1, y1, x2, y2, x3, y3⟩ : Num.Sg) := ⟨_, rfl⟩
    rw [← hN] at eN n1 n2 ⊢
    rw [← eN] at HD
    have HF := hide (fun (i : Int) w (h1 : 0 ≤ i) (h2 : i ≤ (N : Int)) => spotOf_any k x0 y0 x1 y1 x2 y2 x3 y3 i N w hr h1 h2 (by omega) (by omega))
    have HRow := hide (sg9_row k x0 y0 x1 y1 x2 y2 x3 y3 w 44)
    have HCe := hide (fun (w : World) (b : Nat) (h : w.rowIs b 44 9 (sg9 k x0 y0 x1 y1 x2 y2 x3 y3)) => sg9_cells h)
    obtain ⟨F9, hF9⟩ : ∃ F9, F9 = sg9 k x0 y0 x1 y1 x2 y2 x3 y3 := ⟨_, rfl⟩
    rw [← hF9] at HRow HCe
    obtain ⟨GG, hGG⟩ : ∃ GG : Num.Sg, GG = (⟨k, x0, y0, x1, y1, x2, y2, x3, y3⟩ : Num.Sg) := ⟨_, rfl⟩
    rw [← hGG] at HF ⊢
    clear hk hr hN eN eE eL hF9 hGG
    obtain ⟨i0, hi0, hz0, hz1, hz2⟩ := info_parts info_spot
    rcases hkk with rfl | rfl | rfl
    all_goals
      go_enter Try.func69, Try.ntmps69
      go_wp2_with fail
      refine (HC.out _).mono ?_
      rintro e w1 ⟨rfl, hb⟩
      have hs1 : w.heap.size < w1.heap.size := by have := hb.size; simp at this; omega
      have HR1 := hide (row_below HRow.out hb HRow.out.lt)
      have hb0 : Below w.heap.size w w1 := Below.trans (by (repeat (any_goals (first | exact Below.refl _ _ | assumption | refine Below.drew ?_ | refine below_drewN ?_ _ | refine Below.setCell ?_ ?_ _ | refine Below.alloc ?_ ?_ _ | omega | (simp; done) | (simp; omega))))) (hb.mono (by simp))
      obtain ⟨c0, c1, c2, c3, c4, c5, c6, c7, c8⟩ := HCe.out _ _ HR1.out
      clear hb
      go_wp2_with fail
      refine (HD.out _).mono ?_
      rintro e w2 ⟨rfl, hb⟩
      have hs2 : w.heap.size < w2.heap.size := by have := hb.size; omega
      have HR2 := hide (row_below HR1.out hb HR1.out.lt)
      have hb2 : Below w.heap.size w w2 := hb0.trans (hb.mono (by omega))
      clear hb hb0 c0 c1 c2 c3 c4 c5 c6 c7 c8
      go_wp2_with fail
      go_loopw [4, 6] (fun v t wr => ∃ j : Nat, j ≤ N + 1 ∧ t = .int .i64 j ∧ Below w.heap.size w wr ∧ wr.rowIs w.heap.size 44 9 F9 ∧ wr.ownsRow (w.heap.size + 1) 41 2 v j ((spotsU GG N j).flatMap spC)) (fun _ t _ => N + 1 - (intOf t).toNat)
      case atStart => exact ⟨0, by omega, rfl, hb2, HR2.out, World.ownsRow_nil _ _ _ _⟩
      case round =>
        obtain ⟨v, rfl⟩ : ∃ v, v = u4 := ⟨_, rfl⟩
        obtain ⟨j, hj, rfl, hb, hrow, hown⟩ := hrel
        have hsz := hrow.lt
        by_cases hlt : j < N + 1
        · have hd1 : decide ((j : Int) ≤ (N : Int)) = true := by simp; omega
          obtain ⟨c0, c1, c2, c3, c4, c5, c6, c7, c8⟩ := HCe.out _ _ hrow
          have HW := hide hrow
          clear hrow
          go_wp2_with fail
          refine (HF.out j _ (by omega) (by omega)).mono ?_
          rintro e w3 ⟨rfl, hb3⟩
          have hs3 := hb3.size
          have hown3 := owns_of_block hown (fun b hbb => hb3.block b (hown.lt b hbb).2)
          have hB3 : Below w.heap.size w w3 := hb.trans (hb3.mono (by omega))
          have HW3 := hide (row_below HW.out hb3 HW.out.lt)
          have HSu := hide (spotsU_succ GG N j)
          have HLe := hide (spotsU_len GG N j)
          clear hb hb3 hown c0 c1 c2 c3 c4 c5 c6 c7 c8
          obtain ⟨sx, hsx⟩ : ∃ sx, sx = Num.spotX GG N j := ⟨_, rfl⟩
          obtain ⟨sy, hsy⟩ : ∃ sy, sy = Num.spotY GG N j := ⟨_, rfl⟩
          rw [← hsx, ← hsy] at HSu ⊢
          obtain ⟨xs, hxs⟩ : ∃ xs, xs = (spotsU GG N j).flatMap spC := ⟨_, rfl⟩
          rw [← hxs] at hown3
          have HX := hide hxs
          clear hsx hsy hxs
          go_wp2_with (at_builtin; refine wpList_append_lies _ rfl _ _ 48 rfl (w.heap.size + 1) 41 i0 (.agg #[.int .i64 0, .int .i64 0]) 2 16 Try.underlying48 hi0 hz0 hz1 hz2 rfl (by omega) v j xs rfl ((hown3.alloc _).alloc _) ⟨w3.heap.size + 1, 0, none⟩ 1 1 [.int .i64 sx, .int .i64 sy] rfl rfl ?e1 ?e2 (by omega) ?e3 ?e4 ?e5 (w3.heap.size + 1 + 1) (by simp) ?_)
          try (case e1 => exact news_sp (w3.alloc _) [.int .i64 sx, .int .i64 sy] _ _ (by simp))
          case e2 => first | exact one_two _ _ | exact ⟨rfl, rfl⟩
          case e3 => unfold maxLen; omega
          case e4 => omega
          case e5 => first | omega | (simp; omega)
          intro g cap w4 hown4 hgrow hat hlt4
          have hb4 : Below w.heap.size w w4 := ((hB3.alloc (by omega) _).alloc (by simp; omega) _).grown hgrow (by simp; omega) (fun q hq => by have := (hown3.lt q hq).1; omega)
          have hR4 : w4.rowIs w.heap.size 44 9 F9 := ((HW3.out.alloc _).alloc _).of_block (hgrow.block _ (by simp; omega) (fun e => by have := (hown3.lt _ e.symm).1; omega))
          have HO4 : Hid (w4.ownsRow (w.heap.size + 1) 41 2 (.slice (some ⟨g, 0, none⟩) (j + 1) cap) (j + 1) ((spotsU GG N (j + 1)).flatMap spC)) := by
            unfold Hid
            have := push_sp (l := spotsU GG N j) (l' := spotsU GG N (j + 1)) (p := (sx, sy)) (m := j + 1) (by rw [← HX.out]; exact hown4) HSu.out (by rw [HLe.out])
            rw [spotsU_len] at this
            exact this
          have HR4 := hide hR4
          clear hown4 hgrow hat hown3 hR4 HW3 HW
          go_wp2
          go_roundw
          case rel => exact ⟨j + 1, by omega, by go_num, hb4, HR4.out, HO4.out⟩
          case measure => simp [intOf]; omega
        · have e : j = N + 1 := by omega
          have hd0 : decide ((j : Int) ≤ (N : Int)) = false := by simp; omega
          have HO := hide hown
          have HB := hide hb
          clear hown hrow hb
          go_wp2
          go_ret2
          refine ⟨v, rfl, HB.out, ?_⟩
          have h := owns_mono HO.out (Nat.le_succ w.heap.size)
          rw [e] at h
          rw [spotsU_len]
          exact h

set_option maxHeartbeats 400000 in
theorem glyphCurve_any (k x0 y0 x1 y1 x2 y2 x3 y3 : Int) (w : World) :
    Calls Try.prog 22 #[.agg #[.int .i64 k, .int .i64 x0, .int .i64 y0, .int .i64 x1, .int .i64 y1, .int .i64 x2, .int .i64 y2, .int .i64 x3, .int .i64 y3]] w fun e w' => ∃ v, e = .returned (.tuple #[v, .int .i64 (Num.curveE (⟨k, x0, y0, x1, y1, x2, y2, x3, y3⟩ : Num.Sg))]) ∧ Below w.heap.size w w' ∧ w'.ownsRow w.heap.size 41 2 v (Num.curveL (⟨k, x0, y0, x1, y1, x2, y2, x3, y3⟩ : Num.Sg)).length ((Num.curveL (⟨k, x0, y0, x1, y1, x2, y2, x3, y3⟩ : Num.Sg)).flatMap spC) := by
  go_enter Try.func22, Try.ntmps22
  go_wp2_with fail
  refine (chordCurve_any _ _ _ _ _ _ _ _ _ _).mono ?_
  rintro e w1 ⟨v, rfl, hb, hown⟩
  have hb0 : Below w.heap.size w w1 := Below.trans (by (repeat (any_goals (first | exact Below.refl _ _ | assumption | refine Below.drew ?_ | refine below_drewN ?_ _ | refine Below.setCell ?_ ?_ _ | refine Below.alloc ?_ ?_ _ | omega | (simp; done) | (simp; omega))))) (hb.mono (by simp))
  have HW := hide (owns_mono (base' := w.heap.size) hown (by simp))
  clear hown hb
  go_wp2
  go_ret2
  exact ⟨v, rfl, hb0, HW.out⟩
end Go.Proofs.Ytkhcjkmifddlbaa
