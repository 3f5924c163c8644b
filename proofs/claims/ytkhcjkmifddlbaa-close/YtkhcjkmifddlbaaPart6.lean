/- Joined: CrvP, PlaceB, Trc, Chk, ChkB, RefChk. -/
import Derived.Test.YtkhcjkmifddlbaaPart4
import Derived.Test.YtkhcjkmifddlbaaPart1
import Derived.Test.YtkhcjkmifddlbaaPart3
/- CrvP -/
namespace Go.Proofs.Ytkhcjkmifddlbaa
open Go.RowKit Go.Deep

/-- The cells of a segment. -/
def sg9 (k x0 y0 x1 y1 x2 y2 x3 y3 : Int) (q : Nat) : Value := [Value.int .i64 k, .int .i64 x0, .int .i64 y0, .int .i64 x1, .int .i64 y1, .int .i64 x2, .int .i64 y2, .int .i64 x3, .int .i64 y3][q]?.getD undef
theorem sg9_row (k x0 y0 x1 y1 x2 y2 x3 y3 : Int) (w : World) (t : TypeId) : (w.alloc (.cells #[.int .i64 k, .int .i64 x0, .int .i64 y0, .int .i64 x1, .int .i64 y1, .int .i64 x2, .int .i64 y2, .int .i64 x3, .int .i64 y3] t)).rowIs w.heap.size t 9 (sg9 k x0 y0 x1 y1 x2 y2 x3 y3) := by
  refine World.rowIs_alloc w #[.int .i64 k, .int .i64 x0, .int .i64 y0, .int .i64 x1, .int .i64 y1, .int .i64 x2, .int .i64 y2, .int .i64 x3, .int .i64 y3] t (sg9 k x0 y0 x1 y1 x2 y2 x3 y3) (fun i hi => ?_)
  have hi : i < 9 := hi
  rcases (show i = 0 ∨ i = 1 ∨ i = 2 ∨ i = 3 ∨ i = 4 ∨ i = 5 ∨ i = 6 ∨ i = 7 ∨ i = 8 by omega) with rfl | rfl | rfl | rfl | rfl | rfl | rfl | rfl | rfl <;> rfl
theorem sg9_cells {k x0 y0 x1 y1 x2 y2 x3 y3 : Int} {w : World} {b : Nat} {t : TypeId} (h : w.rowIs b t 9 (sg9 k x0 y0 x1 y1 x2 y2 x3 y3)) :
    w.cell? ⟨b, 0, none⟩ = some (.int .i64 k) ∧ w.cell? ⟨b, 1, none⟩ = some (.int .i64 x0) ∧ w.cell? ⟨b, 2, none⟩ = some (.int .i64 y0) ∧ w.cell? ⟨b, 3, none⟩ = some (.int .i64 x1) ∧ w.cell? ⟨b, 4, none⟩ = some (.int .i64 y1) ∧ w.cell? ⟨b, 5, none⟩ = some (.int .i64 x2) ∧ w.cell? ⟨b, 6, none⟩ = some (.int .i64 y2) ∧ w.cell? ⟨b, 7, none⟩ = some (.int .i64 x3) ∧ w.cell? ⟨b, 8, none⟩ = some (.int .i64 y3) :=
  ⟨h.cell (i := 0) (by omega), h.cell (i := 1) (by omega), h.cell (i := 2) (by omega), h.cell (i := 3) (by omega), h.cell (i := 4) (by omega), h.cell (i := 5) (by omega), h.cell (i := 6) (by omega), h.cell (i := 7) (by omega), h.cell (i := 8) (by omega)⟩

/-- The first j spots of a segment. -/
def spotsU (g : Num.Sg) (N j : Nat) : List (Int × Int) := (List.range j).map fun (i : Nat) => (Num.spotX g N i, Num.spotY g N i)
theorem spotsU_succ (g : Num.Sg) (N j : Nat) : spotsU g N (j + 1) = spotsU g N j ++ [(Num.spotX g N j, Num.spotY g N j)] := by
  unfold spotsU; rw [List.range_succ, List.map_append]; rfl
theorem spotsU_len (g : Num.Sg) (N j : Nat) : (spotsU g N j).length = j := by simp [spotsU]
theorem curveN_eq {g : Num.Sg} (hr : Num.rangeB g = true) : (Num.curveN g : Int) = Num.stepsV (Num.needV g) ∧ 1 ≤ Num.curveN g ∧ Num.curveN g ≤ 111 := by
  have h := Num.needV_bd hr
  have h1 := Num.stepsV_pos h.2
  have h2 := Num.stepsV_le h.2
  unfold Num.curveN
  omega
theorem curve_yes {g : Num.Sg} (hk : Num.kindB g = true) (hr : Num.rangeB g = true) : Num.curveE g = 0 ∧ Num.curveL g = spotsU g (Num.curveN g) (Num.curveN g + 1) := by
  have e : Num.curveE g = 0 := by unfold Num.curveE; rw [hk, hr]; rfl
  refine ⟨e, ?_⟩
  unfold Num.curveL
  rw [if_pos e]
  rfl
theorem curve_no {g : Num.Sg} {E : Int} (h : Num.curveE g = E) (hE : E ≠ 0) : Num.curveL g = [] := by
  unfold Num.curveL
  rw [if_neg (by omega)]

set_option maxRecDepth 100000 in
set_option maxHeartbeats 4000000 in
theorem chordCurve_any (k x0 y0 x1 y1 x2 y2 x3 y3 : Int) (w : World) :
    Calls Try.prog 69 #[.agg #[.int .i64 k, .int .i64 x0, .int .i64 y0, .int .i64 x1, .int .i64 y1, .int .i64 x2, .int .i64 y2, .int .i64 x3, .int .i64 y3]] w fun e w' => ∃ v, e = .returned (.tuple #[v, .int .i64 (Num.curveE (⟨k, x0, y0, x1, y1, x2, y2, x3, y3⟩ : Num.Sg))]) ∧ Below w.heap.size w w' ∧ w'.ownsRow w.heap.size 41 2 v (Num.curveL (⟨k, x0, y0, x1, y1, x2, y2, x3, y3⟩ : Num.Sg)).length ((Num.curveL (⟨k, x0, y0, x1, y1, x2, y2, x3, y3⟩ : Num.Sg)).flatMap spC) := by
  cases hk : Num.kindB (⟨k, x0, y0, x1, y1, x2, y2, x3, y3⟩ : Num.Sg)
  · have hE : Num.curveE (⟨k, x0, y0, x1, y1, x2, y2, x3, y3⟩ : Num.Sg) = 3 := by unfold Num.curveE; rw [hk]; rfl
    rw [hE, curve_no hE (by decide)]
    obtain ⟨k0, k1, k2⟩ := Num.kind_no hk
    simp only at k0 k1 k2
    have t0 : (k != 0) = true := by simpa using k0
    have t1 : (k != 1) = true := by simpa using k1
    have t2 : (k != 2) = true := by simpa using k2
    clear hk hE k0 k1 k2
    go_enter Try.func69, Try.ntmps69
    go_wp2
    go_ret2
    exact ⟨_, rfl, by (repeat (any_goals (first | exact Below.refl _ _ | assumption | refine Below.drew ?_ | refine below_drewN ?_ _ | refine Below.setCell ?_ ?_ _ | refine Below.alloc ?_ ?_ _ | omega | (simp; done) | (simp; omega)))), World.ownsRow_nil _ _ _ _⟩
  cases hr : Num.rangeB (⟨k, x0, y0, x1, y1, x2, y2, x3, y3⟩ : Num.Sg)
  · have hE : Num.curveE (⟨k, x0, y0, x1, y1, x2, y2, x3, y3⟩ : Num.Sg) = 6 := by unfold Num.curveE; rw [hk, hr]; rfl
    rw [hE, curve_no hE (by decide)]
    have HC := hide (segRange_any k x0 y0 x1 y1 x2 y2 x3 y3 (w.alloc (.cells #[.int .i64 k, .int .i64 x0, .int .i64 y0, .int .i64 x1, .int .i64 y1, .int .i64 x2, .int .i64 y2, .int .i64 x3, .int .i64 y3] 44)))
    rw [hr] at HC
    have hkk : k = 0 ∨ k = 1 ∨ k = 2 := Num.kind_yes hk
    clear hk hr hE
    rcases hkk with rfl | rfl | rfl
    all_goals
      go_enter Try.func69, Try.ntmps69
      go_wp2_with fail
      refine HC.out.mono ?_
      rintro e w1 ⟨rfl, hb⟩
      have hb0 : Below w.heap.size w w1 := Below.trans (by (repeat (any_goals (first | exact Below.refl _ _ | assumption | refine Below.drew ?_ | refine below_drewN ?_ _ | refine Below.setCell ?_ ?_ _ | refine Below.alloc ?_ ?_ _ | omega | (simp; done) | (simp; omega))))) (hb.mono (by simp))
      clear hb
      go_wp2
      go_ret2
      exact ⟨_, rfl, hb0, World.ownsRow_nil _ _ _ _⟩
  · obtain ⟨eE, eL⟩ := curve_yes hk hr
    obtain ⟨eN, n1, n2⟩ := curveN_eq hr
    rw [eE, eL]
    have hkk : k = 0 ∨ k = 1 ∨ k = 2 := Num.kind_yes hk
    have HC := hide (fun w => segRange_any k x0 y0 x1 y1 x2 y2 x3 y3 w)
    rw [hr] at HC
    have HD := hide (fun w => chords_any k x0 y0 x1 y1 x2 y2 x3 y3 w hr)
    obtain ⟨N, hN⟩ : ∃ N, N = Num.curveN (⟨k, x0, y0, x1, y1, x2, y2, x3, y3⟩ : Num.Sg) := ⟨_, rfl⟩
    rw [← hN] at eN n1 n2 ⊢
    rw [← eN] at HD
    have HF := hide (fun (i : Int) w (h1 : 0 ≤ i) (h2 : i ≤ (N : Int)) => spotOf_any k x0 y0 x1 y1 x2 y2 x3 y3 i N w hr h1 h2 (by omega) (by omega))
    have HRow := hide (sg9_row k x0 y0 x1 y1 x2 y2 x3 y3 w 44)
    have HCe := hide (fun (w : World) (b : Nat) (h : w.rowIs b 44 9 (sg9 k x0 y0 x1 y1 x2 y2 x3 y3)) => sg9_cells h)
    obtain ⟨F9, hF9⟩ : ∃ F9, F9 = sg9 k x0 y0 x1 y1 x2 y2 x3 y3 := ⟨_, rfl⟩
    rw [← hF9] at HRow HCe
    obtain ⟨GG, hGG⟩ : ∃ GG : Num.Sg, GG = (⟨k, x0, y0, x1, y1, x2, y2, x3, y3⟩ : Num.Sg) := ⟨_, rfl⟩
    rw [← hGG] at HF ⊢
    clear hk hr hN eN eE eL hF9 hGG
    obtain ⟨i0, hi0, hz0, hz1, hz2⟩ := info_parts info_spot
    rcases hkk with rfl | rfl | rfl
    all_goals
      go_enter Try.func69, Try.ntmps69
      go_wp2_with fail
      refine (HC.out _).mono ?_
      rintro e w1 ⟨rfl, hb⟩
      have hs1 : w.heap.size < w1.heap.size := by have := hb.size; simp at this; omega
      have HR1 := hide (row_below HRow.out hb HRow.out.lt)
      have hb0 : Below w.heap.size w w1 := Below.trans (by (repeat (any_goals (first | exact Below.refl _ _ | assumption | refine Below.drew ?_ | refine below_drewN ?_ _ | refine Below.setCell ?_ ?_ _ | refine Below.alloc ?_ ?_ _ | omega | (simp; done) | (simp; omega))))) (hb.mono (by simp))
      obtain ⟨c0, c1, c2, c3, c4, c5, c6, c7, c8⟩ := HCe.out _ _ HR1.out
      clear hb
      go_wp2_with fail
      refine (HD.out _).mono ?_
      rintro e w2 ⟨rfl, hb⟩
      have hs2 : w.heap.size < w2.heap.size := by have := hb.size; omega
      have HR2 := hide (row_below HR1.out hb HR1.out.lt)
      have hb2 : Below w.heap.size w w2 := hb0.trans (hb.mono (by omega))
      clear hb hb0 c0 c1 c2 c3 c4 c5 c6 c7 c8
      go_wp2_with fail
      go_loopw [4, 6] (fun v t wr => ∃ j : Nat, j ≤ N + 1 ∧ t = .int .i64 j ∧ Below w.heap.size w wr ∧ wr.rowIs w.heap.size 44 9 F9 ∧ wr.ownsRow (w.heap.size + 1) 41 2 v j ((spotsU GG N j).flatMap spC)) (fun _ t _ => N + 1 - (intOf t).toNat)
      case atStart => exact ⟨0, by omega, rfl, hb2, HR2.out, World.ownsRow_nil _ _ _ _⟩
      case round =>
        obtain ⟨v, rfl⟩ : ∃ v, v = u4 := ⟨_, rfl⟩
        obtain ⟨j, hj, rfl, hb, hrow, hown⟩ := hrel
        have hsz := hrow.lt
        by_cases hlt : j < N + 1
        · have hd1 : decide ((j : Int) ≤ (N : Int)) = true := by simp; omega
          obtain ⟨c0, c1, c2, c3, c4, c5, c6, c7, c8⟩ := HCe.out _ _ hrow
          have HW := hide hrow
          clear hrow
          go_wp2_with fail
          refine (HF.out j _ (by omega) (by omega)).mono ?_
          rintro e w3 ⟨rfl, hb3⟩
          have hs3 := hb3.size
          have hown3 := owns_of_block hown (fun b hbb => hb3.block b (hown.lt b hbb).2)
          have hB3 : Below w.heap.size w w3 := hb.trans (hb3.mono (by omega))
          have HW3 := hide (row_below HW.out hb3 HW.out.lt)
          have HSu := hide (spotsU_succ GG N j)
          have HLe := hide (spotsU_len GG N j)
          clear hb hb3 hown c0 c1 c2 c3 c4 c5 c6 c7 c8
          obtain ⟨sx, hsx⟩ : ∃ sx, sx = Num.spotX GG N j := ⟨_, rfl⟩
          obtain ⟨sy, hsy⟩ : ∃ sy, sy = Num.spotY GG N j := ⟨_, rfl⟩
          rw [← hsx, ← hsy] at HSu ⊢
          obtain ⟨xs, hxs⟩ : ∃ xs, xs = (spotsU GG N j).flatMap spC := ⟨_, rfl⟩
          rw [← hxs] at hown3
          have HX := hide hxs
          clear hsx hsy hxs
          go_wp2_with (at_builtin; refine wpList_append_lies _ rfl _ _ 48 rfl (w.heap.size + 1) 41 i0 (.agg #[.int .i64 0, .int .i64 0]) 2 16 Try.underlying48 hi0 hz0 hz1 hz2 rfl (by omega) v j xs rfl ((hown3.alloc _).alloc _) ⟨w3.heap.size + 1, 0, none⟩ 1 1 [.int .i64 sx, .int .i64 sy] rfl rfl ?e1 ?e2 (by omega) ?e3 ?e4 ?e5 (w3.heap.size + 1 + 1) (by simp) ?_)
          try (case e1 => exact news_sp (w3.alloc _) [.int .i64 sx, .int .i64 sy] _ _ (by simp))
          case e2 => first | exact one_two _ _ | exact ⟨rfl, rfl⟩
          case e3 => unfold maxLen; omega
          case e4 => omega
          case e5 => first | omega | (simp; omega)
          intro g cap w4 hown4 hgrow hat hlt4
          have hb4 : Below w.heap.size w w4 := ((hB3.alloc (by omega) _).alloc (by simp; omega) _).grown hgrow (by simp; omega) (fun q hq => by have := (hown3.lt q hq).1; omega)
          have hR4 : w4.rowIs w.heap.size 44 9 F9 := ((HW3.out.alloc _).alloc _).of_block (hgrow.block _ (by simp; omega) (fun e => by have := (hown3.lt _ e.symm).1; omega))
          have HO4 : Hid (w4.ownsRow (w.heap.size + 1) 41 2 (.slice (some ⟨g, 0, none⟩) (j + 1) cap) (j + 1) ((spotsU GG N (j + 1)).flatMap spC)) := by
            unfold Hid
            have := push_sp (l := spotsU GG N j) (l' := spotsU GG N (j + 1)) (p := (sx, sy)) (m := j + 1) (by rw [← HX.out]; exact hown4) HSu.out (by rw [HLe.out])
            rw [spotsU_len] at this
            exact this
          have HR4 := hide hR4
          clear hown4 hgrow hat hown3 hR4 HW3 HW
          go_wp2
          go_roundw
          case rel => exact ⟨j + 1, by omega, by go_num, hb4, HR4.out, HO4.out⟩
          case measure => simp [intOf]; omega
        · have e : j = N + 1 := by omega
          have hd0 : decide ((j : Int) ≤ (N : Int)) = false := by simp; omega
          have HO := hide hown
          have HB := hide hb
          clear hown hrow hb
          go_wp2
          go_ret2
          refine ⟨v, rfl, HB.out, ?_⟩
          have h := owns_mono HO.out (Nat.le_succ w.heap.size)
          rw [e] at h
          rw [spotsU_len]
          exact h

set_option maxHeartbeats 400000 in
theorem glyphCurve_any (k x0 y0 x1 y1 x2 y2 x3 y3 : Int) (w : World) :
    Calls Try.prog 22 #[.agg #[.int .i64 k, .int .i64 x0, .int .i64 y0, .int .i64 x1, .int .i64 y1, .int .i64 x2, .int .i64 y2, .int .i64 x3, .int .i64 y3]] w fun e w' => ∃ v, e = .returned (.tuple #[v, .int .i64 (Num.curveE (⟨k, x0, y0, x1, y1, x2, y2, x3, y3⟩ : Num.Sg))]) ∧ Below w.heap.size w w' ∧ w'.ownsRow w.heap.size 41 2 v (Num.curveL (⟨k, x0, y0, x1, y1, x2, y2, x3, y3⟩ : Num.Sg)).length ((Num.curveL (⟨k, x0, y0, x1, y1, x2, y2, x3, y3⟩ : Num.Sg)).flatMap spC) := by
  go_enter Try.func22, Try.ntmps22
  go_wp2_with fail
  refine (chordCurve_any _ _ _ _ _ _ _ _ _ _).mono ?_
  rintro e w1 ⟨v, rfl, hb, hown⟩
  have hb0 : Below w.heap.size w w1 := Below.trans (by (repeat (any_goals (first | exact Below.refl _ _ | assumption | refine Below.drew ?_ | refine below_drewN ?_ _ | refine Below.setCell ?_ ?_ _ | refine Below.alloc ?_ ?_ _ | omega | (simp; done) | (simp; omega))))) (hb.mono (by simp))
  have HW := hide (owns_mono (base' := w.heap.size) hown (by simp))
  clear hown hb
  go_wp2
  go_ret2
  exact ⟨v, rfl, hb0, HW.out⟩
end Go.Proofs.Ytkhcjkmifddlbaa

/- PlaceB -/
namespace Go.Proofs.Ytkhcjkmifddlbaa
open Go.RowKit

theorem fair_false {a b c d x y : Int} (h : Num.wi a 65536 = false ∨ Num.wi b 65536 = false ∨ Num.wi c 65536 = false ∨ Num.wi d 65536 = false ∨ Num.wi x 16384 = false ∨ Num.wi y 16384 = false) : false = Num.fairB a b c d x y := by
  unfold Num.fairB
  rcases h with h | h | h | h | h | h <;> simp [h]

set_option maxHeartbeats 1000000 in
theorem refFair_any (a b c d x y : Int) (w : World) :
    Calls Try.prog 93 #[.agg #[.int .i64 a, .int .i64 b, .int .i64 c, .int .i64 d, .int .i64 x, .int .i64 y]] w fun e w' => e = .returned (.bool (Num.fairB a b c d x y)) ∧ Below w.heap.size w w' := by
  go_enter Try.func93, Try.ntmps93
  go_wp2
  go_loop [4] (fun i => ∃ k : Nat, k ≤ 4 ∧ i = .int .i64 k ∧ (1 ≤ k → Num.wi a 65536 = true) ∧ (2 ≤ k → Num.wi b 65536 = true) ∧ (3 ≤ k → Num.wi c 65536 = true) ∧ (4 ≤ k → Num.wi d 65536 = true)) (fun i => 4 - (intOf i).toNat)
  case atStart => exact ⟨0, by omega, rfl, by omega, by omega, by omega, by omega⟩
  case round =>
    obtain ⟨k, hk, rfl, r1, r2, r3, r4⟩ := hrel
    have R := hide (And.intro r1 (And.intro r2 (And.intro r3 r4)))
    clear r1 r2 r3 r4
    rcases (show k = 0 ∨ k = 1 ∨ k = 2 ∨ k = 3 ∨ k = 4 by omega) with rfl | rfl | rfl | rfl | rfl
    · cases hw : Num.wi a 65536
      · rcases Num.wi_no hw with h | h
        · go_wp2
          go_ret
          exact ⟨ret_bool (fair_false (by simp [hw])), by (repeat (any_goals (first | exact Below.refl _ _ | assumption | refine Below.drew ?_ | refine below_drewN ?_ _ | refine Below.setCell ?_ ?_ _ | refine Below.alloc ?_ ?_ _ | omega | (simp; done) | (simp; omega))))⟩
        · go_wp2
          go_ret
          exact ⟨ret_bool (fair_false (by simp [hw])), by (repeat (any_goals (first | exact Below.refl _ _ | assumption | refine Below.drew ?_ | refine below_drewN ?_ _ | refine Below.setCell ?_ ?_ _ | refine Below.alloc ?_ ?_ _ | omega | (simp; done) | (simp; omega))))⟩
      · have h := Num.wi_yes hw
        go_wp2
        go_round
        case rel => exact ⟨1, by omega, rfl, fun _ => by first | exact hw | trivial, by omega, by omega, by omega⟩
        case measure => simp [intOf]
    · cases hw : Num.wi b 65536
      · rcases Num.wi_no hw with h | h
        · go_wp2
          go_ret
          exact ⟨ret_bool (fair_false (by simp [hw])), by (repeat (any_goals (first | exact Below.refl _ _ | assumption | refine Below.drew ?_ | refine below_drewN ?_ _ | refine Below.setCell ?_ ?_ _ | refine Below.alloc ?_ ?_ _ | omega | (simp; done) | (simp; omega))))⟩
        · go_wp2
          go_ret
          exact ⟨ret_bool (fair_false (by simp [hw])), by (repeat (any_goals (first | exact Below.refl _ _ | assumption | refine Below.drew ?_ | refine below_drewN ?_ _ | refine Below.setCell ?_ ?_ _ | refine Below.alloc ?_ ?_ _ | omega | (simp; done) | (simp; omega))))⟩
      · have h := Num.wi_yes hw
        go_wp2
        go_round
        case rel => exact ⟨2, by omega, rfl, fun _ => R.out.1 (by omega), fun _ => by first | exact hw | trivial, by omega, by omega⟩
        case measure => simp [intOf]
    · cases hw : Num.wi c 65536
      · rcases Num.wi_no hw with h | h
        · go_wp2
          go_ret
          exact ⟨ret_bool (fair_false (by simp [hw])), by (repeat (any_goals (first | exact Below.refl _ _ | assumption | refine Below.drew ?_ | refine below_drewN ?_ _ | refine Below.setCell ?_ ?_ _ | refine Below.alloc ?_ ?_ _ | omega | (simp; done) | (simp; omega))))⟩
        · go_wp2
          go_ret
          exact ⟨ret_bool (fair_false (by simp [hw])), by (repeat (any_goals (first | exact Below.refl _ _ | assumption | refine Below.drew ?_ | refine below_drewN ?_ _ | refine Below.setCell ?_ ?_ _ | refine Below.alloc ?_ ?_ _ | omega | (simp; done) | (simp; omega))))⟩
      · have h := Num.wi_yes hw
        go_wp2
        go_round
        case rel => exact ⟨3, by omega, rfl, fun _ => R.out.1 (by omega), fun _ => R.out.2.1 (by omega), fun _ => by first | exact hw | trivial, by omega⟩
        case measure => simp [intOf]
    · cases hw : Num.wi d 65536
      · rcases Num.wi_no hw with h | h
        · go_wp2
          go_ret
          exact ⟨ret_bool (fair_false (by simp [hw])), by (repeat (any_goals (first | exact Below.refl _ _ | assumption | refine Below.drew ?_ | refine below_drewN ?_ _ | refine Below.setCell ?_ ?_ _ | refine Below.alloc ?_ ?_ _ | omega | (simp; done) | (simp; omega))))⟩
        · go_wp2
          go_ret
          exact ⟨ret_bool (fair_false (by simp [hw])), by (repeat (any_goals (first | exact Below.refl _ _ | assumption | refine Below.drew ?_ | refine below_drewN ?_ _ | refine Below.setCell ?_ ?_ _ | refine Below.alloc ?_ ?_ _ | omega | (simp; done) | (simp; omega))))⟩
      · have h := Num.wi_yes hw
        go_wp2
        go_round
        case rel => exact ⟨4, by omega, rfl, fun _ => R.out.1 (by omega), fun _ => R.out.2.1 (by omega), fun _ => R.out.2.2.1 (by omega), fun _ => by first | exact hw | trivial⟩
        case measure => simp [intOf]
    · have e1 := R.out.1 (by omega)
      have e2 := R.out.2.1 (by omega)
      have e3 := R.out.2.2.1 (by omega)
      have e4 := R.out.2.2.2 (by omega)
      have E : Num.fairB a b c d x y = Num.inB x y := by simp [Num.fairB, Num.inB, e1, e2, e3, e4]
      have HE := hide E
      clear E e1 e2 e3 e4
      go_wp2
      all_goals
        go_ret
        refine ⟨ret_bool ?_, by (repeat (any_goals (first | exact Below.refl _ _ | assumption | refine Below.drew ?_ | refine below_drewN ?_ _ | refine Below.setCell ?_ ?_ _ | refine Below.alloc ?_ ?_ _ | omega | (simp; done) | (simp; omega))))⟩
        rw [HE.out]
        simp only [Num.inB, Num.wi]
        simp [*]
        try omega

set_option maxHeartbeats 1000000 in
theorem refPlace_any (a b c d x y s t : Int) (w : World) :
    Calls Try.prog 59 #[.agg #[.int .i64 a, .int .i64 b, .int .i64 c, .int .i64 d, .int .i64 x, .int .i64 y], .agg #[.int .i64 s, .int .i64 t]] w fun e w' =>
      e = .returned (.tuple #[.agg #[.int .i64 (Num.placeV a b c d x y s t).1, .int .i64 (Num.placeV a b c d x y s t).2.1], .int .i64 (Num.placeV a b c d x y s t).2.2]) ∧ Below w.heap.size w w' := by
  by_cases hs : (Num.wi s 8192 && Num.wi t 8192) = false
  · have hV : Num.placeV a b c d x y s t = (0, 0, 4) := by unfold Num.placeV; rw [if_pos hs]
    rw [hV]
    clear hV
    have hs' : (s < -8192 ∨ 8192 < s) ∨ ((-8192 ≤ s ∧ s ≤ 8192) ∧ (t < -8192 ∨ 8192 < t)) := by
      simp [Num.wi] at hs; omega
    clear hs
    rcases hs' with (h | h) | ⟨h0, (h | h)⟩
    all_goals
      go_enter Try.func59, Try.ntmps59
      go_wp2_with fail
      refine bodyPost_ret (v := .tuple #[.agg #[.int .i64 0, .int .i64 0], .int .i64 4]) (by simp [results, Try.results59, go_sem]) rfl ⟨rfl, ?_⟩
      (repeat (any_goals (first | exact Below.refl _ _ | assumption | refine Below.drew ?_ | refine below_drewN ?_ _ | refine Below.setCell ?_ ?_ _ | refine Below.alloc ?_ ?_ _ | omega | (simp; done) | (simp; omega))))
  simp at hs
  obtain ⟨hs, ht⟩ := hs
  have k := Num.wi_yes hs
  have k2 := Num.wi_yes ht
  cases hf : Num.fairB a b c d x y
  · have hV : Num.placeV a b c d x y s t = (0, 0, 5) := by unfold Num.placeV; rw [hs, ht, hf]; rfl
    rw [hV]
    clear hV
    go_enter Try.func59, Try.ntmps59
    go_wp2_with fail
    refine (refFair_any _ _ _ _ _ _ _).mono ?_
    rintro e w1 ⟨rfl, hb⟩
    obtain ⟨hc, hfz⟩ := bcell hb
    have hz : w.heap.size + 1 + 1 < w1.heap.size := by have := hb.size; simp at this; omega
    have hb0 : Below w.heap.size w w1 := Below.trans (by (repeat (any_goals (first | exact Below.refl _ _ | assumption | refine Below.drew ?_ | refine below_drewN ?_ _ | refine Below.setCell ?_ ?_ _ | refine Below.alloc ?_ ?_ _ | omega | (simp; done) | (simp; omega))))) (hb.mono (by simp; omega))
    clear hb
    go_wp2
    refine bodyPost_ret (v := .tuple #[.agg #[.int .i64 0, .int .i64 0], .int .i64 5]) (by simp [results, Try.results59, go_sem, hc]) rfl ⟨rfl, ?_⟩
    (repeat (any_goals (first | exact Below.refl _ _ | assumption | refine Below.drew ?_ | refine below_drewN ?_ _ | refine Below.setCell ?_ ?_ _ | refine Below.alloc ?_ ?_ _ | omega | (simp; done) | (simp; omega))))
  have kf : Num.wi a 65536 = true ∧ Num.wi b 65536 = true ∧ Num.wi c 65536 = true ∧ Num.wi d 65536 = true ∧ Num.wi x 16384 = true ∧ Num.wi y 16384 = true := by
    simp [Num.fairB] at hf; simp [hf]
  obtain ⟨f1, f2, f3, f4, f5, f6⟩ := kf
  have f1 := Num.wi_yes f1; have f2 := Num.wi_yes f2; have f3 := Num.wi_yes f3; have f4 := Num.wi_yes f4; have f5 := Num.wi_yes f5; have f6 := Num.wi_yes f6
  have m1 := Num.mul_bd a s _ _ f1 k
  have m2 := Num.mul_bd b t _ _ f2 k2
  have m3 := Num.mul_bd c s _ _ f3 k
  have m4 := Num.mul_bd d t _ _ f4 k2
  have n1 := Num.hu_le (a * s + b * t) 2048 10000000000 (by omega) (by omega) (by omega) (by omega)
  have n2 := Num.hu_le (c * s + d * t) 2048 10000000000 (by omega) (by omega) (by omega) (by omega)
  go_enter Try.func59, Try.ntmps59
  go_wp2_with fail
  refine (refFair_any _ _ _ _ _ _ _).mono ?_
  rintro e w1 ⟨rfl, hb⟩
  obtain ⟨hc, hfz⟩ := bcell hb
  have hz : w.heap.size + 1 + 1 < w1.heap.size := by have := hb.size; simp at this; omega
  have hb0 : Below w.heap.size w w1 := Below.trans (by (repeat (any_goals (first | exact Below.refl _ _ | assumption | refine Below.drew ?_ | refine below_drewN ?_ _ | refine Below.setCell ?_ ?_ _ | refine Below.alloc ?_ ?_ _ | omega | (simp; done) | (simp; omega))))) (hb.mono (by simp; omega))
  clear hb
  go_wp2_with fail
  refine (half_any _ _ _ (by omega) (by omega) (by omega) (by omega)).mono ?_
  rintro e w1 ⟨rfl, rfl⟩
  go_wp2_with fail
  refine (half_any _ _ _ (by omega) (by omega) (by omega) (by omega)).mono ?_
  rintro e w1 ⟨rfl, rfl⟩
  go_wp2_with fail
  refine (refInRange_any _ _ _).mono ?_
  rintro e w2 ⟨rfl, hb2⟩
  obtain ⟨hc2, hfz2⟩ := bcell hb2
  have hz2' : w1.heap.size < w2.heap.size := by have := hb2.size; simp at this; omega
  have hb3 : Below w.heap.size w w2 := Below.trans (by (repeat (any_goals (first | exact Below.refl _ _ | assumption | refine Below.drew ?_ | refine below_drewN ?_ _ | refine Below.setCell ?_ ?_ _ | refine Below.alloc ?_ ?_ _ | omega | (simp; done) | (simp; omega))))) (hb2.mono (by simp; omega))
  clear hb2 hb0
  have HB3 := hide hb3
  clear hb3
  have q20 : w2.cell? ⟨w.heap.size + 1 + 1, 0, none⟩ = some (.int .i64 0) := by rw [hc2 _ _ (by simp; omega)]; go_simp
  have q21 : w2.cell? ⟨w.heap.size + 1 + 1, 1, none⟩ = some (.int .i64 0) := by rw [hc2 _ _ (by simp; omega)]; go_simp
  have z20 : w2.frozen? ⟨w.heap.size + 1 + 1, 0, none⟩ = false := by rw [hfz2 _ _ (by simp; omega)]; go_simp
  have z21 : w2.frozen? ⟨w.heap.size + 1 + 1, 1, none⟩ = false := by rw [hfz2 _ _ (by simp; omega)]; go_simp
  have u20 : w2.cell? ⟨w1.heap.size, 0, none⟩ = some (.int .i64 (x + Num.hu (a * s + b * t) 2048)) := by rw [hc2 _ _ (by simp)]; go_simp
  have u21 : w2.cell? ⟨w1.heap.size, 1, none⟩ = some (.int .i64 (y + Num.hu (c * s + d * t) 2048)) := by rw [hc2 _ _ (by simp)]; go_simp
  have hz3 : w.heap.size + 1 + 1 < w2.heap.size := by omega
  clear hc2 hfz2 hc hfz
  cases hi : Num.inB (x + Num.hu (a * s + b * t) 2048) (y + Num.hu (c * s + d * t) 2048)
  · have hV : Num.placeV a b c d x y s t = (0, 0, 6) := by unfold Num.placeV; rw [hs, ht, hf, hi]; rfl
    have HV := hide hV
    clear hV
    go_wp2
    refine bodyPost_ret (v := .tuple #[.agg #[.int .i64 0, .int .i64 0], .int .i64 6]) (by simp [results, Try.results59, go_sem, q20, q21]) rfl ⟨by rw [HV.out], ?_⟩
    have := HB3.out
    (repeat (any_goals (first | exact Below.refl _ _ | assumption | refine Below.drew ?_ | refine below_drewN ?_ _ | refine Below.setCell ?_ ?_ _ | refine Below.alloc ?_ ?_ _ | omega | (simp; done) | (simp; omega))))
  · have hV : Num.placeV a b c d x y s t = (x + Num.hu (a * s + b * t) 2048, y + Num.hu (c * s + d * t) 2048, 0) := by unfold Num.placeV; rw [hs, ht, hf, hi]; rfl
    have HV := hide hV
    clear hV
    go_wp2
    refine bodyPost_ret (v := .tuple #[.agg #[.int .i64 (x + Num.hu (a * s + b * t) 2048), .int .i64 (y + Num.hu (c * s + d * t) 2048)], .int .i64 0]) (by simp [results, Try.results59, go_sem, q20, q21]) rfl ⟨by rw [HV.out], ?_⟩
    have := HB3.out
    (repeat (any_goals (first | exact Below.refl _ _ | assumption | refine Below.drew ?_ | refine below_drewN ?_ _ | refine Below.setCell ?_ ?_ _ | refine Below.alloc ?_ ?_ _ | omega | (simp; done) | (simp; omega))))
end Go.Proofs.Ytkhcjkmifddlbaa

/- Trc -/
namespace Go.Proofs.Ytkhcjkmifddlbaa
open Go.RowKit Go.Deep

/-- The cells of a map; of a spot. -/
def mp6 (a b c d x y : Int) (q : Nat) : Value := [Value.int .i64 a, .int .i64 b, .int .i64 c, .int .i64 d, .int .i64 x, .int .i64 y][q]?.getD undef
theorem mp6_row (a b c d x y : Int) (w : World) (t : TypeId) : (w.alloc (.cells #[.int .i64 a, .int .i64 b, .int .i64 c, .int .i64 d, .int .i64 x, .int .i64 y] t)).rowIs w.heap.size t 6 (mp6 a b c d x y) := by
  refine World.rowIs_alloc w #[.int .i64 a, .int .i64 b, .int .i64 c, .int .i64 d, .int .i64 x, .int .i64 y] t (mp6 a b c d x y) (fun i hi => ?_)
  have hi : i < 6 := hi
  rcases (show i = 0 ∨ i = 1 ∨ i = 2 ∨ i = 3 ∨ i = 4 ∨ i = 5 by omega) with rfl | rfl | rfl | rfl | rfl | rfl <;> rfl
theorem mp6_cells {a b c d x y : Int} {w : World} {p : Nat} {t : TypeId} (h : w.rowIs p t 6 (mp6 a b c d x y)) :
    w.cell? ⟨p, 0, none⟩ = some (.int .i64 a) ∧ w.cell? ⟨p, 1, none⟩ = some (.int .i64 b) ∧ w.cell? ⟨p, 2, none⟩ = some (.int .i64 c) ∧ w.cell? ⟨p, 3, none⟩ = some (.int .i64 d) ∧ w.cell? ⟨p, 4, none⟩ = some (.int .i64 x) ∧ w.cell? ⟨p, 5, none⟩ = some (.int .i64 y) :=
  ⟨h.cell (i := 0) (by omega), h.cell (i := 1) (by omega), h.cell (i := 2) (by omega), h.cell (i := 3) (by omega), h.cell (i := 4) (by omega), h.cell (i := 5) (by omega)⟩
def tp2 (x y : Int) (q : Nat) : Value := [Value.int .i64 x, .int .i64 y][q]?.getD undef
theorem tp2_row (x y : Int) (w : World) (t : TypeId) : (w.alloc (.cells #[.int .i64 x, .int .i64 y] t)).rowIs w.heap.size t 2 (tp2 x y) := by
  refine World.rowIs_alloc w #[.int .i64 x, .int .i64 y] t (tp2 x y) (fun i hi => ?_)
  have hi : i < 2 := hi
  rcases (show i = 0 ∨ i = 1 by omega) with rfl | rfl <;> rfl
theorem tp2_cells {x y : Int} {w : World} {b : Nat} {t : TypeId} (h : w.rowIs b t 2 (tp2 x y)) : w.cell? ⟨b, 0, none⟩ = some (.int .i64 x) ∧ w.cell? ⟨b, 1, none⟩ = some (.int .i64 y) :=
  ⟨h.cell (i := 0) (by omega), h.cell (i := 1) (by omega)⟩
theorem set9sg {w : World} {b : Nat} {t : TypeId} {f : Nat → Value} (h : w.rowIs b t 9 f) (v0 v1 v2 v3 v4 v5 v6 v7 v8 : Int) :
    (((((((((w.setCell ⟨b, 0, none⟩ (.int .i64 v0)).setCell ⟨b, 1, none⟩ (.int .i64 v1)).setCell ⟨b, 2, none⟩ (.int .i64 v2)).setCell ⟨b, 3, none⟩ (.int .i64 v3)).setCell ⟨b, 4, none⟩ (.int .i64 v4)).setCell ⟨b, 5, none⟩ (.int .i64 v5)).setCell ⟨b, 6, none⟩ (.int .i64 v6)).setCell ⟨b, 7, none⟩ (.int .i64 v7)).setCell ⟨b, 8, none⟩ (.int .i64 v8)).rowIs b t 9 (sg9 v0 v1 v2 v3 v4 v5 v6 v7 v8) := by
  refine (((((((((h.set 0 _).set 1 _).set 2 _).set 3 _).set 4 _).set 5 _).set 6 _).set 7 _).set 8 _).congr fun q hq => ?_
  rcases (show q = 0 ∨ q = 1 ∨ q = 2 ∨ q = 3 ∨ q = 4 ∨ q = 5 ∨ q = 6 ∨ q = 7 ∨ q = 8 by omega) with rfl | rfl | rfl | rfl | rfl | rfl | rfl | rfl | rfl <;> rfl
theorem zero_frozen {w : World} {b : Nat} {t : TypeId} {f : Nat → Value} (h : w.rowIs b t 9 f) : w.frozen? ⟨b, 0, none⟩ = false ∧ w.frozen? ⟨b, 1, none⟩ = false ∧ w.frozen? ⟨b, 2, none⟩ = false ∧ w.frozen? ⟨b, 3, none⟩ = false ∧ w.frozen? ⟨b, 4, none⟩ = false ∧ w.frozen? ⟨b, 5, none⟩ = false ∧ w.frozen? ⟨b, 6, none⟩ = false ∧ w.frozen? ⟨b, 7, none⟩ = false ∧ w.frozen? ⟨b, 8, none⟩ = false :=
  ⟨h.frozen 0, h.frozen 1, h.frozen 2, h.frozen 3, h.frozen 4, h.frozen 5, h.frozen 6, h.frozen 7, h.frozen 8⟩

set_option maxRecDepth 100000 in
set_option maxHeartbeats 4000000 in
theorem segPut_any (k x0 y0 x1 y1 x2 y2 x3 y3 a b c d x y : Int) (w : World) :
    Calls Try.prog 150 #[.agg #[.int .i64 k, .int .i64 x0, .int .i64 y0, .int .i64 x1, .int .i64 y1, .int .i64 x2, .int .i64 y2, .int .i64 x3, .int .i64 y3], .agg #[.int .i64 a, .int .i64 b, .int .i64 c, .int .i64 d, .int .i64 x, .int .i64 y]] w fun e w' => e = .returned (.tuple #[.agg #[.int .i64 (Num.putG (⟨a, b, c, d, x, y⟩ : Num.Mp) (⟨k, x0, y0, x1, y1, x2, y2, x3, y3⟩ : Num.Sg)).k, .int .i64 (Num.putG (⟨a, b, c, d, x, y⟩ : Num.Mp) (⟨k, x0, y0, x1, y1, x2, y2, x3, y3⟩ : Num.Sg)).x0, .int .i64 (Num.putG (⟨a, b, c, d, x, y⟩ : Num.Mp) (⟨k, x0, y0, x1, y1, x2, y2, x3, y3⟩ : Num.Sg)).y0, .int .i64 (Num.putG (⟨a, b, c, d, x, y⟩ : Num.Mp) (⟨k, x0, y0, x1, y1, x2, y2, x3, y3⟩ : Num.Sg)).x1, .int .i64 (Num.putG (⟨a, b, c, d, x, y⟩ : Num.Mp) (⟨k, x0, y0, x1, y1, x2, y2, x3, y3⟩ : Num.Sg)).y1, .int .i64 (Num.putG (⟨a, b, c, d, x, y⟩ : Num.Mp) (⟨k, x0, y0, x1, y1, x2, y2, x3, y3⟩ : Num.Sg)).x2, .int .i64 (Num.putG (⟨a, b, c, d, x, y⟩ : Num.Mp) (⟨k, x0, y0, x1, y1, x2, y2, x3, y3⟩ : Num.Sg)).y2, .int .i64 (Num.putG (⟨a, b, c, d, x, y⟩ : Num.Mp) (⟨k, x0, y0, x1, y1, x2, y2, x3, y3⟩ : Num.Sg)).x3, .int .i64 (Num.putG (⟨a, b, c, d, x, y⟩ : Num.Mp) (⟨k, x0, y0, x1, y1, x2, y2, x3, y3⟩ : Num.Sg)).y3], .int .i64 (Num.putE (⟨a, b, c, d, x, y⟩ : Num.Mp) (⟨k, x0, y0, x1, y1, x2, y2, x3, y3⟩ : Num.Sg))]) ∧ Below w.heap.size w w' := by
  obtain ⟨Q0, hQ0⟩ : ∃ Q, Q = Num.placeV a b c d x y x0 y0 := ⟨_, rfl⟩
  obtain ⟨Q1, hQ1⟩ : ∃ Q, Q = Num.placeV a b c d x y x1 y1 := ⟨_, rfl⟩
  obtain ⟨Q2, hQ2⟩ : ∃ Q, Q = Num.placeV a b c d x y x2 y2 := ⟨_, rfl⟩
  obtain ⟨Q3, hQ3⟩ : ∃ Q, Q = Num.placeV a b c d x y x3 y3 := ⟨_, rfl⟩
  have HOk : Hid (Num.putOk (⟨a, b, c, d, x, y⟩ : Num.Mp) (⟨k, x0, y0, x1, y1, x2, y2, x3, y3⟩ : Num.Sg) = (Q0.2.2 == 0 && Q1.2.2 == 0 && Q2.2.2 == 0 && Q3.2.2 == 0)) := by unfold Hid; rw [hQ0, hQ1, hQ2, hQ3]; rfl
  have HVv : Hid (Num.putV (⟨a, b, c, d, x, y⟩ : Num.Mp) (⟨k, x0, y0, x1, y1, x2, y2, x3, y3⟩ : Num.Sg) = ⟨k, Q0.1, Q0.2.1, Q1.1, Q1.2.1, Q2.1, Q2.2.1, Q3.1, Q3.2.1⟩) := by unfold Hid; rw [hQ0, hQ1, hQ2, hQ3]; rfl
  have HNo : Hid (Num.putOk (⟨a, b, c, d, x, y⟩ : Num.Mp) (⟨k, x0, y0, x1, y1, x2, y2, x3, y3⟩ : Num.Sg) = false → Num.putG (⟨a, b, c, d, x, y⟩ : Num.Mp) (⟨k, x0, y0, x1, y1, x2, y2, x3, y3⟩ : Num.Sg) = ⟨0, 0, 0, 0, 0, 0, 0, 0, 0⟩ ∧ Num.putE (⟨a, b, c, d, x, y⟩ : Num.Mp) (⟨k, x0, y0, x1, y1, x2, y2, x3, y3⟩ : Num.Sg) = 6) := fun h => by unfold Num.putG Num.putE; rw [h]; exact ⟨rfl, rfl⟩
  have HYe : Hid (Num.putOk (⟨a, b, c, d, x, y⟩ : Num.Mp) (⟨k, x0, y0, x1, y1, x2, y2, x3, y3⟩ : Num.Sg) = true → Num.putG (⟨a, b, c, d, x, y⟩ : Num.Mp) (⟨k, x0, y0, x1, y1, x2, y2, x3, y3⟩ : Num.Sg) = Num.putV (⟨a, b, c, d, x, y⟩ : Num.Mp) (⟨k, x0, y0, x1, y1, x2, y2, x3, y3⟩ : Num.Sg) ∧ Num.putE (⟨a, b, c, d, x, y⟩ : Num.Mp) (⟨k, x0, y0, x1, y1, x2, y2, x3, y3⟩ : Num.Sg) = 0) := fun h => by unfold Num.putG Num.putE; rw [h]; exact ⟨rfl, rfl⟩
  obtain ⟨PG, hPG⟩ : ∃ PG, PG = Num.putG (⟨a, b, c, d, x, y⟩ : Num.Mp) (⟨k, x0, y0, x1, y1, x2, y2, x3, y3⟩ : Num.Sg) := ⟨_, rfl⟩
  obtain ⟨PE, hPE⟩ : ∃ PE, PE = Num.putE (⟨a, b, c, d, x, y⟩ : Num.Mp) (⟨k, x0, y0, x1, y1, x2, y2, x3, y3⟩ : Num.Sg) := ⟨_, rfl⟩
  rw [← hPG, ← hPE] at HNo HYe ⊢
  rw [HOk.out] at HNo HYe
  rw [HVv.out] at HYe
  have HQ0 := hide hQ0
  have HQ1 := hide hQ1
  have HQ2 := hide hQ2
  have HQ3 := hide hQ3
  clear hQ0 hQ1 hQ2 hQ3 hPG hPE HOk HVv
  have HR0 := hide (sg9_row k x0 y0 x1 y1 x2 y2 x3 y3 w 44)
  have HM0 : Hid (((w.alloc (.cells #[.int .i64 k, .int .i64 x0, .int .i64 y0, .int .i64 x1, .int .i64 y1, .int .i64 x2, .int .i64 y2, .int .i64 x3, .int .i64 y3] 44)).alloc (.cells #[.int .i64 a, .int .i64 b, .int .i64 c, .int .i64 d, .int .i64 x, .int .i64 y] 39)).rowIs (w.heap.size + 1) 39 6 (mp6 a b c d x y)) := by
    have h := mp6_row a b c d x y (w.alloc (.cells #[.int .i64 k, .int .i64 x0, .int .i64 y0, .int .i64 x1, .int .i64 y1, .int .i64 x2, .int .i64 y2, .int .i64 x3, .int .i64 y3] 44)) 39
    rw [nblk_alloc] at h
    exact h
  have HZ0 : Hid ((((w.alloc (.cells #[.int .i64 k, .int .i64 x0, .int .i64 y0, .int .i64 x1, .int .i64 y1, .int .i64 x2, .int .i64 y2, .int .i64 x3, .int .i64 y3] 44)).alloc (.cells #[.int .i64 a, .int .i64 b, .int .i64 c, .int .i64 d, .int .i64 x, .int .i64 y] 39)).alloc (.cells #[.int .i64 0, .int .i64 0, .int .i64 0, .int .i64 0, .int .i64 0, .int .i64 0, .int .i64 0, .int .i64 0, .int .i64 0] 44)).rowIs (w.heap.size + 1 + 1) 44 9 (sg9 0 0 0 0 0 0 0 0 0)) := by
    have h := sg9_row 0 0 0 0 0 0 0 0 0 ((w.alloc (.cells #[.int .i64 k, .int .i64 x0, .int .i64 y0, .int .i64 x1, .int .i64 y1, .int .i64 x2, .int .i64 y2, .int .i64 x3, .int .i64 y3] 44)).alloc (.cells #[.int .i64 a, .int .i64 b, .int .i64 c, .int .i64 d, .int .i64 x, .int .i64 y] 39)) 44
    rw [nblk_alloc, nblk_alloc] at h
    exact h
  go_enter Try.func150, Try.ntmps150
  go_wp2_with fail
  refine (place_any _ _ _ _ _ _ _ _ _).mono ?_
  rw [← HQ0.out]
  rintro e w1 ⟨rfl, hb⟩
  have hz1 : w.heap.size + 1 + 1 < w1.heap.size := by have := hb.size; simp at this; omega
  have HR1 := hide (row_below ((HR0.out.alloc _).alloc _) hb (by simp; omega))
  have HM1 := hide (row_below (HM0.out.alloc _) hb (by simp))
  have HZ1 := hide (row_below HZ0.out hb (by simp))
  have HB1 : Hid (Below w.heap.size w w1) := Below.trans (by (repeat (any_goals (first | exact Below.refl _ _ | assumption | refine Below.drew ?_ | refine below_drewN ?_ _ | refine Below.setCell ?_ ?_ _ | refine Below.alloc ?_ ?_ _ | omega | (simp; done) | (simp; omega))))) (hb.mono (by simp; omega))
  have ya1 : w.heap.size < w1.heap.size := by omega
  have yb1 : w.heap.size + 1 < w1.heap.size := by omega
  have yc1 : w.heap.size + 1 + 1 < w1.heap.size := by omega
  clear hb
  obtain ⟨c0, c1, c2, c3, c4, c5, c6, c7, c8⟩ := sg9_cells HR1.out
  obtain ⟨d0, d1, d2, d3, d4, d5⟩ := mp6_cells HM1.out
  go_wp2_with fail
  clear c0 c1 c2 c3 c4 c5 c6 c7 c8 d0 d1 d2 d3 d4 d5
  refine (place_any _ _ _ _ _ _ _ _ _).mono ?_
  rw [← HQ1.out]
  rintro e w2 ⟨rfl, hb⟩
  have hz2 : w1.heap.size < w2.heap.size := by have := hb.size; simp at this; omega
  have HR2 := hide (row_below (HR1.out.alloc (.cells #[.int .i64 Q0.1, .int .i64 Q0.2.1] 41)) hb (by simp; omega))
  have HM2 := hide (row_below (HM1.out.alloc (.cells #[.int .i64 Q0.1, .int .i64 Q0.2.1] 41)) hb (by simp; omega))
  have HZ2 := hide (row_below (HZ1.out.alloc (.cells #[.int .i64 Q0.1, .int .i64 Q0.2.1] 41)) hb (by simp; omega))
  have HB2 : Hid (Below w.heap.size w w2) := HB1.out.trans (((Below.refl _ _).alloc (Nat.le_refl _) (.cells #[.int .i64 Q0.1, .int .i64 Q0.2.1] 41)).trans (hb.mono (by simp)) |>.mono (by omega))
  have HS1_2 := hide (row_below (tp2_row Q0.1 Q0.2.1 w1 41) hb (by simp))
  have ya2 : w.heap.size < w2.heap.size := by omega
  have yb2 : w.heap.size + 1 < w2.heap.size := by omega
  have yc2 : w.heap.size + 1 + 1 < w2.heap.size := by omega
  clear hb
  obtain ⟨c0, c1, c2, c3, c4, c5, c6, c7, c8⟩ := sg9_cells HR2.out
  obtain ⟨d0, d1, d2, d3, d4, d5⟩ := mp6_cells HM2.out
  go_wp2_with fail
  clear c0 c1 c2 c3 c4 c5 c6 c7 c8 d0 d1 d2 d3 d4 d5
  refine (place_any _ _ _ _ _ _ _ _ _).mono ?_
  rw [← HQ2.out]
  rintro e w3 ⟨rfl, hb⟩
  have hz3 : w2.heap.size < w3.heap.size := by have := hb.size; simp at this; omega
  have HR3 := hide (row_below (HR2.out.alloc (.cells #[.int .i64 Q1.1, .int .i64 Q1.2.1] 41)) hb (by simp; omega))
  have HM3 := hide (row_below (HM2.out.alloc (.cells #[.int .i64 Q1.1, .int .i64 Q1.2.1] 41)) hb (by simp; omega))
  have HZ3 := hide (row_below (HZ2.out.alloc (.cells #[.int .i64 Q1.1, .int .i64 Q1.2.1] 41)) hb (by simp; omega))
  have HB3 : Hid (Below w.heap.size w w3) := HB2.out.trans (((Below.refl _ _).alloc (Nat.le_refl _) (.cells #[.int .i64 Q1.1, .int .i64 Q1.2.1] 41)).trans (hb.mono (by simp)) |>.mono (by omega))
  have HS1_3 := hide (row_below (HS1_2.out.alloc (.cells #[.int .i64 Q1.1, .int .i64 Q1.2.1] 41)) hb (by simp; omega))
  have HS2_3 := hide (row_below (tp2_row Q1.1 Q1.2.1 w2 41) hb (by simp))
  have ya3 : w.heap.size < w3.heap.size := by omega
  have yb3 : w.heap.size + 1 < w3.heap.size := by omega
  have yc3 : w.heap.size + 1 + 1 < w3.heap.size := by omega
  have yd1_3 : w1.heap.size < w3.heap.size := by omega
  clear hb
  obtain ⟨c0, c1, c2, c3, c4, c5, c6, c7, c8⟩ := sg9_cells HR3.out
  obtain ⟨d0, d1, d2, d3, d4, d5⟩ := mp6_cells HM3.out
  go_wp2_with fail
  clear c0 c1 c2 c3 c4 c5 c6 c7 c8 d0 d1 d2 d3 d4 d5
  refine (place_any _ _ _ _ _ _ _ _ _).mono ?_
  rw [← HQ3.out]
  rintro e w4 ⟨rfl, hb⟩
  have hz4 : w3.heap.size < w4.heap.size := by have := hb.size; simp at this; omega
  have HR4 := hide (row_below (HR3.out.alloc (.cells #[.int .i64 Q2.1, .int .i64 Q2.2.1] 41)) hb (by simp; omega))
  have HM4 := hide (row_below (HM3.out.alloc (.cells #[.int .i64 Q2.1, .int .i64 Q2.2.1] 41)) hb (by simp; omega))
  have HZ4 := hide (row_below (HZ3.out.alloc (.cells #[.int .i64 Q2.1, .int .i64 Q2.2.1] 41)) hb (by simp; omega))
  have HB4 : Hid (Below w.heap.size w w4) := HB3.out.trans (((Below.refl _ _).alloc (Nat.le_refl _) (.cells #[.int .i64 Q2.1, .int .i64 Q2.2.1] 41)).trans (hb.mono (by simp)) |>.mono (by omega))
  have HS1_4 := hide (row_below (HS1_3.out.alloc (.cells #[.int .i64 Q2.1, .int .i64 Q2.2.1] 41)) hb (by simp; omega))
  have HS2_4 := hide (row_below (HS2_3.out.alloc (.cells #[.int .i64 Q2.1, .int .i64 Q2.2.1] 41)) hb (by simp; omega))
  have HS3_4 := hide (row_below (tp2_row Q2.1 Q2.2.1 w3 41) hb (by simp))
  have ya4 : w.heap.size < w4.heap.size := by omega
  have yb4 : w.heap.size + 1 < w4.heap.size := by omega
  have yc4 : w.heap.size + 1 + 1 < w4.heap.size := by omega
  have yd1_4 : w1.heap.size < w4.heap.size := by omega
  have yd2_4 : w2.heap.size < w4.heap.size := by omega
  clear hb
  obtain ⟨c0, c1, c2, c3, c4, c5, c6, c7, c8⟩ := sg9_cells HR4.out
  obtain ⟨r0, r1, r2, r3, r4, r5, r6, r7, r8⟩ := sg9_cells HZ4.out
  obtain ⟨z0, z1, z2, z3, z4, z5, z6, z7, z8⟩ := zero_frozen HZ4.out
  obtain ⟨s10, s11⟩ := tp2_cells HS1_4.out
  obtain ⟨s20, s21⟩ := tp2_cells HS2_4.out
  obtain ⟨s30, s31⟩ := tp2_cells HS3_4.out
  by_cases h0 : Q0.2.2 = 0
  case neg =>
    obtain ⟨rfl, rfl⟩ := HNo.out (by simp [h0])
    have t0 : (Q0.2.2 != 0) = true := by simpa using h0
    clear h0 HYe HNo
    go_wp2
    obtain ⟨wF, hwF⟩ : ∃ wF, wF = (((((((((w4.setCell ⟨w.heap.size + 1 + 1, 0, none⟩ (.int .i64 0)).setCell ⟨w.heap.size + 1 + 1, 1, none⟩ (.int .i64 0)).setCell ⟨w.heap.size + 1 + 1, 2, none⟩ (.int .i64 0)).setCell ⟨w.heap.size + 1 + 1, 3, none⟩ (.int .i64 0)).setCell ⟨w.heap.size + 1 + 1, 4, none⟩ (.int .i64 0)).setCell ⟨w.heap.size + 1 + 1, 5, none⟩ (.int .i64 0)).setCell ⟨w.heap.size + 1 + 1, 6, none⟩ (.int .i64 0)).setCell ⟨w.heap.size + 1 + 1, 7, none⟩ (.int .i64 0)).setCell ⟨w.heap.size + 1 + 1, 8, none⟩ (.int .i64 0)).alloc (.cells #[.int .i64 Q3.1, .int .i64 Q3.2.1] 41) := ⟨_, rfl⟩
    rw [← hwF]
    have hRF : wF.rowIs (w.heap.size + 1 + 1) 44 9 (sg9 0 0 0 0 0 0 0 0 0) := by rw [hwF]; exact (set9sg HZ4.out 0 0 0 0 0 0 0 0 0).alloc _
    have hp : ∀ q : Nat, w.heap.size ≤ (⟨w.heap.size + 1 + 1, q, none⟩ : Addr).block := fun q => by show w.heap.size ≤ w.heap.size + 1 + 1; omega
    have hBF : Below w.heap.size w wF := by rw [hwF]; exact (((((((((HB4.out.setCell (hp 0) _).setCell (hp 1) _).setCell (hp 2) _).setCell (hp 3) _).setCell (hp 4) _).setCell (hp 5) _).setCell (hp 6) _).setCell (hp 7) _).setCell (hp 8) _).alloc (by simp; omega) _
    obtain ⟨g0, g1, g2, g3, g4, g5, g6, g7, g8⟩ := sg9_cells hRF
    exact bodyPost_ret (v := .tuple #[.agg #[.int .i64 0, .int .i64 0, .int .i64 0, .int .i64 0, .int .i64 0, .int .i64 0, .int .i64 0, .int .i64 0, .int .i64 0], .int .i64 6]) (by simp [results, Try.results150, go_sem, g0, g1, g2, g3, g4, g5, g6, g7, g8]) rfl ⟨rfl, hBF⟩
  by_cases h1 : Q1.2.2 = 0
  case neg =>
    obtain ⟨rfl, rfl⟩ := HNo.out (by simp [h0, h1])
    have t1 : (Q1.2.2 != 0) = true := by simpa using h1
    have t0 : (Q0.2.2 != 0) = false := by simpa using h0
    clear h0 h1 HYe HNo
    go_wp2
    obtain ⟨wF, hwF⟩ : ∃ wF, wF = (((((((((w4.setCell ⟨w.heap.size + 1 + 1, 0, none⟩ (.int .i64 0)).setCell ⟨w.heap.size + 1 + 1, 1, none⟩ (.int .i64 0)).setCell ⟨w.heap.size + 1 + 1, 2, none⟩ (.int .i64 0)).setCell ⟨w.heap.size + 1 + 1, 3, none⟩ (.int .i64 0)).setCell ⟨w.heap.size + 1 + 1, 4, none⟩ (.int .i64 0)).setCell ⟨w.heap.size + 1 + 1, 5, none⟩ (.int .i64 0)).setCell ⟨w.heap.size + 1 + 1, 6, none⟩ (.int .i64 0)).setCell ⟨w.heap.size + 1 + 1, 7, none⟩ (.int .i64 0)).setCell ⟨w.heap.size + 1 + 1, 8, none⟩ (.int .i64 0)).alloc (.cells #[.int .i64 Q3.1, .int .i64 Q3.2.1] 41) := ⟨_, rfl⟩
    rw [← hwF]
    have hRF : wF.rowIs (w.heap.size + 1 + 1) 44 9 (sg9 0 0 0 0 0 0 0 0 0) := by rw [hwF]; exact (set9sg HZ4.out 0 0 0 0 0 0 0 0 0).alloc _
    have hp : ∀ q : Nat, w.heap.size ≤ (⟨w.heap.size + 1 + 1, q, none⟩ : Addr).block := fun q => by show w.heap.size ≤ w.heap.size + 1 + 1; omega
    have hBF : Below w.heap.size w wF := by rw [hwF]; exact (((((((((HB4.out.setCell (hp 0) _).setCell (hp 1) _).setCell (hp 2) _).setCell (hp 3) _).setCell (hp 4) _).setCell (hp 5) _).setCell (hp 6) _).setCell (hp 7) _).setCell (hp 8) _).alloc (by simp; omega) _
    obtain ⟨g0, g1, g2, g3, g4, g5, g6, g7, g8⟩ := sg9_cells hRF
    exact bodyPost_ret (v := .tuple #[.agg #[.int .i64 0, .int .i64 0, .int .i64 0, .int .i64 0, .int .i64 0, .int .i64 0, .int .i64 0, .int .i64 0, .int .i64 0], .int .i64 6]) (by simp [results, Try.results150, go_sem, g0, g1, g2, g3, g4, g5, g6, g7, g8]) rfl ⟨rfl, hBF⟩
  by_cases h2 : Q2.2.2 = 0
  case neg =>
    obtain ⟨rfl, rfl⟩ := HNo.out (by simp [h0, h1, h2])
    have t2 : (Q2.2.2 != 0) = true := by simpa using h2
    have t0 : (Q0.2.2 != 0) = false := by simpa using h0
    have t1 : (Q1.2.2 != 0) = false := by simpa using h1
    clear h0 h1 h2 HYe HNo
    go_wp2
    obtain ⟨wF, hwF⟩ : ∃ wF, wF = (((((((((w4.setCell ⟨w.heap.size + 1 + 1, 0, none⟩ (.int .i64 0)).setCell ⟨w.heap.size + 1 + 1, 1, none⟩ (.int .i64 0)).setCell ⟨w.heap.size + 1 + 1, 2, none⟩ (.int .i64 0)).setCell ⟨w.heap.size + 1 + 1, 3, none⟩ (.int .i64 0)).setCell ⟨w.heap.size + 1 + 1, 4, none⟩ (.int .i64 0)).setCell ⟨w.heap.size + 1 + 1, 5, none⟩ (.int .i64 0)).setCell ⟨w.heap.size + 1 + 1, 6, none⟩ (.int .i64 0)).setCell ⟨w.heap.size + 1 + 1, 7, none⟩ (.int .i64 0)).setCell ⟨w.heap.size + 1 + 1, 8, none⟩ (.int .i64 0)).alloc (.cells #[.int .i64 Q3.1, .int .i64 Q3.2.1] 41) := ⟨_, rfl⟩
    rw [← hwF]
    have hRF : wF.rowIs (w.heap.size + 1 + 1) 44 9 (sg9 0 0 0 0 0 0 0 0 0) := by rw [hwF]; exact (set9sg HZ4.out 0 0 0 0 0 0 0 0 0).alloc _
    have hp : ∀ q : Nat, w.heap.size ≤ (⟨w.heap.size + 1 + 1, q, none⟩ : Addr).block := fun q => by show w.heap.size ≤ w.heap.size + 1 + 1; omega
    have hBF : Below w.heap.size w wF := by rw [hwF]; exact (((((((((HB4.out.setCell (hp 0) _).setCell (hp 1) _).setCell (hp 2) _).setCell (hp 3) _).setCell (hp 4) _).setCell (hp 5) _).setCell (hp 6) _).setCell (hp 7) _).setCell (hp 8) _).alloc (by simp; omega) _
    obtain ⟨g0, g1, g2, g3, g4, g5, g6, g7, g8⟩ := sg9_cells hRF
    exact bodyPost_ret (v := .tuple #[.agg #[.int .i64 0, .int .i64 0, .int .i64 0, .int .i64 0, .int .i64 0, .int .i64 0, .int .i64 0, .int .i64 0, .int .i64 0], .int .i64 6]) (by simp [results, Try.results150, go_sem, g0, g1, g2, g3, g4, g5, g6, g7, g8]) rfl ⟨rfl, hBF⟩
  by_cases h3 : Q3.2.2 = 0
  case neg =>
    obtain ⟨rfl, rfl⟩ := HNo.out (by simp [h0, h1, h2, h3])
    have t3 : (Q3.2.2 != 0) = true := by simpa using h3
    have t0 : (Q0.2.2 != 0) = false := by simpa using h0
    have t1 : (Q1.2.2 != 0) = false := by simpa using h1
    have t2 : (Q2.2.2 != 0) = false := by simpa using h2
    clear h0 h1 h2 h3 HYe HNo
    go_wp2
    obtain ⟨wF, hwF⟩ : ∃ wF, wF = (((((((((w4.setCell ⟨w.heap.size + 1 + 1, 0, none⟩ (.int .i64 0)).setCell ⟨w.heap.size + 1 + 1, 1, none⟩ (.int .i64 0)).setCell ⟨w.heap.size + 1 + 1, 2, none⟩ (.int .i64 0)).setCell ⟨w.heap.size + 1 + 1, 3, none⟩ (.int .i64 0)).setCell ⟨w.heap.size + 1 + 1, 4, none⟩ (.int .i64 0)).setCell ⟨w.heap.size + 1 + 1, 5, none⟩ (.int .i64 0)).setCell ⟨w.heap.size + 1 + 1, 6, none⟩ (.int .i64 0)).setCell ⟨w.heap.size + 1 + 1, 7, none⟩ (.int .i64 0)).setCell ⟨w.heap.size + 1 + 1, 8, none⟩ (.int .i64 0)).alloc (.cells #[.int .i64 Q3.1, .int .i64 Q3.2.1] 41) := ⟨_, rfl⟩
    rw [← hwF]
    have hRF : wF.rowIs (w.heap.size + 1 + 1) 44 9 (sg9 0 0 0 0 0 0 0 0 0) := by rw [hwF]; exact (set9sg HZ4.out 0 0 0 0 0 0 0 0 0).alloc _
    have hp : ∀ q : Nat, w.heap.size ≤ (⟨w.heap.size + 1 + 1, q, none⟩ : Addr).block := fun q => by show w.heap.size ≤ w.heap.size + 1 + 1; omega
    have hBF : Below w.heap.size w wF := by rw [hwF]; exact (((((((((HB4.out.setCell (hp 0) _).setCell (hp 1) _).setCell (hp 2) _).setCell (hp 3) _).setCell (hp 4) _).setCell (hp 5) _).setCell (hp 6) _).setCell (hp 7) _).setCell (hp 8) _).alloc (by simp; omega) _
    obtain ⟨g0, g1, g2, g3, g4, g5, g6, g7, g8⟩ := sg9_cells hRF
    exact bodyPost_ret (v := .tuple #[.agg #[.int .i64 0, .int .i64 0, .int .i64 0, .int .i64 0, .int .i64 0, .int .i64 0, .int .i64 0, .int .i64 0, .int .i64 0], .int .i64 6]) (by simp [results, Try.results150, go_sem, g0, g1, g2, g3, g4, g5, g6, g7, g8]) rfl ⟨rfl, hBF⟩
  · obtain ⟨rfl, rfl⟩ := HYe.out (by simp [h0, h1, h2, h3])
    have t0 : (Q0.2.2 != 0) = false := by simpa using h0
    have t1 : (Q1.2.2 != 0) = false := by simpa using h1
    have t2 : (Q2.2.2 != 0) = false := by simpa using h2
    have t3 : (Q3.2.2 != 0) = false := by simpa using h3
    clear h0 h1 h2 h3 HYe HNo
    go_wp2
    obtain ⟨wF, hwF⟩ : ∃ wF, wF = (((((((((w4.setCell ⟨w.heap.size + 1 + 1, 0, none⟩ (.int .i64 k)).setCell ⟨w.heap.size + 1 + 1, 1, none⟩ (.int .i64 Q0.1)).setCell ⟨w.heap.size + 1 + 1, 2, none⟩ (.int .i64 Q0.2.1)).setCell ⟨w.heap.size + 1 + 1, 3, none⟩ (.int .i64 Q1.1)).setCell ⟨w.heap.size + 1 + 1, 4, none⟩ (.int .i64 Q1.2.1)).setCell ⟨w.heap.size + 1 + 1, 5, none⟩ (.int .i64 Q2.1)).setCell ⟨w.heap.size + 1 + 1, 6, none⟩ (.int .i64 Q2.2.1)).setCell ⟨w.heap.size + 1 + 1, 7, none⟩ (.int .i64 Q3.1)).setCell ⟨w.heap.size + 1 + 1, 8, none⟩ (.int .i64 Q3.2.1)).alloc (.cells #[.int .i64 Q3.1, .int .i64 Q3.2.1] 41) := ⟨_, rfl⟩
    rw [← hwF]
    have hRF : wF.rowIs (w.heap.size + 1 + 1) 44 9 (sg9 k Q0.1 Q0.2.1 Q1.1 Q1.2.1 Q2.1 Q2.2.1 Q3.1 Q3.2.1) := by rw [hwF]; exact (set9sg HZ4.out k Q0.1 Q0.2.1 Q1.1 Q1.2.1 Q2.1 Q2.2.1 Q3.1 Q3.2.1).alloc _
    have hp : ∀ q : Nat, w.heap.size ≤ (⟨w.heap.size + 1 + 1, q, none⟩ : Addr).block := fun q => by show w.heap.size ≤ w.heap.size + 1 + 1; omega
    have hBF : Below w.heap.size w wF := by rw [hwF]; exact (((((((((HB4.out.setCell (hp 0) _).setCell (hp 1) _).setCell (hp 2) _).setCell (hp 3) _).setCell (hp 4) _).setCell (hp 5) _).setCell (hp 6) _).setCell (hp 7) _).setCell (hp 8) _).alloc (by simp; omega) _
    obtain ⟨g0, g1, g2, g3, g4, g5, g6, g7, g8⟩ := sg9_cells hRF
    exact bodyPost_ret (v := .tuple #[.agg #[.int .i64 k, .int .i64 Q0.1, .int .i64 Q0.2.1, .int .i64 Q1.1, .int .i64 Q1.2.1, .int .i64 Q2.1, .int .i64 Q2.2.1, .int .i64 Q3.1, .int .i64 Q3.2.1], .int .i64 0]) (by simp [results, Try.results150, go_sem, g0, g1, g2, g3, g4, g5, g6, g7, g8]) rfl ⟨rfl, hBF⟩

set_option maxRecDepth 100000 in
set_option maxHeartbeats 4000000 in
theorem put_any (k x0 y0 x1 y1 x2 y2 x3 y3 a b c d x y : Int) (w : World) :
    Calls Try.prog 101 #[.agg #[.int .i64 k, .int .i64 x0, .int .i64 y0, .int .i64 x1, .int .i64 y1, .int .i64 x2, .int .i64 y2, .int .i64 x3, .int .i64 y3], .agg #[.int .i64 a, .int .i64 b, .int .i64 c, .int .i64 d, .int .i64 x, .int .i64 y]] w fun e w' => e = .returned (.tuple #[.agg #[.int .i64 (Num.putG (⟨a, b, c, d, x, y⟩ : Num.Mp) (⟨k, x0, y0, x1, y1, x2, y2, x3, y3⟩ : Num.Sg)).k, .int .i64 (Num.putG (⟨a, b, c, d, x, y⟩ : Num.Mp) (⟨k, x0, y0, x1, y1, x2, y2, x3, y3⟩ : Num.Sg)).x0, .int .i64 (Num.putG (⟨a, b, c, d, x, y⟩ : Num.Mp) (⟨k, x0, y0, x1, y1, x2, y2, x3, y3⟩ : Num.Sg)).y0, .int .i64 (Num.putG (⟨a, b, c, d, x, y⟩ : Num.Mp) (⟨k, x0, y0, x1, y1, x2, y2, x3, y3⟩ : Num.Sg)).x1, .int .i64 (Num.putG (⟨a, b, c, d, x, y⟩ : Num.Mp) (⟨k, x0, y0, x1, y1, x2, y2, x3, y3⟩ : Num.Sg)).y1, .int .i64 (Num.putG (⟨a, b, c, d, x, y⟩ : Num.Mp) (⟨k, x0, y0, x1, y1, x2, y2, x3, y3⟩ : Num.Sg)).x2, .int .i64 (Num.putG (⟨a, b, c, d, x, y⟩ : Num.Mp) (⟨k, x0, y0, x1, y1, x2, y2, x3, y3⟩ : Num.Sg)).y2, .int .i64 (Num.putG (⟨a, b, c, d, x, y⟩ : Num.Mp) (⟨k, x0, y0, x1, y1, x2, y2, x3, y3⟩ : Num.Sg)).x3, .int .i64 (Num.putG (⟨a, b, c, d, x, y⟩ : Num.Mp) (⟨k, x0, y0, x1, y1, x2, y2, x3, y3⟩ : Num.Sg)).y3], .int .i64 (Num.putE (⟨a, b, c, d, x, y⟩ : Num.Mp) (⟨k, x0, y0, x1, y1, x2, y2, x3, y3⟩ : Num.Sg))]) ∧ Below w.heap.size w w' := by
  obtain ⟨Q0, hQ0⟩ : ∃ Q, Q = Num.placeV a b c d x y x0 y0 := ⟨_, rfl⟩
  obtain ⟨Q1, hQ1⟩ : ∃ Q, Q = Num.placeV a b c d x y x1 y1 := ⟨_, rfl⟩
  obtain ⟨Q2, hQ2⟩ : ∃ Q, Q = Num.placeV a b c d x y x2 y2 := ⟨_, rfl⟩
  obtain ⟨Q3, hQ3⟩ : ∃ Q, Q = Num.placeV a b c d x y x3 y3 := ⟨_, rfl⟩
  have HOk : Hid (Num.putOk (⟨a, b, c, d, x, y⟩ : Num.Mp) (⟨k, x0, y0, x1, y1, x2, y2, x3, y3⟩ : Num.Sg) = (Q0.2.2 == 0 && Q1.2.2 == 0 && Q2.2.2 == 0 && Q3.2.2 == 0)) := by unfold Hid; rw [hQ0, hQ1, hQ2, hQ3]; rfl
  have HVv : Hid (Num.putV (⟨a, b, c, d, x, y⟩ : Num.Mp) (⟨k, x0, y0, x1, y1, x2, y2, x3, y3⟩ : Num.Sg) = ⟨k, Q0.1, Q0.2.1, Q1.1, Q1.2.1, Q2.1, Q2.2.1, Q3.1, Q3.2.1⟩) := by unfold Hid; rw [hQ0, hQ1, hQ2, hQ3]; rfl
  have HNo : Hid (Num.putOk (⟨a, b, c, d, x, y⟩ : Num.Mp) (⟨k, x0, y0, x1, y1, x2, y2, x3, y3⟩ : Num.Sg) = false → Num.putG (⟨a, b, c, d, x, y⟩ : Num.Mp) (⟨k, x0, y0, x1, y1, x2, y2, x3, y3⟩ : Num.Sg) = ⟨0, 0, 0, 0, 0, 0, 0, 0, 0⟩ ∧ Num.putE (⟨a, b, c, d, x, y⟩ : Num.Mp) (⟨k, x0, y0, x1, y1, x2, y2, x3, y3⟩ : Num.Sg) = 6) := fun h => by unfold Num.putG Num.putE; rw [h]; exact ⟨rfl, rfl⟩
  have HYe : Hid (Num.putOk (⟨a, b, c, d, x, y⟩ : Num.Mp) (⟨k, x0, y0, x1, y1, x2, y2, x3, y3⟩ : Num.Sg) = true → Num.putG (⟨a, b, c, d, x, y⟩ : Num.Mp) (⟨k, x0, y0, x1, y1, x2, y2, x3, y3⟩ : Num.Sg) = Num.putV (⟨a, b, c, d, x, y⟩ : Num.Mp) (⟨k, x0, y0, x1, y1, x2, y2, x3, y3⟩ : Num.Sg) ∧ Num.putE (⟨a, b, c, d, x, y⟩ : Num.Mp) (⟨k, x0, y0, x1, y1, x2, y2, x3, y3⟩ : Num.Sg) = 0) := fun h => by unfold Num.putG Num.putE; rw [h]; exact ⟨rfl, rfl⟩
  obtain ⟨PG, hPG⟩ : ∃ PG, PG = Num.putG (⟨a, b, c, d, x, y⟩ : Num.Mp) (⟨k, x0, y0, x1, y1, x2, y2, x3, y3⟩ : Num.Sg) := ⟨_, rfl⟩
  obtain ⟨PE, hPE⟩ : ∃ PE, PE = Num.putE (⟨a, b, c, d, x, y⟩ : Num.Mp) (⟨k, x0, y0, x1, y1, x2, y2, x3, y3⟩ : Num.Sg) := ⟨_, rfl⟩
  rw [← hPG, ← hPE] at HNo HYe ⊢
  rw [HOk.out] at HNo HYe
  rw [HVv.out] at HYe
  have HQ0 := hide hQ0
  have HQ1 := hide hQ1
  have HQ2 := hide hQ2
  have HQ3 := hide hQ3
  clear hQ0 hQ1 hQ2 hQ3 hPG hPE HOk HVv
  have HR0 := hide (sg9_row k x0 y0 x1 y1 x2 y2 x3 y3 w 44)
  have HM0 : Hid (((w.alloc (.cells #[.int .i64 k, .int .i64 x0, .int .i64 y0, .int .i64 x1, .int .i64 y1, .int .i64 x2, .int .i64 y2, .int .i64 x3, .int .i64 y3] 44)).alloc (.cells #[.int .i64 a, .int .i64 b, .int .i64 c, .int .i64 d, .int .i64 x, .int .i64 y] 39)).rowIs (w.heap.size + 1) 39 6 (mp6 a b c d x y)) := by
    have h := mp6_row a b c d x y (w.alloc (.cells #[.int .i64 k, .int .i64 x0, .int .i64 y0, .int .i64 x1, .int .i64 y1, .int .i64 x2, .int .i64 y2, .int .i64 x3, .int .i64 y3] 44)) 39
    rw [nblk_alloc] at h
    exact h
  have HZ0 : Hid ((((w.alloc (.cells #[.int .i64 k, .int .i64 x0, .int .i64 y0, .int .i64 x1, .int .i64 y1, .int .i64 x2, .int .i64 y2, .int .i64 x3, .int .i64 y3] 44)).alloc (.cells #[.int .i64 a, .int .i64 b, .int .i64 c, .int .i64 d, .int .i64 x, .int .i64 y] 39)).alloc (.cells #[.int .i64 0, .int .i64 0, .int .i64 0, .int .i64 0, .int .i64 0, .int .i64 0, .int .i64 0, .int .i64 0, .int .i64 0] 44)).rowIs (w.heap.size + 1 + 1) 44 9 (sg9 0 0 0 0 0 0 0 0 0)) := by
    have h := sg9_row 0 0 0 0 0 0 0 0 0 ((w.alloc (.cells #[.int .i64 k, .int .i64 x0, .int .i64 y0, .int .i64 x1, .int .i64 y1, .int .i64 x2, .int .i64 y2, .int .i64 x3, .int .i64 y3] 44)).alloc (.cells #[.int .i64 a, .int .i64 b, .int .i64 c, .int .i64 d, .int .i64 x, .int .i64 y] 39)) 44
    rw [nblk_alloc, nblk_alloc] at h
    exact h
  go_enter Try.func101, Try.ntmps101
  go_wp2_with fail
  refine (refPlace_any _ _ _ _ _ _ _ _ _).mono ?_
  rw [← HQ0.out]
  rintro e w1 ⟨rfl, hb⟩
  have hz1 : w.heap.size + 1 + 1 < w1.heap.size := by have := hb.size; simp at this; omega
  have HR1 := hide (row_below ((HR0.out.alloc _).alloc _) hb (by simp; omega))
  have HM1 := hide (row_below (HM0.out.alloc _) hb (by simp))
  have HZ1 := hide (row_below HZ0.out hb (by simp))
  have HB1 : Hid (Below w.heap.size w w1) := Below.trans (by (repeat (any_goals (first | exact Below.refl _ _ | assumption | refine Below.drew ?_ | refine below_drewN ?_ _ | refine Below.setCell ?_ ?_ _ | refine Below.alloc ?_ ?_ _ | omega | (simp; done) | (simp; omega))))) (hb.mono (by simp; omega))
  have ya1 : w.heap.size < w1.heap.size := by omega
  have yb1 : w.heap.size + 1 < w1.heap.size := by omega
  have yc1 : w.heap.size + 1 + 1 < w1.heap.size := by omega
  clear hb
  obtain ⟨c0, c1, c2, c3, c4, c5, c6, c7, c8⟩ := sg9_cells HR1.out
  obtain ⟨d0, d1, d2, d3, d4, d5⟩ := mp6_cells HM1.out
  go_wp2_with fail
  clear c0 c1 c2 c3 c4 c5 c6 c7 c8 d0 d1 d2 d3 d4 d5
  refine (refPlace_any _ _ _ _ _ _ _ _ _).mono ?_
  rw [← HQ1.out]
  rintro e w2 ⟨rfl, hb⟩
  have hz2 : w1.heap.size < w2.heap.size := by have := hb.size; simp at this; omega
  have HR2 := hide (row_below (HR1.out.alloc (.cells #[.int .i64 Q0.1, .int .i64 Q0.2.1] 41)) hb (by simp; omega))
  have HM2 := hide (row_below (HM1.out.alloc (.cells #[.int .i64 Q0.1, .int .i64 Q0.2.1] 41)) hb (by simp; omega))
  have HZ2 := hide (row_below (HZ1.out.alloc (.cells #[.int .i64 Q0.1, .int .i64 Q0.2.1] 41)) hb (by simp; omega))
  have HB2 : Hid (Below w.heap.size w w2) := HB1.out.trans (((Below.refl _ _).alloc (Nat.le_refl _) (.cells #[.int .i64 Q0.1, .int .i64 Q0.2.1] 41)).trans (hb.mono (by simp)) |>.mono (by omega))
  have HS1_2 := hide (row_below (tp2_row Q0.1 Q0.2.1 w1 41) hb (by simp))
  have ya2 : w.heap.size < w2.heap.size := by omega
  have yb2 : w.heap.size + 1 < w2.heap.size := by omega
  have yc2 : w.heap.size + 1 + 1 < w2.heap.size := by omega
  clear hb
  obtain ⟨c0, c1, c2, c3, c4, c5, c6, c7, c8⟩ := sg9_cells HR2.out
  obtain ⟨d0, d1, d2, d3, d4, d5⟩ := mp6_cells HM2.out
  go_wp2_with fail
  clear c0 c1 c2 c3 c4 c5 c6 c7 c8 d0 d1 d2 d3 d4 d5
  refine (refPlace_any _ _ _ _ _ _ _ _ _).mono ?_
  rw [← HQ2.out]
  rintro e w3 ⟨rfl, hb⟩
  have hz3 : w2.heap.size < w3.heap.size := by have := hb.size; simp at this; omega
  have HR3 := hide (row_below (HR2.out.alloc (.cells #[.int .i64 Q1.1, .int .i64 Q1.2.1] 41)) hb (by simp; omega))
  have HM3 := hide (row_below (HM2.out.alloc (.cells #[.int .i64 Q1.1, .int .i64 Q1.2.1] 41)) hb (by simp; omega))
  have HZ3 := hide (row_below (HZ2.out.alloc (.cells #[.int .i64 Q1.1, .int .i64 Q1.2.1] 41)) hb (by simp; omega))
  have HB3 : Hid (Below w.heap.size w w3) := HB2.out.trans (((Below.refl _ _).alloc (Nat.le_refl _) (.cells #[.int .i64 Q1.1, .int .i64 Q1.2.1] 41)).trans (hb.mono (by simp)) |>.mono (by omega))
  have HS1_3 := hide (row_below (HS1_2.out.alloc (.cells #[.int .i64 Q1.1, .int .i64 Q1.2.1] 41)) hb (by simp; omega))
  have HS2_3 := hide (row_below (tp2_row Q1.1 Q1.2.1 w2 41) hb (by simp))
  have ya3 : w.heap.size < w3.heap.size := by omega
  have yb3 : w.heap.size + 1 < w3.heap.size := by omega
  have yc3 : w.heap.size + 1 + 1 < w3.heap.size := by omega
  have yd1_3 : w1.heap.size < w3.heap.size := by omega
  clear hb
  obtain ⟨c0, c1, c2, c3, c4, c5, c6, c7, c8⟩ := sg9_cells HR3.out
  obtain ⟨d0, d1, d2, d3, d4, d5⟩ := mp6_cells HM3.out
  go_wp2_with fail
  clear c0 c1 c2 c3 c4 c5 c6 c7 c8 d0 d1 d2 d3 d4 d5
  refine (refPlace_any _ _ _ _ _ _ _ _ _).mono ?_
  rw [← HQ3.out]
  rintro e w4 ⟨rfl, hb⟩
  have hz4 : w3.heap.size < w4.heap.size := by have := hb.size; simp at this; omega
  have HR4 := hide (row_below (HR3.out.alloc (.cells #[.int .i64 Q2.1, .int .i64 Q2.2.1] 41)) hb (by simp; omega))
  have HM4 := hide (row_below (HM3.out.alloc (.cells #[.int .i64 Q2.1, .int .i64 Q2.2.1] 41)) hb (by simp; omega))
  have HZ4 := hide (row_below (HZ3.out.alloc (.cells #[.int .i64 Q2.1, .int .i64 Q2.2.1] 41)) hb (by simp; omega))
  have HB4 : Hid (Below w.heap.size w w4) := HB3.out.trans (((Below.refl _ _).alloc (Nat.le_refl _) (.cells #[.int .i64 Q2.1, .int .i64 Q2.2.1] 41)).trans (hb.mono (by simp)) |>.mono (by omega))
  have HS1_4 := hide (row_below (HS1_3.out.alloc (.cells #[.int .i64 Q2.1, .int .i64 Q2.2.1] 41)) hb (by simp; omega))
  have HS2_4 := hide (row_below (HS2_3.out.alloc (.cells #[.int .i64 Q2.1, .int .i64 Q2.2.1] 41)) hb (by simp; omega))
  have HS3_4 := hide (row_below (tp2_row Q2.1 Q2.2.1 w3 41) hb (by simp))
  have ya4 : w.heap.size < w4.heap.size := by omega
  have yb4 : w.heap.size + 1 < w4.heap.size := by omega
  have yc4 : w.heap.size + 1 + 1 < w4.heap.size := by omega
  have yd1_4 : w1.heap.size < w4.heap.size := by omega
  have yd2_4 : w2.heap.size < w4.heap.size := by omega
  clear hb
  obtain ⟨c0, c1, c2, c3, c4, c5, c6, c7, c8⟩ := sg9_cells HR4.out
  obtain ⟨r0, r1, r2, r3, r4, r5, r6, r7, r8⟩ := sg9_cells HZ4.out
  obtain ⟨z0, z1, z2, z3, z4, z5, z6, z7, z8⟩ := zero_frozen HZ4.out
  obtain ⟨s10, s11⟩ := tp2_cells HS1_4.out
  obtain ⟨s20, s21⟩ := tp2_cells HS2_4.out
  obtain ⟨s30, s31⟩ := tp2_cells HS3_4.out
  by_cases h0 : Q0.2.2 = 0
  case neg =>
    obtain ⟨rfl, rfl⟩ := HNo.out (by simp [h0])
    have t0 : (Q0.2.2 != 0) = true := by simpa using h0
    clear h0 HYe HNo
    go_wp2
    obtain ⟨wF, hwF⟩ : ∃ wF, wF = (((((((((w4.setCell ⟨w.heap.size + 1 + 1, 0, none⟩ (.int .i64 0)).setCell ⟨w.heap.size + 1 + 1, 1, none⟩ (.int .i64 0)).setCell ⟨w.heap.size + 1 + 1, 2, none⟩ (.int .i64 0)).setCell ⟨w.heap.size + 1 + 1, 3, none⟩ (.int .i64 0)).setCell ⟨w.heap.size + 1 + 1, 4, none⟩ (.int .i64 0)).setCell ⟨w.heap.size + 1 + 1, 5, none⟩ (.int .i64 0)).setCell ⟨w.heap.size + 1 + 1, 6, none⟩ (.int .i64 0)).setCell ⟨w.heap.size + 1 + 1, 7, none⟩ (.int .i64 0)).setCell ⟨w.heap.size + 1 + 1, 8, none⟩ (.int .i64 0)).alloc (.cells #[.int .i64 Q3.1, .int .i64 Q3.2.1] 41) := ⟨_, rfl⟩
    rw [← hwF]
    have hRF : wF.rowIs (w.heap.size + 1 + 1) 44 9 (sg9 0 0 0 0 0 0 0 0 0) := by rw [hwF]; exact (set9sg HZ4.out 0 0 0 0 0 0 0 0 0).alloc _
    have hp : ∀ q : Nat, w.heap.size ≤ (⟨w.heap.size + 1 + 1, q, none⟩ : Addr).block := fun q => by show w.heap.size ≤ w.heap.size + 1 + 1; omega
    have hBF : Below w.heap.size w wF := by rw [hwF]; exact (((((((((HB4.out.setCell (hp 0) _).setCell (hp 1) _).setCell (hp 2) _).setCell (hp 3) _).setCell (hp 4) _).setCell (hp 5) _).setCell (hp 6) _).setCell (hp 7) _).setCell (hp 8) _).alloc (by simp; omega) _
    obtain ⟨g0, g1, g2, g3, g4, g5, g6, g7, g8⟩ := sg9_cells hRF
    exact bodyPost_ret (v := .tuple #[.agg #[.int .i64 0, .int .i64 0, .int .i64 0, .int .i64 0, .int .i64 0, .int .i64 0, .int .i64 0, .int .i64 0, .int .i64 0], .int .i64 6]) (by simp [results, Try.results101, go_sem, g0, g1, g2, g3, g4, g5, g6, g7, g8]) rfl ⟨rfl, hBF⟩
  by_cases h1 : Q1.2.2 = 0
  case neg =>
    obtain ⟨rfl, rfl⟩ := HNo.out (by simp [h0, h1])
    have t1 : (Q1.2.2 != 0) = true := by simpa using h1
    have t0 : (Q0.2.2 != 0) = false := by simpa using h0
    clear h0 h1 HYe HNo
    go_wp2
    obtain ⟨wF, hwF⟩ : ∃ wF, wF = (((((((((w4.setCell ⟨w.heap.size + 1 + 1, 0, none⟩ (.int .i64 0)).setCell ⟨w.heap.size + 1 + 1, 1, none⟩ (.int .i64 0)).setCell ⟨w.heap.size + 1 + 1, 2, none⟩ (.int .i64 0)).setCell ⟨w.heap.size + 1 + 1, 3, none⟩ (.int .i64 0)).setCell ⟨w.heap.size + 1 + 1, 4, none⟩ (.int .i64 0)).setCell ⟨w.heap.size + 1 + 1, 5, none⟩ (.int .i64 0)).setCell ⟨w.heap.size + 1 + 1, 6, none⟩ (.int .i64 0)).setCell ⟨w.heap.size + 1 + 1, 7, none⟩ (.int .i64 0)).setCell ⟨w.heap.size + 1 + 1, 8, none⟩ (.int .i64 0)).alloc (.cells #[.int .i64 Q3.1, .int .i64 Q3.2.1] 41) := ⟨_, rfl⟩
    rw [← hwF]
    have hRF : wF.rowIs (w.heap.size + 1 + 1) 44 9 (sg9 0 0 0 0 0 0 0 0 0) := by rw [hwF]; exact (set9sg HZ4.out 0 0 0 0 0 0 0 0 0).alloc _
    have hp : ∀ q : Nat, w.heap.size ≤ (⟨w.heap.size + 1 + 1, q, none⟩ : Addr).block := fun q => by show w.heap.size ≤ w.heap.size + 1 + 1; omega
    have hBF : Below w.heap.size w wF := by rw [hwF]; exact (((((((((HB4.out.setCell (hp 0) _).setCell (hp 1) _).setCell (hp 2) _).setCell (hp 3) _).setCell (hp 4) _).setCell (hp 5) _).setCell (hp 6) _).setCell (hp 7) _).setCell (hp 8) _).alloc (by simp; omega) _
    obtain ⟨g0, g1, g2, g3, g4, g5, g6, g7, g8⟩ := sg9_cells hRF
    exact bodyPost_ret (v := .tuple #[.agg #[.int .i64 0, .int .i64 0, .int .i64 0, .int .i64 0, .int .i64 0, .int .i64 0, .int .i64 0, .int .i64 0, .int .i64 0], .int .i64 6]) (by simp [results, Try.results101, go_sem, g0, g1, g2, g3, g4, g5, g6, g7, g8]) rfl ⟨rfl, hBF⟩
  by_cases h2 : Q2.2.2 = 0
  case neg =>
    obtain ⟨rfl, rfl⟩ := HNo.out (by simp [h0, h1, h2])
    have t2 : (Q2.2.2 != 0) = true := by simpa using h2
    have t0 : (Q0.2.2 != 0) = false := by simpa using h0
    have t1 : (Q1.2.2 != 0) = false := by simpa using h1
    clear h0 h1 h2 HYe HNo
    go_wp2
    obtain ⟨wF, hwF⟩ : ∃ wF, wF = (((((((((w4.setCell ⟨w.heap.size + 1 + 1, 0, none⟩ (.int .i64 0)).setCell ⟨w.heap.size + 1 + 1, 1, none⟩ (.int .i64 0)).setCell ⟨w.heap.size + 1 + 1, 2, none⟩ (.int .i64 0)).setCell ⟨w.heap.size + 1 + 1, 3, none⟩ (.int .i64 0)).setCell ⟨w.heap.size + 1 + 1, 4, none⟩ (.int .i64 0)).setCell ⟨w.heap.size + 1 + 1, 5, none⟩ (.int .i64 0)).setCell ⟨w.heap.size + 1 + 1, 6, none⟩ (.int .i64 0)).setCell ⟨w.heap.size + 1 + 1, 7, none⟩ (.int .i64 0)).setCell ⟨w.heap.size + 1 + 1, 8, none⟩ (.int .i64 0)).alloc (.cells #[.int .i64 Q3.1, .int .i64 Q3.2.1] 41) := ⟨_, rfl⟩
    rw [← hwF]
    have hRF : wF.rowIs (w.heap.size + 1 + 1) 44 9 (sg9 0 0 0 0 0 0 0 0 0) := by rw [hwF]; exact (set9sg HZ4.out 0 0 0 0 0 0 0 0 0).alloc _
    have hp : ∀ q : Nat, w.heap.size ≤ (⟨w.heap.size + 1 + 1, q, none⟩ : Addr).block := fun q => by show w.heap.size ≤ w.heap.size + 1 + 1; omega
    have hBF : Below w.heap.size w wF := by rw [hwF]; exact (((((((((HB4.out.setCell (hp 0) _).setCell (hp 1) _).setCell (hp 2) _).setCell (hp 3) _).setCell (hp 4) _).setCell (hp 5) _).setCell (hp 6) _).setCell (hp 7) _).setCell (hp 8) _).alloc (by simp; omega) _
    obtain ⟨g0, g1, g2, g3, g4, g5, g6, g7, g8⟩ := sg9_cells hRF
    exact bodyPost_ret (v := .tuple #[.agg #[.int .i64 0, .int .i64 0, .int .i64 0, .int .i64 0, .int .i64 0, .int .i64 0, .int .i64 0, .int .i64 0, .int .i64 0], .int .i64 6]) (by simp [results, Try.results101, go_sem, g0, g1, g2, g3, g4, g5, g6, g7, g8]) rfl ⟨rfl, hBF⟩
  by_cases h3 : Q3.2.2 = 0
  case neg =>
    obtain ⟨rfl, rfl⟩ := HNo.out (by simp [h0, h1, h2, h3])
    have t3 : (Q3.2.2 != 0) = true := by simpa using h3
    have t0 : (Q0.2.2 != 0) = false := by simpa using h0
    have t1 : (Q1.2.2 != 0) = false := by simpa using h1
    have t2 : (Q2.2.2 != 0) = false := by simpa using h2
    clear h0 h1 h2 h3 HYe HNo
    go_wp2
    obtain ⟨wF, hwF⟩ : ∃ wF, wF = (((((((((w4.setCell ⟨w.heap.size + 1 + 1, 0, none⟩ (.int .i64 0)).setCell ⟨w.heap.size + 1 + 1, 1, none⟩ (.int .i64 0)).setCell ⟨w.heap.size + 1 + 1, 2, none⟩ (.int .i64 0)).setCell ⟨w.heap.size + 1 + 1, 3, none⟩ (.int .i64 0)).setCell ⟨w.heap.size + 1 + 1, 4, none⟩ (.int .i64 0)).setCell ⟨w.heap.size + 1 + 1, 5, none⟩ (.int .i64 0)).setCell ⟨w.heap.size + 1 + 1, 6, none⟩ (.int .i64 0)).setCell ⟨w.heap.size + 1 + 1, 7, none⟩ (.int .i64 0)).setCell ⟨w.heap.size + 1 + 1, 8, none⟩ (.int .i64 0)).alloc (.cells #[.int .i64 Q3.1, .int .i64 Q3.2.1] 41) := ⟨_, rfl⟩
    rw [← hwF]
    have hRF : wF.rowIs (w.heap.size + 1 + 1) 44 9 (sg9 0 0 0 0 0 0 0 0 0) := by rw [hwF]; exact (set9sg HZ4.out 0 0 0 0 0 0 0 0 0).alloc _
    have hp : ∀ q : Nat, w.heap.size ≤ (⟨w.heap.size + 1 + 1, q, none⟩ : Addr).block := fun q => by show w.heap.size ≤ w.heap.size + 1 + 1; omega
    have hBF : Below w.heap.size w wF := by rw [hwF]; exact (((((((((HB4.out.setCell (hp 0) _).setCell (hp 1) _).setCell (hp 2) _).setCell (hp 3) _).setCell (hp 4) _).setCell (hp 5) _).setCell (hp 6) _).setCell (hp 7) _).setCell (hp 8) _).alloc (by simp; omega) _
    obtain ⟨g0, g1, g2, g3, g4, g5, g6, g7, g8⟩ := sg9_cells hRF
    exact bodyPost_ret (v := .tuple #[.agg #[.int .i64 0, .int .i64 0, .int .i64 0, .int .i64 0, .int .i64 0, .int .i64 0, .int .i64 0, .int .i64 0, .int .i64 0], .int .i64 6]) (by simp [results, Try.results101, go_sem, g0, g1, g2, g3, g4, g5, g6, g7, g8]) rfl ⟨rfl, hBF⟩
  · obtain ⟨rfl, rfl⟩ := HYe.out (by simp [h0, h1, h2, h3])
    have t0 : (Q0.2.2 != 0) = false := by simpa using h0
    have t1 : (Q1.2.2 != 0) = false := by simpa using h1
    have t2 : (Q2.2.2 != 0) = false := by simpa using h2
    have t3 : (Q3.2.2 != 0) = false := by simpa using h3
    clear h0 h1 h2 h3 HYe HNo
    go_wp2
    obtain ⟨wF, hwF⟩ : ∃ wF, wF = (((((((((w4.setCell ⟨w.heap.size + 1 + 1, 0, none⟩ (.int .i64 k)).setCell ⟨w.heap.size + 1 + 1, 1, none⟩ (.int .i64 Q0.1)).setCell ⟨w.heap.size + 1 + 1, 2, none⟩ (.int .i64 Q0.2.1)).setCell ⟨w.heap.size + 1 + 1, 3, none⟩ (.int .i64 Q1.1)).setCell ⟨w.heap.size + 1 + 1, 4, none⟩ (.int .i64 Q1.2.1)).setCell ⟨w.heap.size + 1 + 1, 5, none⟩ (.int .i64 Q2.1)).setCell ⟨w.heap.size + 1 + 1, 6, none⟩ (.int .i64 Q2.2.1)).setCell ⟨w.heap.size + 1 + 1, 7, none⟩ (.int .i64 Q3.1)).setCell ⟨w.heap.size + 1 + 1, 8, none⟩ (.int .i64 Q3.2.1)).alloc (.cells #[.int .i64 Q3.1, .int .i64 Q3.2.1] 41) := ⟨_, rfl⟩
    rw [← hwF]
    have hRF : wF.rowIs (w.heap.size + 1 + 1) 44 9 (sg9 k Q0.1 Q0.2.1 Q1.1 Q1.2.1 Q2.1 Q2.2.1 Q3.1 Q3.2.1) := by rw [hwF]; exact (set9sg HZ4.out k Q0.1 Q0.2.1 Q1.1 Q1.2.1 Q2.1 Q2.2.1 Q3.1 Q3.2.1).alloc _
    have hp : ∀ q : Nat, w.heap.size ≤ (⟨w.heap.size + 1 + 1, q, none⟩ : Addr).block := fun q => by show w.heap.size ≤ w.heap.size + 1 + 1; omega
    have hBF : Below w.heap.size w wF := by rw [hwF]; exact (((((((((HB4.out.setCell (hp 0) _).setCell (hp 1) _).setCell (hp 2) _).setCell (hp 3) _).setCell (hp 4) _).setCell (hp 5) _).setCell (hp 6) _).setCell (hp 7) _).setCell (hp 8) _).alloc (by simp; omega) _
    obtain ⟨g0, g1, g2, g3, g4, g5, g6, g7, g8⟩ := sg9_cells hRF
    exact bodyPost_ret (v := .tuple #[.agg #[.int .i64 k, .int .i64 Q0.1, .int .i64 Q0.2.1, .int .i64 Q1.1, .int .i64 Q1.2.1, .int .i64 Q2.1, .int .i64 Q2.2.1, .int .i64 Q3.1, .int .i64 Q3.2.1], .int .i64 0]) (by simp [results, Try.results101, go_sem, g0, g1, g2, g3, g4, g5, g6, g7, g8]) rfl ⟨rfl, hBF⟩

end Go.Proofs.Ytkhcjkmifddlbaa

/- Chk -/
namespace Go.Proofs.Ytkhcjkmifddlbaa
open Go.RowKit

set_option maxHeartbeats 400000 in
theorem mayStand_any (a k b : Int) (w : World) :
    Calls Try.prog 144 #[.int .i64 a, .int .i64 k, .int .i64 b] w fun e w' => e = .returned (.bool (Num.mayB a k b)) ∧ w' = w := by
  go_enter Try.func144, Try.ntmps144
  go_wp2
  all_goals
    go_ret
    refine ⟨ret_bool ?_, rfl⟩
    simp_all [Num.mayB]

set_option maxHeartbeats 400000 in
theorem firstFar_any (a : Option Addr) (n c : Nat) (X Y K : Nat → Int) (w : World) (hn : n ≤ 4294967296) (hr : RingAt w a n X Y K) :
    Calls Try.prog 117 #[.slice a n c] w fun e w' => e = .returned (.int .i64 (Num.farI X Y n)) ∧ Below w.heap.size w w' := by
  go_enter Try.func117, Try.ntmps117
  go_wp2
  go_loopw [7] (fun i wr => ∃ k : Nat, k ≤ n ∧ i = .int .i64 k ∧ Below w.heap.size w wr ∧ ∀ j, j < k → Num.farB X Y j = false) (fun i _ => n - (intOf i).toNat)
  case atStart => exact ⟨0, by omega, rfl, Below.refl _ _, by omega⟩
  case round =>
    obtain ⟨k, hk, rfl, hb, hno⟩ := hrel
    have hsz := hb.size
    have HN := hide hno
    clear hno
    by_cases hlt : k < n
    · rcases hr.below hb with h | ⟨b, off, rfl, hc⟩
      · omega
      · obtain ⟨c0, c1, c2⟩ := hc k hlt
        clear hc hr
        cases hx : Num.wi (X k) 4096
        · have hf : Num.farB X Y k = true := by simp [Num.farB, hx]
          have HF := hide hf
          clear hf
          go_wp2_with (go_at_call 122; refine (within_any _ _ _ (by omega) (by omega)).mono ?_; rintro e w' ⟨rfl, rfl⟩)
          go_ret
          exact ⟨ret_int (Num.firstI_hit _ _ _ hlt HF.out HN.out).symm, by (repeat (any_goals (first | exact Below.refl _ _ | assumption | refine Below.drew ?_ | refine below_drewN ?_ _ | refine Below.setCell ?_ ?_ _ | refine Below.alloc ?_ ?_ _ | omega | (simp; done) | (simp; omega))))⟩
        · cases hy : Num.wi (Y k) 4096
          · have hf : Num.farB X Y k = true := by simp [Num.farB, hy]
            have HF := hide hf
            clear hf
            go_wp2_with (go_at_call 122; refine (within_any _ _ _ (by omega) (by omega)).mono ?_; rintro e w' ⟨rfl, rfl⟩)
            go_ret
            exact ⟨ret_int (Num.firstI_hit _ _ _ hlt HF.out HN.out).symm, by (repeat (any_goals (first | exact Below.refl _ _ | assumption | refine Below.drew ?_ | refine below_drewN ?_ _ | refine Below.setCell ?_ ?_ _ | refine Below.alloc ?_ ?_ _ | omega | (simp; done) | (simp; omega))))⟩
          · have hf : Num.farB X Y k = false := by simp [Num.farB, hx, hy]
            have HF := hide hf
            clear hf
            go_wp2_with (go_at_call 122; refine (within_any _ _ _ (by omega) (by omega)).mono ?_; rintro e w' ⟨rfl, rfl⟩)
            go_roundw
            case rel =>
              refine ⟨k + 1, by omega, by go_num, by (repeat (any_goals (first | exact Below.refl _ _ | assumption | refine Below.drew ?_ | refine below_drewN ?_ _ | refine Below.setCell ?_ ?_ _ | refine Below.alloc ?_ ?_ _ | omega | (simp; done) | (simp; omega)))), fun j hj => ?_⟩
              by_cases ej : j = k
              · subst ej; exact HF.out
              · exact HN.out j (by omega)
            case measure => simp [intOf]; omega
    · go_wp2
      go_ret
      have e : k = n := by omega
      subst e
      exact ⟨ret_int (Num.firstI_none _ _ HN.out).symm, hb⟩

set_option maxHeartbeats 400000 in
theorem shapeFault_any (a : Option Addr) (n c : Nat) (X Y K : Nat → Int) (w : World) (hn : n ≤ 4294967296) (hr : RingAt w a n X Y K) :
    Calls Try.prog 116 #[.slice a n c] w fun e w' => e = .returned (.int .i64 (Num.shapeI K n)) ∧ Below w.heap.size w w' := by
  by_cases h2 : n < 2
  · have e : Num.shapeI K n = n := by unfold Num.shapeI; rw [if_pos h2]
    rw [e]
    clear e
    go_enter Try.func116, Try.ntmps116
    go_wp2_with fail
    go_ret
    exact ⟨rfl, Below.refl _ _⟩
  · have e : Num.shapeI K n = Num.firstI (Num.badB K n) n := by unfold Num.shapeI; rw [if_neg h2]
    rw [e]
    clear e
    rcases hr with h | ⟨b, off, rfl, hc⟩
    · omega
    obtain ⟨c0, c1, c2⟩ := hc (n - 1) (by omega)
    have hlt0 : b < w.heap.size := World.block_lt_of_cell? w _ c0
    have HC := hide hc
    clear hc
    go_enter Try.func116, Try.ntmps116
    go_wp2_with fail
    go_loopw [20] (fun i wr => ∃ k : Nat, k ≤ n ∧ i = .int .i64 k ∧ Below w.heap.size w wr ∧ w.heap.size < wr.heap.size ∧ (∃ px py, wr.cell? ⟨w.heap.size, 0, none⟩ = some (.int .i64 px) ∧ wr.cell? ⟨w.heap.size, 1, none⟩ = some (.int .i64 py)) ∧ wr.cell? ⟨w.heap.size, 2, none⟩ = some (.int .i64 (Num.prevK K n k)) ∧ wr.frozen? ⟨w.heap.size, 0, none⟩ = false ∧ wr.frozen? ⟨w.heap.size, 1, none⟩ = false ∧ wr.frozen? ⟨w.heap.size, 2, none⟩ = false ∧ ∀ j, j < k → Num.badB K n j = false) (fun i _ => n - (intOf i).toNat)
    case atStart =>
      refine ⟨0, by omega, rfl, by (repeat (any_goals (first | exact Below.refl _ _ | assumption | refine Below.drew ?_ | refine below_drewN ?_ _ | refine Below.setCell ?_ ?_ _ | refine Below.alloc ?_ ?_ _ | omega | (simp; done) | (simp; omega)))), by simp, ⟨X (n - 1), Y (n - 1), ?_, ?_⟩, ?_, ?_, ?_, ?_, by omega⟩
      all_goals (first | (go_simp; done) | (simp [Num.prevK]; done))
    case round =>
      obtain ⟨k, hk, rfl, hb, hsz, ⟨px, py, q0, q1⟩, q2, z0, z1, z2, hno⟩ := hrel
      have HN := hide hno
      clear hno
      by_cases hlt : k < n
      · have hc : ∀ k, k < n → wr.cell? ⟨b, off + k * 3, none⟩ = some (.int .i64 (X k)) ∧ wr.cell? ⟨b, off + k * 3 + 1, none⟩ = some (.int .i64 (Y k)) ∧ wr.cell? ⟨b, off + k * 3 + 2, none⟩ = some (.int .i64 (K k)) := by
          intro k hk
          obtain ⟨c0, c1, c2⟩ := HC.out k hk
          exact ⟨(hb.cell (p := ⟨b, _, none⟩) hlt0).trans c0, (hb.cell (p := ⟨b, _, none⟩) hlt0).trans c1, (hb.cell (p := ⟨b, _, none⟩) hlt0).trans c2⟩
        obtain ⟨d0, d1, d2⟩ := hc k hlt
        obtain ⟨e0, e1, e2⟩ := hc 0 (by omega)
        simp only [Nat.zero_mul, Nat.add_zero] at e0 e1 e2
        have hpn : Num.prevK K n (k + 1) = K k := by simp [Num.prevK]
        have HP := hide hpn
        have hbw : b < wr.heap.size := by omega
        clear hpn
        by_cases hl2 : k + 1 < n
        · obtain ⟨f0, f1, f2⟩ := hc (k + 1) hl2
          clear hc c0 c1 c2
          have hnx : Num.nextK K n k = K (k + 1) := by unfold Num.nextK; rw [if_pos hl2]
          have hbad : Num.badB K n k = !Num.mayB (Num.prevK K n k) (K k) (K (k + 1)) := by unfold Num.badB; rw [hnx]
          have HBad := hide hbad
          clear hbad hnx
          go_wp2_with fail
          refine (mayStand_any _ _ _ _).mono ?_
          rintro e w' ⟨rfl, rfl⟩
          cases hm : Num.mayB (Num.prevK K n k) (K k) (K (k + 1))
          · go_wp2
            go_ret
            exact ⟨ret_int (Num.firstI_hit _ _ _ hlt (by rw [HBad.out, hm]; rfl) HN.out).symm, by (repeat (any_goals (first | exact Below.refl _ _ | assumption | refine Below.drew ?_ | refine below_drewN ?_ _ | refine Below.setCell ?_ ?_ _ | refine Below.alloc ?_ ?_ _ | omega | (simp; done) | (simp; omega))))⟩
          · go_wp2
            go_roundw
            case rel =>
              refine ⟨k + 1, by omega, by go_num, by (repeat (any_goals (first | exact Below.refl _ _ | assumption | refine Below.drew ?_ | refine below_drewN ?_ _ | refine Below.setCell ?_ ?_ _ | refine Below.alloc ?_ ?_ _ | omega | (simp; done) | (simp; omega)))), by simp; omega, ⟨X k, Y k, ?_, ?_⟩, ?_, ?_, ?_, ?_, fun j hj => ?_⟩
              case refine_7 =>
                by_cases ej : j = k
                · subst ej; rw [HBad.out, hm]; rfl
                · exact HN.out j (by omega)
              all_goals (try rw [HP.out])
              all_goals go_simp
            case measure => simp [intOf]; omega
        · clear hc c0 c1 c2
          have hnx : Num.nextK K n k = K 0 := by unfold Num.nextK; rw [if_neg hl2]
          have hbad : Num.badB K n k = !Num.mayB (Num.prevK K n k) (K k) (K 0) := by unfold Num.badB; rw [hnx]
          have HBad := hide hbad
          clear hbad hnx
          go_wp2_with fail
          refine (mayStand_any _ _ _ _).mono ?_
          rintro e w' ⟨rfl, rfl⟩
          cases hm : Num.mayB (Num.prevK K n k) (K k) (K 0)
          · go_wp2
            go_ret
            exact ⟨ret_int (Num.firstI_hit _ _ _ hlt (by rw [HBad.out, hm]; rfl) HN.out).symm, by (repeat (any_goals (first | exact Below.refl _ _ | assumption | refine Below.drew ?_ | refine below_drewN ?_ _ | refine Below.setCell ?_ ?_ _ | refine Below.alloc ?_ ?_ _ | omega | (simp; done) | (simp; omega))))⟩
          · go_wp2
            go_roundw
            case rel =>
              refine ⟨k + 1, by omega, by go_num, by (repeat (any_goals (first | exact Below.refl _ _ | assumption | refine Below.drew ?_ | refine below_drewN ?_ _ | refine Below.setCell ?_ ?_ _ | refine Below.alloc ?_ ?_ _ | omega | (simp; done) | (simp; omega)))), by simp; omega, ⟨X k, Y k, ?_, ?_⟩, ?_, ?_, ?_, ?_, fun j hj => ?_⟩
              case refine_7 =>
                by_cases ej : j = k
                · subst ej; rw [HBad.out, hm]; rfl
                · exact HN.out j (by omega)
              all_goals (try rw [HP.out])
              all_goals go_simp
            case measure => simp [intOf]; omega
      · go_wp2
        go_ret
        have e : k = n := by omega
        subst e
        exact ⟨ret_int (Num.firstI_none _ _ HN.out).symm, hb⟩
end Go.Proofs.Ytkhcjkmifddlbaa

/- ChkB -/
namespace Go.Proofs.Ytkhcjkmifddlbaa
open Go.RowKit

theorem many_of_sum {N : Nat} {n : Nat → Nat} {k : Nat} (hk : k ≤ N) (h : 200 < Num.sumN n k) : Num.manyB N n = true := by
  have := Num.sumN_mono n hk
  simp [Num.manyB]; omega

set_option maxHeartbeats 400000 in
theorem tooMany_any (a : Option Addr) (N c : Nat) (A : Nat → Option Addr) (C n : Nat → Nat) (X Y K : Nat → Nat → Int) (w : World) (hN : N ≤ 4294967296) (hn : ∀ i, i < N → n i ≤ 4294967296) (ho : OutAt w a N A C n X Y K) :
    Calls Try.prog 115 #[.slice a N c] w fun e w' => e = .returned (.bool (Num.manyB N n)) ∧ w' = w := by
  have hout := ho.1
  clear ho
  by_cases h16 : 16 < N
  · have e : Num.manyB N n = true := by simp [Num.manyB, h16]
    rw [e]
    clear e hn
    go_enter Try.func115, Try.ntmps115
    go_wp2_with fail
    go_ret
    exact ⟨rfl, rfl⟩
  · have h16' : N ≤ 16 := by omega
    have HN := hide hn
    clear hn
    go_enter Try.func115, Try.ntmps115
    go_wp2_with fail
    go_loop [3, 11] (fun l i => ∃ k : Nat, k ≤ N ∧ i = .int .i64 k ∧ l = .int .i64 (200 - (Num.sumN n k : Int)) ∧ Num.sumN n k ≤ 200) (fun _ i => N - (intOf i).toNat)
    case atStart => exact ⟨0, by omega, rfl, by simp [Num.sumN], by simp [Num.sumN]⟩
    case round =>
      obtain ⟨k, hk, rfl, rfl, hs⟩ := hrel
      by_cases hlt : k < N
      · rcases hout with h | ⟨b, off, rfl, hc⟩
        · omega
        have ci := hc k hlt
        have hnk := HN.out k hlt
        clear hc
        have hsum : Num.sumN n (k + 1) = Num.sumN n k + n k := rfl
        have HS := hide hsum
        clear hsum
        by_cases hov : 200 - (Num.sumN n k : Int) < (n k : Int)
        · go_wp2
          go_ret
          exact ⟨ret_bool (many_of_sum (k := k + 1) (by omega) (by have := HS.out; omega)).symm, rfl⟩
        · go_wp2
          go_round
          case rel => exact ⟨k + 1, by omega, by go_num, by rw [HS.out]; go_num, by rw [HS.out]; omega⟩
          case measure => simp [intOf]; omega
      · go_wp2
        go_ret
        have e : k = N := by omega
        subst e
        exact ⟨ret_bool (by simp [Num.manyB]; omega), rfl⟩

set_option maxHeartbeats 400000 in
theorem check_any (a : Option Addr) (N c : Nat) (A : Nat → Option Addr) (C n : Nat → Nat) (X Y K : Nat → Nat → Int) (w : World) (hN : N ≤ 4294967296) (hn : ∀ i, i < N → n i ≤ 4294967296) (ho : OutAt w a N A C n X Y K) :
    Calls Try.prog 83 #[.slice a N c] w fun e w' =>
      e = .returned (.tuple #[.int .i64 (Num.chkV N n X Y K).1, .int .i64 (Num.chkV N n X Y K).2.1, .int .i64 (Num.chkV N n X Y K).2.2]) ∧ Below w.heap.size w w' := by
  have HN := hide hn
  have HO := hide ho
  clear hn ho
  cases hm : Num.manyB N n
  · go_enter Try.func83, Try.ntmps83
    go_wp2_with fail
    refine (tooMany_any _ _ _ A C n X Y K _ hN HN.out HO.out).mono ?_
    rintro e w' ⟨rfl, hw⟩
    rw [hm, hw]
    clear hw
    go_wp2_with fail
    go_loopw [15] (fun i wr => ∃ k : Nat, k ≤ N ∧ i = .int .i64 k ∧ Below w.heap.size w wr ∧ ∀ j, j < k → Num.shapeAt n K j = false) (fun i _ => N - (intOf i).toNat)
    case atStart => exact ⟨0, by omega, rfl, Below.refl _ _, by omega⟩
    case round =>
      obtain ⟨k, hk, rfl, hb, hno⟩ := hrel
      have hsz := hb.size
      have HNo := hide hno
      clear hno
      have HO2 := hide (HO.out.below hb)
      by_cases hlt : k < N
      · rcases HO2.out.1 with h | ⟨b, off, rfl, hc⟩
        · omega
        have ci := hc k hlt
        clear hc
        go_wp2_with fail
        refine (shapeFault_any _ _ _ _ _ _ _ (HN.out k hlt) (HO2.out.2 k hlt)).mono ?_
        rintro e w1 ⟨rfl, hb1⟩
        have hb2 : Below w.heap.size w w1 := hb.trans (hb1.mono hsz)
        clear hb1
        cases hs : Num.shapeAt n K k
        · have hs' : Num.shapeI (K k) (n k) = -1 := by simpa [Num.shapeAt] using hs
          rw [hs']
          have HS := hide hs
          clear hs hs'
          go_wp2
          go_roundw
          case rel =>
            refine ⟨k + 1, by omega, by go_num, hb2, fun j hj => ?_⟩
            by_cases ej : j = k
            · subst ej; exact HS.out
            · exact HNo.out j (by omega)
          case measure => simp [intOf]; omega
        · have hs' : (Num.shapeI (K k) (n k) != -1) = true := by simpa [Num.shapeAt] using hs
          have hv := Num.chk_shape N n X Y K hm k hlt hs HNo.out
          have HV := hide hv
          clear hs hv
          go_wp2
          go_ret3
          rw [HV.out]
          exact ⟨rfl, hb2⟩
      · have e : k = N := by omega
        subst e
        go_wp2_with fail
        go_loopw [29] (fun i wr' => ∃ j : Nat, j ≤ k ∧ i = .int .i64 j ∧ Below w.heap.size w wr' ∧ ∀ q, q < j → Num.farAt n X Y q = false) (fun i _ => k - (intOf i).toNat)
        case atStart => exact ⟨0, by omega, rfl, hb, by omega⟩
        case round =>
          obtain ⟨j, hj, rfl, hb', hno'⟩ := hrel
          have hsz' := hb'.size
          have HNo' := hide hno'
          clear hno'
          have HO3 := hide (HO.out.below hb')
          by_cases hlt' : j < k
          · rcases HO3.out.1 with h | ⟨b, off, rfl, hc⟩
            · omega
            have ci := hc j hlt'
            clear hc
            go_wp2_with fail
            refine (firstFar_any _ _ _ _ _ _ _ (HN.out j hlt') (HO3.out.2 j hlt')).mono ?_
            rintro e w1 ⟨rfl, hb1⟩
            have hb2 : Below w.heap.size w w1 := hb'.trans (hb1.mono hsz')
            clear hb1
            cases hs : Num.farAt n X Y j
            · have hs' : Num.farI (X j) (Y j) (n j) = -1 := by simpa [Num.farAt] using hs
              rw [hs']
              have HS := hide hs
              clear hs hs'
              go_wp2
              go_roundw
              case rel =>
                refine ⟨j + 1, by omega, by go_num, hb2, fun q hq => ?_⟩
                by_cases ej : q = j
                · subst ej; exact HS.out
                · exact HNo'.out q (by omega)
              case measure => simp [intOf]; omega
            · have hs' : (Num.farI (X j) (Y j) (n j) != -1) = true := by simpa [Num.farAt] using hs
              have hv := Num.chk_far k n X Y K hm HNo.out j hlt' hs HNo'.out
              have HV := hide hv
              clear hs hv
              go_wp2
              go_ret3
              rw [HV.out]
              exact ⟨rfl, hb2⟩
          · have e : j = k := by omega
            subst e
            go_wp2
            go_ret3
            rw [Num.chk_ok j n X Y K hm HNo.out HNo'.out]
            exact ⟨rfl, hb'⟩
  · rw [Num.chk_many N n X Y K hm]
    go_enter Try.func83, Try.ntmps83
    go_wp2_with fail
    refine (tooMany_any _ _ _ A C n X Y K _ hN HN.out HO.out).mono ?_
    rintro e w' ⟨rfl, hw⟩
    rw [hm, hw]
    clear hw
    go_wp2
    go_ret3
    exact ⟨rfl, Below.refl _ _⟩

set_option maxHeartbeats 400000 in
theorem glyphCheck_any (a : Option Addr) (N c : Nat) (A : Nat → Option Addr) (C n : Nat → Nat) (X Y K : Nat → Nat → Int) (w : World) (hN : N ≤ 4294967296) (hn : ∀ i, i < N → n i ≤ 4294967296) (ho : OutAt w a N A C n X Y K) :
    Calls Try.prog 45 #[.slice a N c] w fun e w' =>
      e = .returned (.tuple #[.int .i64 (Num.chkV N n X Y K).1, .int .i64 (Num.chkV N n X Y K).2.1, .int .i64 (Num.chkV N n X Y K).2.2]) ∧ Below w.heap.size w w' := by
  have HN := hide hn
  have HO := hide ho
  clear hn ho
  go_enter Try.func45, Try.ntmps45
  go_wp2_with fail
  refine (check_any _ _ _ A C n X Y K _ hN HN.out HO.out).mono ?_
  rintro e w1 ⟨rfl, hb⟩
  go_wp2
  go_ret3
  exact ⟨rfl, hb⟩
end Go.Proofs.Ytkhcjkmifddlbaa

/- RefChk -/
namespace Go.Proofs.Ytkhcjkmifddlbaa
open Go.RowKit

set_option maxHeartbeats 400000 in
theorem at_any (a : Option Addr) (n c : Nat) (X Y K : Nat → Int) (i : Int) (w : World) (h0 : 0 ≤ i) (h1 : i ≤ 1099511627776) (hp : 0 < n) (hn : n ≤ 4294967296) (hr : RingAt w a n X Y K) :
    Calls Try.prog 145 #[.slice a n c, .int .i64 i] w fun e w' => e = .returned (.agg #[.int .i64 (X (i.toNat % n)), .int .i64 (Y (i.toNat % n)), .int .i64 (K (i.toNat % n))]) ∧ Below w.heap.size w w' := by
  obtain ⟨j, rfl⟩ := Int.eq_ofNat_of_zero_le h0
  rw [Int.toNat_natCast]
  rcases hr with h | ⟨b, off, rfl, hc⟩
  · omega
  have hlt : j % n < n := Nat.mod_lt _ hp
  obtain ⟨c0, c1, c2⟩ := hc (j % n) hlt
  have hbw : b < w.heap.size := World.block_lt_of_cell? w _ c0
  clear hc
  obtain ⟨m, hm⟩ : ∃ m, m = j % n := ⟨_, rfl⟩
  rw [← hm] at c0 c1 c2 hlt ⊢
  have e : (j : Int) % (n : Int) = (m : Int) := by rw [hm]; simp
  clear hm
  have hn0 : ¬ (n : Int) = 0 := by omega
  have g1 : (m : Int) < (n : Int) := by omega
  go_enter Try.func145, Try.ntmps145
  go_wp2
  refine bodyPost_ret (v := .agg #[.int .i64 (X m), .int .i64 (Y m), .int .i64 (K m)]) (by simp [results, Try.results145, go_sem]) rfl ⟨rfl, ?_⟩
  (repeat (any_goals (first | exact Below.refl _ _ | assumption | refine Below.drew ?_ | refine below_drewN ?_ _ | refine Below.setCell ?_ ?_ _ | refine Below.alloc ?_ ?_ _ | omega | (simp; done) | (simp; omega))))

set_option maxHeartbeats 400000 in
theorem refMayStand_any (a : Option Addr) (n c : Nat) (X Y K : Nat → Int) (i : Nat) (w : World) (hi : i < n) (hn : n ≤ 4294967296) (hr : RingAt w a n X Y K) :
    Calls Try.prog 118 #[.slice a n c, .int .i64 i] w fun e w' => e = .returned (.bool (!Num.badB K n i)) ∧ Below w.heap.size w w' := by
  have hbad : (!Num.badB K n i) = Num.mayB (K ((i + n - 1) % n)) (K i) (K ((i + 1) % n)) := by
    rw [Num.prevK_mod K n i hi, Num.nextK_mod K n i hi]; simp [Num.badB]
  rw [hbad]
  clear hbad
  have HR := hide hr
  clear hr
  rcases HR.out with h | ⟨b, off, rfl, hc⟩
  · omega
  obtain ⟨_, _, c2⟩ := hc i hi
  have hbw : b < w.heap.size := World.block_lt_of_cell? w _ c2
  clear hc
  have g1 : (i : Int) < (n : Int) := by omega
  by_cases h2 : K i = 2
  · rw [h2] at c2 ⊢
    go_enter Try.func118, Try.ntmps118
    go_wp2_with fail
    refine (at_any _ _ _ X Y K _ _ (by omega) (by omega) (by omega) hn HR.out).mono ?_
    rw [show ((i : Int) + (n : Int) - 1).toNat = i + n - 1 by omega]
    rintro e w1 ⟨rfl, hb⟩
    have HR1 := hide (HR.out.below hb)
    have hz : w.heap.size ≤ w1.heap.size := hb.size
    go_wp2_with fail
    refine (at_any _ _ _ X Y K _ _ (by omega) (by omega) (by omega) hn (HR1.out.below (by (repeat (any_goals (first | exact Below.refl _ _ | assumption | refine Below.drew ?_ | refine below_drewN ?_ _ | refine Below.setCell ?_ ?_ _ | refine Below.alloc ?_ ?_ _ | omega | (simp; done) | (simp; omega))))))).mono ?_
    rw [show ((i : Int) + 1).toNat = i + 1 by omega]
    rintro e w2 ⟨rfl, hb2⟩
    obtain ⟨hc2, hfz2⟩ := bcell hb2
    have hz2 : w1.heap.size < w2.heap.size := by have := hb2.size; simp at this; omega
    have q2 : w2.cell? ⟨w1.heap.size, 2, none⟩ = some (.int .i64 (K ((i + n - 1) % n))) := by rw [hc2 _ _ (by simp)]; go_simp
    have hb3 : Below w.heap.size w w2 := Below.trans (by (repeat (any_goals (first | exact Below.refl _ _ | assumption | refine Below.drew ?_ | refine below_drewN ?_ _ | refine Below.setCell ?_ ?_ _ | refine Below.alloc ?_ ?_ _ | omega | (simp; done) | (simp; omega))))) (hb2.mono (by simp; omega))
    clear hb2 hc2 hfz2
    go_wp2
    all_goals
      go_ret
      refine ⟨ret_bool ?_, by (repeat (any_goals (first | exact Below.refl _ _ | assumption | refine Below.drew ?_ | refine below_drewN ?_ _ | refine Below.setCell ?_ ?_ _ | refine Below.alloc ?_ ?_ _ | omega | (simp; done) | (simp; omega))))⟩
      simp_all [Num.mayB]
  · have hne : (K i != 2) = true := by simpa using h2
    have e : Num.mayB (K ((i + n - 1) % n)) (K i) (K ((i + 1) % n)) = (K i == 0 || K i == 1) := by simp [Num.mayB, h2]
    rw [e]
    clear e
    go_enter Try.func118, Try.ntmps118
    go_wp2
    all_goals
      go_ret
      refine ⟨ret_bool ?_, by (repeat (any_goals (first | exact Below.refl _ _ | assumption | refine Below.drew ?_ | refine below_drewN ?_ _ | refine Below.setCell ?_ ?_ _ | refine Below.alloc ?_ ?_ _ | omega | (simp; done) | (simp; omega))))⟩
      simp_all

set_option maxHeartbeats 400000 in
theorem refFar_any (x y k : Int) (w : World) :
    Calls Try.prog 85 #[.agg #[.int .i64 x, .int .i64 y, .int .i64 k]] w fun e w' => e = .returned (.bool (!(Num.wi x 4096 && Num.wi y 4096))) ∧ Below w.heap.size w w' := by
  go_enter Try.func85, Try.ntmps85
  go_wp2
  all_goals
    go_ret
    refine ⟨ret_bool ?_, by (repeat (any_goals (first | exact Below.refl _ _ | assumption | refine Below.drew ?_ | refine below_drewN ?_ _ | refine Below.setCell ?_ ?_ _ | refine Below.alloc ?_ ?_ _ | omega | (simp; done) | (simp; omega))))⟩
    rw [Bool.eq_iff_iff]
    simp [Num.wi]
    omega

set_option maxHeartbeats 400000 in
theorem refShape_any (a : Option Addr) (n c : Nat) (X Y K : Nat → Int) (w : World) (hn : n ≤ 4294967296) (hr : RingAt w a n X Y K) :
    Calls Try.prog 84 #[.slice a n c] w fun e w' => e = .returned (.int .i64 (Num.shapeI K n)) ∧ Below w.heap.size w w' := by
  have HR := hide hr
  clear hr
  by_cases h2 : n < 2
  · have e : Num.shapeI K n = n := by unfold Num.shapeI; rw [if_pos h2]
    rw [e]
    clear e
    go_enter Try.func84, Try.ntmps84
    go_wp2_with fail
    go_ret
    exact ⟨rfl, Below.refl _ _⟩
  · have e : Num.shapeI K n = Num.firstI (Num.badB K n) n := by unfold Num.shapeI; rw [if_neg h2]
    rw [e]
    clear e
    go_enter Try.func84, Try.ntmps84
    go_wp2_with fail
    go_loopw [3] (fun i wr => ∃ k : Nat, k ≤ n ∧ i = .int .i64 k ∧ Below w.heap.size w wr ∧ ∀ j, j < k → Num.badB K n j = false) (fun i _ => n - (intOf i).toNat)
    case atStart => exact ⟨0, by omega, rfl, Below.refl _ _, by omega⟩
    case round =>
      obtain ⟨k, hk, rfl, hb, hno⟩ := hrel
      have hsz := hb.size
      have HN := hide hno
      clear hno
      by_cases hlt : k < n
      · go_wp2_with fail
        refine (refMayStand_any _ _ _ _ _ _ k _ hlt hn (HR.out.below hb)).mono ?_
        rintro e w1 ⟨rfl, hb1⟩
        have hb2 : Below w.heap.size w w1 := hb.trans (hb1.mono hsz)
        clear hb1
        cases hs : Num.badB K n k
        · have HS := hide hs
          clear hs
          go_wp2
          go_roundw
          case rel =>
            refine ⟨k + 1, by omega, by go_num, hb2, fun j hj => ?_⟩
            by_cases ej : j = k
            · subst ej; exact HS.out
            · exact HN.out j (by omega)
          case measure => simp [intOf]; omega
        · have HS := hide hs
          clear hs
          go_wp2
          go_ret
          exact ⟨ret_int (Num.firstI_hit _ _ _ hlt HS.out HN.out).symm, hb2⟩
      · have e : k = n := by omega
        subst e
        go_wp2
        go_ret
        exact ⟨ret_int (Num.firstI_none _ _ HN.out).symm, hb⟩
end Go.Proofs.Ytkhcjkmifddlbaa
