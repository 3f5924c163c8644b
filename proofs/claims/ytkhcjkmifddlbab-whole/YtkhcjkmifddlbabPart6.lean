/- Joined: CtB, CtC, CvL, CvG, CrvP, PlaceB, Trc. -/
import Derived.Test.YtkhcjkmifddlbabPart5
import Derived.Laws.AppendOwnNone
import Derived.Test.YtkhcjkmifddlbabPart4
import Derived.Test.YtkhcjkmifddlbabPart3
import Derived.Test.YtkhcjkmifddlbabPart2
/- CtB -/
namespace Go.Proofs.Ytkhcjkmifddlbab
open Go.RowKit Go.Deep

theorem intC_at (l : List Int) (i : Nat) (hi : i < l.length) : (intC l)[i]? = some (.int .i64 l[i]) := by simp [intC, hi]
theorem owns_int {w : World} {base b cap : Nat} {t : TypeId} {l : List Int} (h : w.ownsRow base t 1 (.slice (some ⟨b, 0, none⟩) l.length cap) l.length (intC l)) (i : Nat) (hi : i < l.length) : w.cell? ⟨b, i, none⟩ = some (.int .i64 l[i]) := by
  rw [h.cellAt i (by omega), intC_at l i hi]

theorem atRows_at {ax ay bx b2 : Int} {j : Nat} (hj : j < (Num.linesV ay b2).length) : (Num.rowsV ax ay bx b2).take (j + 1) = (Num.rowsV ax ay bx b2).take j ++ [(fun z => (Num.atV ax bx ay b2 z, z)) (Num.linesV ay b2)[j]] := by
  have hl : j < (Num.rowsV ax ay bx b2).length := by unfold Num.rowsV; simpa using hj
  rw [List.take_succ_eq_append_getElem hl]
  simp [Num.rowsV]

set_option maxRecDepth 100000 in
set_option maxHeartbeats 2000000 in
theorem atRows_any (ax ay bx b2 : Int) (w : World) (ha : (-16384 ≤ ax ∧ ax ≤ 16384) ∧ -16384 ≤ ay ∧ ay ≤ 16384) (hb : (-16384 ≤ bx ∧ bx ≤ 16384) ∧ -16384 ≤ b2 ∧ b2 ≤ 16384) :
    Calls Try.prog 104 #[.agg #[.int .i64 ax, .int .i64 ay], .agg #[.int .i64 bx, .int .i64 b2]] w fun e w' => ∃ v, e = .returned v ∧ Below w.heap.size w w' ∧ w'.ownsRow w.heap.size 53 2 v (Num.rowsV ax ay bx b2).length ((Num.rowsV ax ay bx b2).flatMap spC) ∧ ((Num.rowsV ax ay bx b2).length = 0 → v = .slice none 0 0) := by
  have hmem : ∀ z ∈ Num.linesV ay b2, (ay < z ∧ z < b2) ∨ (b2 < z ∧ z < ay) := fun z hz => Num.linesV_mem hz
  have hat0 : ∀ j (hj : j < (Num.linesV ay b2).length), (Num.rowsV ax ay bx b2).take (j + 1) = (Num.rowsV ax ay bx b2).take j ++ [(fun z => (Num.atV ax bx ay b2 z, z)) (Num.linesV ay b2)[j]] := fun j hj => atRows_at hj
  have hll : (Num.rowsV ax ay bx b2).length = (Num.linesV ay b2).length := by unfold Num.rowsV; simp
  have hle := Num.linesV_len ay b2
  obtain ⟨i0, hi0, hz0, hz1, hz2⟩ := info_parts info_spot
  have HL := hide (fun w => linesBetween_any ay b2 w ha.2 hb.2)
  obtain ⟨L, hL⟩ : ∃ L, L = Num.linesV ay b2 := ⟨_, rfl⟩
  obtain ⟨R, hR⟩ : ∃ R, R = Num.rowsV ax ay bx b2 := ⟨_, rfl⟩
  rw [← hL] at HL hmem hll hle
  have hat1 : ∀ j (hj : j < L.length), R.take (j + 1) = R.take j ++ [(fun z => (Num.atV ax bx ay b2 z, z)) L[j]] := by rw [hR, hL]; exact hat0
  rw [← hR] at hll ⊢
  have HAt := hide hat1
  have HMem := hide hmem
  clear hL hR hat0 hat1 hmem
  go_enter Try.func104, Try.ntmps104
  go_wp2_with fail
  refine (HL.out _).mono ?_
  rintro e w1 ⟨vL, rfl, hb1, hown1⟩
  have hs1 : w.heap.size + 1 < w1.heap.size := by have := hb1.size; simp at this; omega
  have hB1 : Below (w.heap.size + 2) ((w.alloc (.cells #[.int .i64 ax, .int .i64 ay] 53)).alloc (.cells #[.int .i64 bx, .int .i64 b2] 53)) w1 := hb1.mono (by simp)
  obtain ⟨ao, capL, rfl, hao⟩ := owns_formN hown1
  have HO1 := hide hown1
  have HAo := hide hao
  obtain ⟨m2, hm2⟩ : ∃ m2, m2 = L.length := ⟨_, rfl⟩
  rw [← hm2] at hle hll ⊢
  have HM2 := hide hm2
  have hbl : ∀ g2, ao = some ⟨g2, 0, none⟩ → w.heap.size + 2 ≤ g2 ∧ g2 < w1.heap.size := fun g2 e => by
    have := hown1.lt g2 (by rw [e]; rfl)
    simp at this; omega
  have HBl := hide hbl
  clear hb1 hown1 hao hm2 hbl
  go_wp2_with fail
  go_loopw [5, 15] (fun v t wr => ∃ j : Nat, j ≤ m2 ∧ t = .int .i64 j ∧ w1.heap.size ≤ wr.heap.size ∧ Below (w.heap.size + 2) ((w.alloc (.cells #[.int .i64 ax, .int .i64 ay] 53)).alloc (.cells #[.int .i64 bx, .int .i64 b2] 53)) wr ∧ wr.ownsRow (w.heap.size + 2) 53 2 v j ((R.take j).flatMap spC) ∧ (j = 0 → v = .slice none 0 0) ∧ ∀ g2, ao = some ⟨g2, 0, none⟩ → v.ownBlock ≠ some g2 ∧ wr.heap[g2]? = w1.heap[g2]?) (fun _ t _ => m2 - (intOf t).toNat)
  case atStart => exact ⟨0, by omega, rfl, Nat.le_refl _, hB1, by simpa using World.ownsRow_nil _ _ _ _, fun _ => rfl, fun g2 _ => ⟨by simp [Value.ownBlock], rfl⟩⟩
  case round =>
    obtain ⟨v, rfl⟩ : ∃ v, v = u5 := ⟨_, rfl⟩
    obtain ⟨j, hj, rfl, hsr, hB, hown, hnil, hne⟩ := hrel
    by_cases hlt : j < m2
    · have hjl : j < L.length := by rw [← HM2.out]; exact hlt
      obtain ⟨g2, rfl⟩ := HAo.out (by omega)
      obtain ⟨hne2, hblk⟩ := hne g2 rfl
      obtain ⟨gl1, gl2⟩ := HBl.out g2 rfl
      have hO2 := owns_of_block (w' := wr) HO1.out (fun b hbb => by simp [Value.ownBlock] at hbb; subst hbb; exact hblk)
      have cz := owns_int hO2 j hjl
      have hzm := HMem.out _ (List.getElem_mem hjl)
      have HTk := hide (HAt.out j hjl)
      obtain ⟨z, hz⟩ : ∃ z, z = L[j] := ⟨_, rfl⟩
      rw [← hz] at cz hzm HTk
      clear hO2 hz
      have zb : -16384 ≤ z ∧ z ≤ 16384 := by omega
      have hpq : ay ≠ b2 := by omega
      have HC := hide (fun w => meet_any z ay b2 ax bx w hpq zb ha.2 hb.2 ha.1 hb.1)
      obtain ⟨m, hm⟩ : ∃ m, m = Num.atV ax bx ay b2 z := ⟨_, rfl⟩
      rw [← hm] at HC
      have HTk2 : Hid (R.take (j + 1) = R.take j ++ [(m, z)]) := by unfold Hid; rw [HTk.out, hm]
      have hd1 : decide ((j : Int) < (m2 : Int)) = true := by simp; omega
      have sz0 : w.heap.size < wr.heap.size := by omega
      have sz1 : w.heap.size + 1 < wr.heap.size := by omega
      have a0 : wr.cell? ⟨w.heap.size, 0, none⟩ = some (.int .i64 ax) := (hB.cell (p := ⟨w.heap.size, 0, none⟩) (by simp)).trans (by go_simp)
      have a1 : wr.cell? ⟨w.heap.size, 1, none⟩ = some (.int .i64 ay) := (hB.cell (p := ⟨w.heap.size, 1, none⟩) (by simp)).trans (by go_simp)
      have e0 : wr.cell? ⟨w.heap.size + 1, 0, none⟩ = some (.int .i64 bx) := (hB.cell (p := ⟨w.heap.size + 1, 0, none⟩) (by simp)).trans (by go_simp)
      have e1 : wr.cell? ⟨w.heap.size + 1, 1, none⟩ = some (.int .i64 b2) := (hB.cell (p := ⟨w.heap.size + 1, 1, none⟩) (by simp)).trans (by go_simp)
      obtain ⟨xs, hxs⟩ : ∃ xs, xs = (R.take j).flatMap spC := ⟨_, rfl⟩
      rw [← hxs] at hown
      have HX := hide hxs
      have HNe := hide hne2
      have HBk := hide hblk
      clear hm hzm HTk hxs hne hne2 hblk hnil zb hpq
      go_wp2_with fail
      refine (HC.out _).mono ?_
      rintro e w' ⟨rfl, rfl⟩
      go_wp2_with (at_builtin; refine wpList_append_lies _ rfl _ _ 51 rfl (w.heap.size + 2) 53 i0 (.agg #[.int .i64 0, .int .i64 0]) 2 16 Try.underlying51 hi0 hz0 hz1 hz2 rfl (by omega) v j xs rfl (hown.alloc _) ⟨w'.heap.size, 0, none⟩ 1 1 [.int .i64 m, .int .i64 z] rfl rfl ?e1 ?e2 (by omega) ?e3 ?e4 ?e5 (w'.heap.size + 1) (by simp) ?_)
      try (case e1 => exact news_sp w' [.int .i64 m, .int .i64 z] _ _ rfl)
      case e2 => first | exact one_two _ _ | exact ⟨rfl, rfl⟩
      case e3 => unfold maxLen; omega
      case e4 => omega
      case e5 => first | omega | (simp; omega)
      intro g cap w4 hown4 hgrow hat hlt4
      have hb4 : Below (w.heap.size + 2) ((w.alloc (.cells #[.int .i64 ax, .int .i64 ay] 53)).alloc (.cells #[.int .i64 bx, .int .i64 b2] 53)) w4 := (hB.alloc (by omega) _).grown hgrow (by simp; omega) (fun q hq => (hown.lt q hq).1)
      have hs4 : w1.heap.size ≤ w4.heap.size := by have := hgrow.size; rw [nblk_alloc] at this; omega
      have HO4 : Hid (w4.ownsRow (w.heap.size + 2) 53 2 (.slice (some ⟨g, 0, none⟩) (j + 1) cap) (j + 1) ((R.take (j + 1)).flatMap spC)) := by
        unfold Hid
        have := push_sp (l := R.take j) (l' := R.take (j + 1)) (p := (m, z)) (m := j + 1) (by rw [← HX.out]; exact hown4) HTk2.out (by rw [List.length_take, hll]; omega)
        rw [List.length_take, hll, Nat.min_eq_left (by omega)] at this
        exact this
      have HNe2 : Hid ((Value.slice (some ⟨g, 0, none⟩) (j + 1) cap).ownBlock ≠ some g2) := by
        unfold Hid
        intro e
        simp [Value.ownBlock] at e
        rcases hat with hat | hat
        · exact HNe.out (by rw [hat, e])
        · omega
      have HBk2 : Hid (w4.heap[g2]? = w1.heap[g2]?) := by
        unfold Hid
        rw [hgrow.block g2 (by rw [nblk_alloc]; omega) (fun e => HNe.out e.symm), blk_alloc_lt _ _ _ (by omega)]
        exact HBk.out
      clear hown4 hgrow hat hown hB a0 a1 e0 e1 cz
      go_wp2
      go_roundw
      case rel => exact ⟨j + 1, by omega, by go_num, hs4, hb4, HO4.out, by omega, fun g3 e3 => by simp at e3; subst e3; exact ⟨HNe2.out, HBk2.out⟩⟩
      case measure => simp [intOf]; omega
    · have e : j = m2 := by omega
      have hd0 : decide ((j : Int) < (m2 : Int)) = false := by simp; omega
      have HO := hide hown
      have HB := hide hB
      have HNil := hide hnil
      clear hown hB hne hnil
      go_wp2
      go_ret
      refine ⟨v, rfl, Below.trans (by (repeat (any_goals (first | exact Below.refl _ _ | assumption | refine Below.drew ?_ | refine below_drewN ?_ _ | refine Below.setCell ?_ ?_ _ | refine Below.alloc ?_ ?_ _ | omega | (simp; done) | (simp; omega))))) (HB.out.mono (by omega)), ?_, fun h => HNil.out (by omega)⟩
      have h := owns_mono (base' := w.heap.size) HO.out (by omega)
      rw [List.take_of_length_le (by omega)] at h
      rw [hll, ← e]
      exact h

theorem atCols_at {ax ay bx b2 : Int} {j : Nat} (hj : j < (Num.linesV ax bx).length) : (Num.colsV ax ay bx b2).take (j + 1) = (Num.colsV ax ay bx b2).take j ++ [(fun z => (z, Num.atV ay b2 ax bx z)) (Num.linesV ax bx)[j]] := by
  have hl : j < (Num.colsV ax ay bx b2).length := by unfold Num.colsV; simpa using hj
  rw [List.take_succ_eq_append_getElem hl]
  simp [Num.colsV]

set_option maxRecDepth 100000 in
set_option maxHeartbeats 2000000 in
theorem atCols_any (ax ay bx b2 : Int) (w : World) (ha : (-16384 ≤ ax ∧ ax ≤ 16384) ∧ -16384 ≤ ay ∧ ay ≤ 16384) (hb : (-16384 ≤ bx ∧ bx ≤ 16384) ∧ -16384 ≤ b2 ∧ b2 ≤ 16384) :
    Calls Try.prog 105 #[.agg #[.int .i64 ax, .int .i64 ay], .agg #[.int .i64 bx, .int .i64 b2]] w fun e w' => ∃ v, e = .returned v ∧ Below w.heap.size w w' ∧ w'.ownsRow w.heap.size 53 2 v (Num.colsV ax ay bx b2).length ((Num.colsV ax ay bx b2).flatMap spC) ∧ ((Num.colsV ax ay bx b2).length = 0 → v = .slice none 0 0) := by
  have hmem : ∀ z ∈ Num.linesV ax bx, (ax < z ∧ z < bx) ∨ (bx < z ∧ z < ax) := fun z hz => Num.linesV_mem hz
  have hat0 : ∀ j (hj : j < (Num.linesV ax bx).length), (Num.colsV ax ay bx b2).take (j + 1) = (Num.colsV ax ay bx b2).take j ++ [(fun z => (z, Num.atV ay b2 ax bx z)) (Num.linesV ax bx)[j]] := fun j hj => atCols_at hj
  have hll : (Num.colsV ax ay bx b2).length = (Num.linesV ax bx).length := by unfold Num.colsV; simp
  have hle := Num.linesV_len ax bx
  obtain ⟨i0, hi0, hz0, hz1, hz2⟩ := info_parts info_spot
  have HL := hide (fun w => linesBetween_any ax bx w ha.1 hb.1)
  obtain ⟨L, hL⟩ : ∃ L, L = Num.linesV ax bx := ⟨_, rfl⟩
  obtain ⟨R, hR⟩ : ∃ R, R = Num.colsV ax ay bx b2 := ⟨_, rfl⟩
  rw [← hL] at HL hmem hll hle
  have hat1 : ∀ j (hj : j < L.length), R.take (j + 1) = R.take j ++ [(fun z => (z, Num.atV ay b2 ax bx z)) L[j]] := by rw [hR, hL]; exact hat0
  rw [← hR] at hll ⊢
  have HAt := hide hat1
  have HMem := hide hmem
  clear hL hR hat0 hat1 hmem
  go_enter Try.func105, Try.ntmps105
  go_wp2_with fail
  refine (HL.out _).mono ?_
  rintro e w1 ⟨vL, rfl, hb1, hown1⟩
  have hs1 : w.heap.size + 1 < w1.heap.size := by have := hb1.size; simp at this; omega
  have hB1 : Below (w.heap.size + 2) ((w.alloc (.cells #[.int .i64 ax, .int .i64 ay] 53)).alloc (.cells #[.int .i64 bx, .int .i64 b2] 53)) w1 := hb1.mono (by simp)
  obtain ⟨ao, capL, rfl, hao⟩ := owns_formN hown1
  have HO1 := hide hown1
  have HAo := hide hao
  obtain ⟨m2, hm2⟩ : ∃ m2, m2 = L.length := ⟨_, rfl⟩
  rw [← hm2] at hle hll ⊢
  have HM2 := hide hm2
  have hbl : ∀ g2, ao = some ⟨g2, 0, none⟩ → w.heap.size + 2 ≤ g2 ∧ g2 < w1.heap.size := fun g2 e => by
    have := hown1.lt g2 (by rw [e]; rfl)
    simp at this; omega
  have HBl := hide hbl
  clear hb1 hown1 hao hm2 hbl
  go_wp2_with fail
  go_loopw [5, 15] (fun v t wr => ∃ j : Nat, j ≤ m2 ∧ t = .int .i64 j ∧ w1.heap.size ≤ wr.heap.size ∧ Below (w.heap.size + 2) ((w.alloc (.cells #[.int .i64 ax, .int .i64 ay] 53)).alloc (.cells #[.int .i64 bx, .int .i64 b2] 53)) wr ∧ wr.ownsRow (w.heap.size + 2) 53 2 v j ((R.take j).flatMap spC) ∧ (j = 0 → v = .slice none 0 0) ∧ ∀ g2, ao = some ⟨g2, 0, none⟩ → v.ownBlock ≠ some g2 ∧ wr.heap[g2]? = w1.heap[g2]?) (fun _ t _ => m2 - (intOf t).toNat)
  case atStart => exact ⟨0, by omega, rfl, Nat.le_refl _, hB1, by simpa using World.ownsRow_nil _ _ _ _, fun _ => rfl, fun g2 _ => ⟨by simp [Value.ownBlock], rfl⟩⟩
  case round =>
    obtain ⟨v, rfl⟩ : ∃ v, v = u5 := ⟨_, rfl⟩
    obtain ⟨j, hj, rfl, hsr, hB, hown, hnil, hne⟩ := hrel
    by_cases hlt : j < m2
    · have hjl : j < L.length := by rw [← HM2.out]; exact hlt
      obtain ⟨g2, rfl⟩ := HAo.out (by omega)
      obtain ⟨hne2, hblk⟩ := hne g2 rfl
      obtain ⟨gl1, gl2⟩ := HBl.out g2 rfl
      have hO2 := owns_of_block (w' := wr) HO1.out (fun b hbb => by simp [Value.ownBlock] at hbb; subst hbb; exact hblk)
      have cz := owns_int hO2 j hjl
      have hzm := HMem.out _ (List.getElem_mem hjl)
      have HTk := hide (HAt.out j hjl)
      obtain ⟨z, hz⟩ : ∃ z, z = L[j] := ⟨_, rfl⟩
      rw [← hz] at cz hzm HTk
      clear hO2 hz
      have zb : -16384 ≤ z ∧ z ≤ 16384 := by omega
      have hpq : ax ≠ bx := by omega
      have HC := hide (fun w => meet_any z ax bx ay b2 w hpq zb ha.1 hb.1 ha.2 hb.2)
      obtain ⟨m, hm⟩ : ∃ m, m = Num.atV ay b2 ax bx z := ⟨_, rfl⟩
      rw [← hm] at HC
      have HTk2 : Hid (R.take (j + 1) = R.take j ++ [(z, m)]) := by unfold Hid; rw [HTk.out, hm]
      have hd1 : decide ((j : Int) < (m2 : Int)) = true := by simp; omega
      have sz0 : w.heap.size < wr.heap.size := by omega
      have sz1 : w.heap.size + 1 < wr.heap.size := by omega
      have a0 : wr.cell? ⟨w.heap.size, 0, none⟩ = some (.int .i64 ax) := (hB.cell (p := ⟨w.heap.size, 0, none⟩) (by simp)).trans (by go_simp)
      have a1 : wr.cell? ⟨w.heap.size, 1, none⟩ = some (.int .i64 ay) := (hB.cell (p := ⟨w.heap.size, 1, none⟩) (by simp)).trans (by go_simp)
      have e0 : wr.cell? ⟨w.heap.size + 1, 0, none⟩ = some (.int .i64 bx) := (hB.cell (p := ⟨w.heap.size + 1, 0, none⟩) (by simp)).trans (by go_simp)
      have e1 : wr.cell? ⟨w.heap.size + 1, 1, none⟩ = some (.int .i64 b2) := (hB.cell (p := ⟨w.heap.size + 1, 1, none⟩) (by simp)).trans (by go_simp)
      obtain ⟨xs, hxs⟩ : ∃ xs, xs = (R.take j).flatMap spC := ⟨_, rfl⟩
      rw [← hxs] at hown
      have HX := hide hxs
      have HNe := hide hne2
      have HBk := hide hblk
      clear hm hzm HTk hxs hne hne2 hblk hnil zb hpq
      go_wp2_with fail
      refine (HC.out _).mono ?_
      rintro e w' ⟨rfl, rfl⟩
      go_wp2_with (at_builtin; refine wpList_append_lies _ rfl _ _ 51 rfl (w.heap.size + 2) 53 i0 (.agg #[.int .i64 0, .int .i64 0]) 2 16 Try.underlying51 hi0 hz0 hz1 hz2 rfl (by omega) v j xs rfl (hown.alloc _) ⟨w'.heap.size, 0, none⟩ 1 1 [.int .i64 z, .int .i64 m] rfl rfl ?e1 ?e2 (by omega) ?e3 ?e4 ?e5 (w'.heap.size + 1) (by simp) ?_)
      try (case e1 => exact news_sp w' [.int .i64 z, .int .i64 m] _ _ rfl)
      case e2 => first | exact one_two _ _ | exact ⟨rfl, rfl⟩
      case e3 => unfold maxLen; omega
      case e4 => omega
      case e5 => first | omega | (simp; omega)
      intro g cap w4 hown4 hgrow hat hlt4
      have hb4 : Below (w.heap.size + 2) ((w.alloc (.cells #[.int .i64 ax, .int .i64 ay] 53)).alloc (.cells #[.int .i64 bx, .int .i64 b2] 53)) w4 := (hB.alloc (by omega) _).grown hgrow (by simp; omega) (fun q hq => (hown.lt q hq).1)
      have hs4 : w1.heap.size ≤ w4.heap.size := by have := hgrow.size; rw [nblk_alloc] at this; omega
      have HO4 : Hid (w4.ownsRow (w.heap.size + 2) 53 2 (.slice (some ⟨g, 0, none⟩) (j + 1) cap) (j + 1) ((R.take (j + 1)).flatMap spC)) := by
        unfold Hid
        have := push_sp (l := R.take j) (l' := R.take (j + 1)) (p := (z, m)) (m := j + 1) (by rw [← HX.out]; exact hown4) HTk2.out (by rw [List.length_take, hll]; omega)
        rw [List.length_take, hll, Nat.min_eq_left (by omega)] at this
        exact this
      have HNe2 : Hid ((Value.slice (some ⟨g, 0, none⟩) (j + 1) cap).ownBlock ≠ some g2) := by
        unfold Hid
        intro e
        simp [Value.ownBlock] at e
        rcases hat with hat | hat
        · exact HNe.out (by rw [hat, e])
        · omega
      have HBk2 : Hid (w4.heap[g2]? = w1.heap[g2]?) := by
        unfold Hid
        rw [hgrow.block g2 (by rw [nblk_alloc]; omega) (fun e => HNe.out e.symm), blk_alloc_lt _ _ _ (by omega)]
        exact HBk.out
      clear hown4 hgrow hat hown hB a0 a1 e0 e1 cz
      go_wp2
      go_roundw
      case rel => exact ⟨j + 1, by omega, by go_num, hs4, hb4, HO4.out, by omega, fun g3 e3 => by simp at e3; subst e3; exact ⟨HNe2.out, HBk2.out⟩⟩
      case measure => simp [intOf]; omega
    · have e : j = m2 := by omega
      have hd0 : decide ((j : Int) < (m2 : Int)) = false := by simp; omega
      have HO := hide hown
      have HB := hide hB
      have HNil := hide hnil
      clear hown hB hne hnil
      go_wp2
      go_ret
      refine ⟨v, rfl, Below.trans (by (repeat (any_goals (first | exact Below.refl _ _ | assumption | refine Below.drew ?_ | refine below_drewN ?_ _ | refine Below.setCell ?_ ?_ _ | refine Below.alloc ?_ ?_ _ | omega | (simp; done) | (simp; omega))))) (HB.out.mono (by omega)), ?_, fun h => HNil.out (by omega)⟩
      have h := owns_mono (base' := w.heap.size) HO.out (by omega)
      rw [List.take_of_length_le (by omega)] at h
      rw [hll, ← e]
      exact h

end Go.Proofs.Ytkhcjkmifddlbab

/- CtC -/
namespace Go.Proofs.Ytkhcjkmifddlbab
open Go.RowKit Go.Deep

/-- The cells of a spot that lies alone. -/
def sp2 (x y : Int) (q : Nat) : Value := [Value.int .i64 x, .int .i64 y][q]?.getD undef
theorem sp2_row (x y : Int) (w : World) (t : TypeId) : (w.alloc (.cells #[.int .i64 x, .int .i64 y] t)).rowIs w.heap.size t 2 (sp2 x y) := by
  refine World.rowIs_alloc w #[.int .i64 x, .int .i64 y] t (sp2 x y) (fun i hi => ?_)
  have hi : i < 2 := hi
  rcases (show i = 0 ∨ i = 1 by omega) with rfl | rfl <;> rfl
theorem sp2_cells {x y : Int} {w : World} {b : Nat} {t : TypeId} (h : w.rowIs b t 2 (sp2 x y)) : w.cell? ⟨b, 0, none⟩ = some (.int .i64 x) ∧ w.cell? ⟨b, 1, none⟩ = some (.int .i64 y) :=
  ⟨h.cell (i := 0) (by omega), h.cell (i := 1) (by omega)⟩
theorem sp2_set {x y : Int} {w : World} {b : Nat} {t : TypeId} (h : w.rowIs b t 2 (sp2 x y)) (x' y' : Int) : ((w.setCell ⟨b, 0, none⟩ (.int .i64 x')).setCell ⟨b, 1, none⟩ (.int .i64 y')).rowIs b t 2 (sp2 x' y') := by
  refine ((h.set 0 _).set 1 _).congr fun q hq => ?_
  rcases (show q = 0 ∨ q = 1 by omega) with rfl | rfl <;> rfl

theorem set_otherB {w2 : World} {h q : Nat} {v : Value} {b : Nat} (hb : b ≠ h) : (w2.setCell ⟨h, q, none⟩ v).heap[b]? = w2.heap[b]? := blk_setCell_other _ _ _ _ (by simpa using hb)

/-- The spots up to row spot j. -/
def cutU (ax ay : Int) (RR : List (Int × Int)) (j : Nat) : List (Int × Int) := (ax, ay) :: Num.cutF ax ay (RR.take j)
theorem cutU_succ {ax ay : Int} {RR : List (Int × Int)} {j : Nat} (hj : j < RR.length) {x y : Int} (hl : Num.lastS ax ay (RR.take j) = (x, y)) :
    cutU ax ay RR (j + 1) = (cutU ax ay RR j ++ Num.colsV x y RR[j].1 RR[j].2) ++ [RR[j]] := by
  unfold cutU
  rw [List.take_succ_eq_append_getElem hj, Num.cutF_snoc, hl]
  simp
theorem cutU_len (ax ay : Int) (RR : List (Int × Int)) (j : Nat) (hj : RR.length ≤ 1027) : (cutU ax ay RR j).length ≤ 1054730 := by
  unfold cutU
  have h := Num.cutF_len (RR.take j) ax ay
  have h2 : (RR.take j).length ≤ 1027 := Nat.le_trans (List.length_take_le' _ _) hj
  simp only [List.length_cons]
  omega
theorem cuts_yes {ax ay bx b2 : Int} (ha : Num.inB ax ay = true) (hb : Num.inB bx b2 = true) : Num.cutsE ax ay bx b2 = 0 ∧ Num.cutsL ax ay bx b2 = cutU ax ay (Num.rowsV ax ay bx b2 ++ [(bx, b2)]) (Num.rowsV ax ay bx b2 ++ [(bx, b2)]).length := by
  have e : Num.cutsE ax ay bx b2 = 0 := by unfold Num.cutsE; rw [ha, hb]; rfl
  refine ⟨e, ?_⟩
  unfold Num.cutsL
  rw [if_pos e]
  unfold cutU
  rw [List.take_length]
theorem cuts_no {ax ay bx b2 : Int} (h : (Num.inB ax ay && Num.inB bx b2) = false) : Num.cutsE ax ay bx b2 = 6 ∧ Num.cutsL ax ay bx b2 = [] := by
  have e : Num.cutsE ax ay bx b2 = 6 := by unfold Num.cutsE; rw [h]; rfl
  exact ⟨e, by unfold Num.cutsL; rw [if_neg (by rw [e]; decide)]⟩

set_option maxRecDepth 100000 in
set_option maxHeartbeats 4000000 in
theorem chordCuts_any (ax ay bx b2 : Int) (w : World) :
    Calls Try.prog 90 #[.agg #[.int .i64 ax, .int .i64 ay], .agg #[.int .i64 bx, .int .i64 b2]] w fun e w' => ∃ v, e = .returned (.tuple #[v, .int .i64 (Num.cutsE ax ay bx b2)]) ∧ Below w.heap.size w w' ∧ w'.ownsRow w.heap.size 53 2 v (Num.cutsL ax ay bx b2).length ((Num.cutsL ax ay bx b2).flatMap spC) := by
  cases ha : Num.inB ax ay
  · obtain ⟨e1, e2⟩ := cuts_no (ax := ax) (ay := ay) (bx := bx) (b2 := b2) (by rw [ha]; rfl)
    rw [e1, e2]
    clear e1 e2
    go_enter Try.func90, Try.ntmps90
    go_wp2_with (go_at_call 103; refine (inRange_exact _ _ _).mono ?_; rintro e w' ⟨rfl, rfl⟩)
    go_ret2
    exact ⟨_, rfl, by (repeat (any_goals (first | exact Below.refl _ _ | assumption | refine Below.drew ?_ | refine below_drewN ?_ _ | refine Below.setCell ?_ ?_ _ | refine Below.alloc ?_ ?_ _ | omega | (simp; done) | (simp; omega)))), World.ownsRow_nil _ _ _ _⟩
  cases hb : Num.inB bx b2
  · obtain ⟨e1, e2⟩ := cuts_no (ax := ax) (ay := ay) (bx := bx) (b2 := b2) (by rw [ha, hb]; rfl)
    rw [e1, e2]
    clear e1 e2
    go_enter Try.func90, Try.ntmps90
    go_wp2_with (go_at_call 103; refine (inRange_exact _ _ _).mono ?_; rintro e w' ⟨rfl, rfl⟩)
    go_ret2
    exact ⟨_, rfl, by (repeat (any_goals (first | exact Below.refl _ _ | assumption | refine Below.drew ?_ | refine below_drewN ?_ _ | refine Below.setCell ?_ ?_ _ | refine Below.alloc ?_ ?_ _ | omega | (simp; done) | (simp; omega)))), World.ownsRow_nil _ _ _ _⟩
  obtain ⟨eE, eL⟩ := cuts_yes ha hb
  have hRin : ∀ t ∈ Num.rowsV ax ay bx b2 ++ [(bx, b2)], Num.inB t.1 t.2 = true := fun t ht => by
    rcases List.mem_append.1 ht with ht | ht
    · exact Num.rowsV_in ha hb t ht
    · simp at ht; subst ht; exact hb
  have hRle := Num.rowsV_len ax ay bx b2
  have HAR := hide (fun w => atRows_any ax ay bx b2 w (Num.inB_yes ha) (Num.inB_yes hb))
  obtain ⟨R, hR⟩ : ∃ R, R = Num.rowsV ax ay bx b2 := ⟨_, rfl⟩
  rw [← hR] at eL hRin hRle HAR
  obtain ⟨RR, hRR⟩ : ∃ RR, RR = R ++ [(bx, b2)] := ⟨_, rfl⟩
  have hRRl : RR.length = R.length + 1 := by rw [hRR]; simp
  rw [← hRR] at eL hRin
  have HRf : Hid (RR.flatMap spC = R.flatMap spC ++ [.int .i64 bx, .int .i64 b2]) := by unfold Hid; rw [hRR]; simp [spC]
  rw [eE, eL]
  have HIn := hide hRin
  clear hR hRR eE eL hRin
  obtain ⟨i0, hi0, hz0, hz1, hz2⟩ := info_parts info_spot
  go_enter Try.func90, Try.ntmps90
  go_wp2_with (go_at_call 103; refine (inRange_exact _ _ _).mono ?_; rintro e w' ⟨rfl, rfl⟩)
  refine (HAR.out _).mono ?_
  rintro e w1 ⟨vR, rfl, hb1, hown1, _⟩
  have hs1 : w.heap.size + 1 < w1.heap.size := by have := hb1.size; simp at this; omega
  have hs0 : w.heap.size < w1.heap.size := by omega
  have hB1 : Below w.heap.size w w1 := Below.trans (by (repeat (any_goals (first | exact Below.refl _ _ | assumption | refine Below.drew ?_ | refine below_drewN ?_ _ | refine Below.setCell ?_ ?_ _ | refine Below.alloc ?_ ?_ _ | omega | (simp; done) | (simp; omega))))) (hb1.mono (by simp; omega))
  have a0 : w1.cell? ⟨w.heap.size, 0, none⟩ = some (.int .i64 ax) := (hb1.cell (p := ⟨w.heap.size, 0, none⟩) (by first | (simp; done) | (simp; omega))).trans (by go_simp)
  have a1 : w1.cell? ⟨w.heap.size, 1, none⟩ = some (.int .i64 ay) := (hb1.cell (p := ⟨w.heap.size, 1, none⟩) (by first | (simp; done) | (simp; omega))).trans (by go_simp)
  have e0 : w1.cell? ⟨w.heap.size + 1, 0, none⟩ = some (.int .i64 bx) := (hb1.cell (p := ⟨w.heap.size + 1, 0, none⟩) (by first | (simp; done) | (simp; omega))).trans (by go_simp)
  have e1 : w1.cell? ⟨w.heap.size + 1, 1, none⟩ = some (.int .i64 b2) := (hb1.cell (p := ⟨w.heap.size + 1, 1, none⟩) (by first | (simp; done) | (simp; omega))).trans (by go_simp)
  have hown1 := owns_mono (base' := w.heap.size + 2) hown1 (by simp)
  clear hb1
  obtain ⟨m, hm⟩ : ∃ m, m = R.length := ⟨_, rfl⟩
  obtain ⟨xs, hxs⟩ : ∃ xs, xs = R.flatMap spC := ⟨_, rfl⟩
  rw [← hm, ← hxs] at hown1
  rw [← hm] at hRRl hRle
  rw [← hxs] at HRf
  clear hm hxs
  go_wp2_with (at_builtin; refine wpList_append_lies _ rfl _ _ 51 rfl (w.heap.size + 2) 53 i0 (.agg #[.int .i64 0, .int .i64 0]) 2 16 Try.underlying51 hi0 hz0 hz1 hz2 rfl (by omega) vR m xs rfl (hown1.alloc _) ⟨w1.heap.size, 0, none⟩ 1 1 [.int .i64 bx, .int .i64 b2] rfl rfl ?e1 ?e2 (by omega) ?e3 ?e4 ?e5 (w1.heap.size + 1) (by simp) ?_)
  try (case e1 => exact news_sp w1 [.int .i64 bx, .int .i64 b2] _ _ rfl)
  case e2 => first | exact one_two _ _ | exact ⟨rfl, rfl⟩
  case e3 => unfold maxLen; omega
  case e4 => omega
  case e5 => first | omega | (simp; omega)
  intro g6 cap6 w2 hown2 hgrow hat hlt2
  have hB2 : Below w.heap.size w w2 := (hB1.alloc (by omega) _).grown hgrow (by simp; omega) (fun q hq => by have := (hown1.lt q hq).1; omega)
  have hs2 : w.heap.size + 1 < w2.heap.size := by have := hgrow.size; rw [nblk_alloc] at this; omega
  have hs2' : w.heap.size < w2.heap.size := by omega
  have hty : ∀ b, b < w.heap.size + 2 → some b ≠ vR.ownBlock := fun b hb e => by have := (hown1.lt b e.symm).1; omega
  have a0' : w2.cell? ⟨w.heap.size, 0, none⟩ = some (.int .i64 ax) := (hgrow.cell_far ⟨w.heap.size, 0, none⟩ (by simp; omega) (hty _ (by simp))).trans (by go_simp)
  have a1' : w2.cell? ⟨w.heap.size, 1, none⟩ = some (.int .i64 ay) := (hgrow.cell_far ⟨w.heap.size, 1, none⟩ (by simp; omega) (hty _ (by simp))).trans (by go_simp)
  have hg6 : w.heap.size + 2 ≤ g6 := (hown2.lt g6 rfl).1
  rw [← HRf.out, ← hRRl] at hown2
  have HO2 := hide hown2
  clear hown2 hgrow hat hown1 hB1 a0 a1 e0 e1 hty
  obtain ⟨n, hn⟩ : ∃ n, n = RR.length := ⟨_, rfl⟩
  have hmn : m + 1 = n := by omega
  rw [hmn]
  have HN := hide hn
  have hRR2 : RR.length ≤ 1027 := by omega
  have n2 : n ≤ 1027 := by omega
  have HLt := hide hRR2
  clear hn hmn hRRl hRle hRR2
  have HF0 := hide (sp2_row ax ay (w2.alloc (.cells #[.int .i64 ax, .int .i64 ay] 53)) 53)
  have HV0 := hide (World.ownsRow_lit (base := w.heap.size) (e := 53) (size := 2) w2 #[.int .i64 ax, .int .i64 ay] 1 (by omega) (by unfold maxLen; omega) rfl)
  rw [nblk_alloc] at HF0
  obtain ⟨FB, hFB⟩ : ∃ FB, FB = w2.heap.size + 1 := ⟨_, rfl⟩
  go_wp2_with fail
  rw [← hFB] at HF0 ⊢
  have hFB1 : w2.heap.size < FB := by omega
  have hFB2 : FB < w2.heap.size + 2 := by omega
  clear hFB
  go_loopw [7, 32] (fun v t wr => ∃ (j : Nat) (x y : Int), j ≤ n ∧ t = .int .i64 j ∧ FB < wr.heap.size ∧ Below w.heap.size w wr ∧ wr.rowIs FB 53 2 (sp2 x y) ∧ Num.lastS ax ay (RR.take j) = (x, y) ∧ wr.heap[g6]? = w2.heap[g6]? ∧ v.ownBlock ≠ some g6 ∧ v.ownBlock ≠ some FB ∧ wr.ownsRow w.heap.size 53 2 v (cutU ax ay RR j).length ((cutU ax ay RR j).flatMap spC)) (fun _ t _ => n - (intOf t).toNat)
  case atStart =>
    refine ⟨0, ax, ay, by omega, rfl, ?_, ?_, HF0.out, rfl, ?_, ?_, ?_, ?_⟩
    · have := HF0.out.lt; exact this
    · exact (hB2.alloc (by omega) _).alloc (by simp; omega) _
    · rw [blk_alloc_lt _ _ _ (by simp; omega), blk_alloc_lt _ _ _ (by omega)]
    · simp [Value.ownBlock]; omega
    · simp [Value.ownBlock]; omega
    · have e : cutU ax ay RR 0 = [(ax, ay)] := by simp [cutU, Num.cutF]
      rw [e]
      exact HV0.out.alloc _
  case round =>
    obtain ⟨v, rfl⟩ : ∃ v, v = u7 := ⟨_, rfl⟩
    obtain ⟨j, fx, fy, hj, rfl, hsr, hB, hFr, hlast, hblk, hne6, hneF, hown⟩ := hrel
    by_cases hlt : j < n
    · have hjl : j < RR.length := by rw [← HN.out]; exact hlt
      have hO6 := owns_of_block (w' := wr) HO2.out (fun b hbb => by simp [Value.ownBlock] at hbb; subst hbb; exact hblk)
      obtain ⟨q0, q1⟩ := owns_sp hO6 j hjl
      have hlen := cutU_len ax ay RR j HLt.out
      have hlen2 := cutU_len ax ay RR (j + 1) HLt.out
      have HSu := hide (cutU_succ hjl hlast)
      have hfin : Num.inB fx fy = true := by
        have := Num.lastS_in (RR.take j) ax ay ha (fun t ht => HIn.out t (List.mem_of_mem_take ht))
        rw [hlast] at this
        exact this
      have htin := HIn.out _ (List.getElem_mem hjl)
      have HLa : Hid (Num.lastS ax ay (RR.take (j + 1)) = RR[j]) := by unfold Hid; rw [List.take_succ_eq_append_getElem hjl, Num.lastS_snoc]
      obtain ⟨tt, htt⟩ : ∃ tt, tt = RR[j] := ⟨_, rfl⟩
      rw [← htt] at q0 q1 HSu htin HLa
      obtain ⟨tx, ty⟩ := tt
      simp only at q0 q1 HSu htin
      have HC := hide (fun w => atCols_any fx fy tx ty w (Num.inB_yes hfin) (Num.inB_yes htin))
      have hcl := Num.colsV_len fx fy tx ty
      obtain ⟨CV, hCV⟩ : ∃ CV, CV = Num.colsV fx fy tx ty := ⟨_, rfl⟩
      rw [← hCV] at HC HSu hcl
      obtain ⟨f0, f1⟩ := sp2_cells hFr
      have HFr := hide hFr
      have HBk := hide hblk
      have HNe6 := hide hne6
      have HNeF := hide hneF
      obtain ⟨U, hU⟩ : ∃ U, U = cutU ax ay RR j := ⟨_, rfl⟩
      rw [← hU] at HSu hown hlen
      have hd1 : decide ((j : Int) < (n : Int)) = true := by simp; omega
      have hg6w : g6 < wr.heap.size := (hO6.lt g6 rfl).2
      clear hO6 htt hfin htin hCV hU hlast hFr hblk hne6 hneF
      go_wp2_with fail
      refine (HC.out _).mono ?_
      rintro e w5 ⟨vC, rfl, hb5, hown5, hnil5⟩
      have hs5 : wr.heap.size < w5.heap.size := by have := hb5.size; simp at this; omega
      have k0 : w5.cell? ⟨wr.heap.size, 0, none⟩ = some (.int .i64 tx) := (hb5.cell (p := ⟨wr.heap.size, 0, none⟩) (by simp)).trans (by go_simp)
      have k1 : w5.cell? ⟨wr.heap.size, 1, none⟩ = some (.int .i64 ty) := (hb5.cell (p := ⟨wr.heap.size, 1, none⟩) (by simp)).trans (by go_simp)
      have hB5 : Below w.heap.size w w5 := (hB.alloc (by omega) _).trans (hb5.mono (by simp; omega))
      have HF5 := hide (row_below (HFr.out.alloc (.cells #[.int .i64 tx, .int .i64 ty] 53)) hb5 (by simp; omega))
      have hownA := hown.alloc (.cells #[.int .i64 tx, .int .i64 ty] 53)
      have hownV := owns_of_block hownA (fun b hbb => hb5.block b (hownA.lt b hbb).2)
      have hvlt : ∀ b, v.ownBlock = some b → b < wr.heap.size := fun b hbb => (hown.lt b hbb).2
      have HBk5 : Hid (w5.heap[g6]? = w2.heap[g6]?) := by
        unfold Hid
        rw [hb5.block g6 (by simp; omega), blk_alloc_lt _ _ _ hg6w]
        exact HBk.out
      have HVl := hide hvlt
      clear hb5 hownA hown hB f0 f1 q0 q1 hvlt
      by_cases hc0 : CV.length = 0
      · have hv0 := hnil5 hc0
        have hCV0 : CV = [] := List.eq_nil_of_length_eq_zero hc0
        subst hv0 hCV0
        rw [List.append_nil] at HSu
        obtain ⟨ln, hln⟩ : ∃ ln, ln = U.length := ⟨_, rfl⟩
        obtain ⟨ys, hys⟩ : ∃ ys, ys = U.flatMap spC := ⟨_, rfl⟩
        rw [← hln, ← hys] at hownV
        rw [← hln] at hlen
        have HLn := hide hln
        have HYs := hide hys
        clear hln hys hnil5 hown5
        go_wp2_with (at_builtin; first | refine wpList_append_own_none rfl _ _ 51 rfl w.heap.size 53 i0 2 Try.underlying51 hi0 v ln ys rfl hownV rfl ?_ | refine wpList_append_lies _ rfl _ _ 51 rfl w.heap.size 53 i0 (.agg #[.int .i64 0, .int .i64 0]) 2 16 Try.underlying51 hi0 hz0 hz1 hz2 rfl (by omega) v ln ys rfl (hownV.alloc _) ⟨w5.heap.size, 0, none⟩ 1 1 [.int .i64 tx, .int .i64 ty] rfl rfl ?h1 ?h2 (by omega) ?h3 ?h4 ?h5 (w5.heap.size + 1) (by simp) ?_)
        try (case h1 => exact news_sp w5 [.int .i64 tx, .int .i64 ty] _ _ rfl)
        case h2 => first | exact one_two _ _ | exact ⟨rfl, rfl⟩
        case h3 => unfold maxLen; omega
        case h4 => omega
        case h5 => first | omega | (simp; omega)
        intro g8 cap8 w8 hown8 hgrow8 hat8 hlt8
        have hs8 := hgrow8.size
        rw [nblk_alloc] at hs8
        have hb8 : Below w.heap.size w w8 := (hB5.alloc (by omega) _).grown hgrow8 (by simp; omega) (fun q hq => (hownV.lt q hq).1)
        have hF8 : w8.rowIs FB 53 2 (sp2 fx fy) := (HF5.out.alloc _).of_block (hgrow8.block FB (by rw [nblk_alloc]; omega) (fun e => HNeF.out e.symm))
        obtain ⟨f0, f1⟩ := sp2_cells hF8
        have z0 := hF8.frozen 0
        have z1 := hF8.frozen 1
        have hF8lt := hF8.lt
        have HF9 := hide (sp2_set hF8 tx ty)
        have hbk8 : w8.heap[g6]? = w2.heap[g6]? := by
          rw [hgrow8.block g6 (by rw [nblk_alloc]; omega) (fun e => HNe6.out e.symm), blk_alloc_lt _ _ _ (by omega)]
          exact HBk5.out
        have hg6F : g6 ≠ FB := by omega
        have HBk9 : Hid (((w8.setCell ⟨FB, 0, none⟩ (.int .i64 tx)).setCell ⟨FB, 1, none⟩ (.int .i64 ty)).heap[g6]? = w2.heap[g6]?) := by
          unfold Hid
          rw [set_otherB hg6F, set_otherB hg6F]
          exact hbk8
        have hn6' : (Value.slice (some ⟨g8, 0, none⟩) (ln + 1) cap8).ownBlock ≠ some g6 := fun e => by
          simp [Value.ownBlock] at e
          rcases hat8 with hat8 | hat8
          · exact HNe6.out (by rw [hat8, e])
          · omega
        have hnF' : (Value.slice (some ⟨g8, 0, none⟩) (ln + 1) cap8).ownBlock ≠ some FB := fun e => by
          simp [Value.ownBlock] at e
          rcases hat8 with hat8 | hat8
          · exact HNeF.out (by rw [hat8, e])
          · omega
        have HO9 : Hid (((w8.setCell ⟨FB, 0, none⟩ (.int .i64 tx)).setCell ⟨FB, 1, none⟩ (.int .i64 ty)).ownsRow w.heap.size 53 2 (.slice (some ⟨g8, 0, none⟩) (ln + 1) cap8) (cutU ax ay RR (j + 1)).length ((cutU ax ay RR (j + 1)).flatMap spC)) := by
          unfold Hid
          have h := push_sp (l := U) (l' := cutU ax ay RR (j + 1)) (p := (tx, ty)) (m := ln + 1) (by rw [← HYs.out]; exact hown8) HSu.out (by rw [HLn.out])
          exact owns_of_block h (fun b hbb => by rw [set_otherB (fun e => hnF' (by rw [hbb, e])), set_otherB (fun e => hnF' (by rw [hbb, e]))])
        have HB9 : Hid (Below w.heap.size w ((w8.setCell ⟨FB, 0, none⟩ (.int .i64 tx)).setCell ⟨FB, 1, none⟩ (.int .i64 ty))) := (hb8.setCell (by show w.heap.size ≤ FB; omega) _).setCell (by show w.heap.size ≤ FB; omega) _
        have HN9 := hide (And.intro hn6' hnF')
        have hs9 : FB < ((w8.setCell ⟨FB, 0, none⟩ (.int .i64 tx)).setCell ⟨FB, 1, none⟩ (.int .i64 ty)).heap.size := HF9.out.lt
        have HS9 := hide hs9
        have hnw : some wr.heap.size ≠ v.ownBlock := fun e => by have := (hownV.lt _ e.symm); exact absurd (HVl.out _ e.symm) (Nat.lt_irrefl _)
        have p0 : w8.cell? ⟨wr.heap.size, 0, none⟩ = some (.int .i64 tx) := (hgrow8.cell_far ⟨wr.heap.size, 0, none⟩ (by simp; omega) hnw).trans (by go_simp)
        have p1 : w8.cell? ⟨wr.heap.size, 1, none⟩ = some (.int .i64 ty) := (hgrow8.cell_far ⟨wr.heap.size, 1, none⟩ (by simp; omega) hnw).trans (by go_simp)
        have hwr8 : wr.heap.size < w8.heap.size := by omega
        have hFBr : FB < wr.heap.size := hsr
        clear hown8 hgrow8 hat8 hF8 hbk8 hn6' hnF' hb8 hnw hownV hs9
        go_wp2
        go_roundw
        case rel => exact ⟨j + 1, tx, ty, by omega, by go_num, HS9.out, HB9.out, HF9.out, HLa.out, HBk9.out, HN9.out.1, HN9.out.2, HO9.out⟩
        case measure => simp [intOf]; omega
      · obtain ⟨gC, capC, rfl, hgC1, hgC2⟩ := hown5.form (by omega)
        have HNews := hide (news_row hown5)
        have HFl := hide (flat2_len CV)
        have HOne := hide (flat2_one CV)
        obtain ⟨lc, hlc⟩ : ∃ lc, lc = CV.length := ⟨_, rfl⟩
        obtain ⟨zs, hzs⟩ : ∃ zs, zs = CV.flatMap spC := ⟨_, rfl⟩
        obtain ⟨lu, hlu⟩ : ∃ lu, lu = U.length := ⟨_, rfl⟩
        obtain ⟨us, hus⟩ : ∃ us, us = U.flatMap spC := ⟨_, rfl⟩
        rw [← hzs] at HNews HFl HOne
        rw [← hlc] at HFl hc0 hcl ⊢
        rw [← hlu, ← hus] at hownV
        rw [← hlu] at hlen
        have HSum : Hid ((U ++ CV).length = lu + lc ∧ (U ++ CV).flatMap spC = us ++ zs) := by
          unfold Hid; rw [hlu, hlc, hus, hzs]; simp
        clear hlc hzs hlu hus hnil5 hown5
        go_wp2_with (at_builtin; refine wpList_append_lies _ rfl _ _ 51 rfl w.heap.size 53 i0 (.agg #[.int .i64 0, .int .i64 0]) 2 16 Try.underlying51 hi0 hz0 hz1 hz2 rfl (by omega) v lu us rfl hownV ⟨gC, 0, none⟩ lc capC zs rfl HFl.out HNews.out HOne.out (by omega) ?r3 ?r4 ?r5 w5.heap.size rfl ?_)
        case r3 => unfold maxLen; omega
        case r4 => omega
        case r5 => first | omega | (simp; omega)
        intro g7 cap7 w7 hown7 hgrow7 hat7 hlt7
        have hs7 := hgrow7.size
        have hB7 : Below w.heap.size w w7 := hB5.grown hgrow7 (by omega) (fun q hq => (hownV.lt q hq).1)
        have hFBlt : FB < w5.heap.size := by omega
        have HF7 := hide (HF5.out.of_block (hgrow7.block FB hFBlt (fun e => HNeF.out e.symm)))
        have HBk7 : Hid (w7.heap[g6]? = w2.heap[g6]?) := by
          unfold Hid
          rw [hgrow7.block g6 (by omega) (fun e => HNe6.out e.symm)]
          exact HBk5.out
        have hnk : some wr.heap.size ≠ v.ownBlock := fun e => by have := HVl.out _ e.symm; omega
        have k0' : w7.cell? ⟨wr.heap.size, 0, none⟩ = some (.int .i64 tx) := (hgrow7.cell_far ⟨wr.heap.size, 0, none⟩ hs5 hnk).trans k0
        have k1' : w7.cell? ⟨wr.heap.size, 1, none⟩ = some (.int .i64 ty) := (hgrow7.cell_far ⟨wr.heap.size, 1, none⟩ hs5 hnk).trans k1
        have hs7' : wr.heap.size < w7.heap.size := by omega
        have HNe6' : Hid ((Value.slice (some ⟨g7, 0, none⟩) (lu + lc) cap7).ownBlock ≠ some g6) := by
          unfold Hid
          intro e
          simp [Value.ownBlock] at e
          rcases hat7 with hat7 | hat7
          · exact HNe6.out (by rw [hat7, e])
          · omega
        have HNeF' : Hid ((Value.slice (some ⟨g7, 0, none⟩) (lu + lc) cap7).ownBlock ≠ some FB) := by
          unfold Hid
          intro e
          simp [Value.ownBlock] at e
          rcases hat7 with hat7 | hat7
          · exact HNeF.out (by rw [hat7, e])
          · omega
        have HNw' : Hid (some wr.heap.size ≠ (Value.slice (some ⟨g7, 0, none⟩) (lu + lc) cap7).ownBlock) := by
          unfold Hid
          intro e
          simp [Value.ownBlock] at e
          rcases hat7 with hat7 | hat7
          · have := HVl.out g7 hat7; omega
          · omega
        clear hgrow7 hat7 hownV hB5 k0 k1 HF5 HBk5 HNe6 HNeF
        obtain ⟨v7, hv7⟩ : ∃ v7, v7 = Value.slice (some ⟨g7, 0, none⟩) (lu + lc) cap7 := ⟨_, rfl⟩
        rw [← hv7] at HNe6' HNeF' HNw' hown7 ⊢
        have HNe6 := HNe6'
        have HNeF := HNeF'
        have HNw := HNw'
        clear hv7 HNe6' HNeF' HNw'
        obtain ⟨ln, hln⟩ : ∃ ln, ln = lu + lc := ⟨_, rfl⟩
        obtain ⟨ys, hys⟩ : ∃ ys, ys = us ++ zs := ⟨_, rfl⟩
        rw [← hln, ← hys] at hown7
        rw [← hln, ← hys] at HSum
        have hlen' : ln ≤ 1100000 := by omega
        have HLn : Hid (ln = (U ++ CV).length) := HSum.out.1.symm
        have HYs : Hid (ys = (U ++ CV).flatMap spC) := HSum.out.2.symm
        clear hln hys
        go_wp2_with (at_builtin; refine wpList_append_lies _ rfl _ _ 51 rfl w.heap.size 53 i0 (.agg #[.int .i64 0, .int .i64 0]) 2 16 Try.underlying51 hi0 hz0 hz1 hz2 rfl (by omega) v7 ln ys rfl (hown7.alloc _) ⟨w7.heap.size, 0, none⟩ 1 1 [.int .i64 tx, .int .i64 ty] rfl rfl ?l1 ?l2 (by omega) ?l3 ?l4 ?l5 (w7.heap.size + 1) (by simp) ?_)
        try (case l1 => exact news_sp w7 [.int .i64 tx, .int .i64 ty] _ _ rfl)
        case l2 => first | exact one_two _ _ | exact ⟨rfl, rfl⟩
        case l3 => unfold maxLen; omega
        case l4 => omega
        case l5 => first | omega | (simp; omega)
        intro g8 cap8 w8 hown8 hgrow8 hat8 hlt8
        have hs8 := hgrow8.size
        rw [nblk_alloc] at hs8
        have hb8 : Below w.heap.size w w8 := (hB7.alloc (by omega) _).grown hgrow8 (by simp; omega) (fun q hq => (hown7.lt q hq).1)
        have hF8 : w8.rowIs FB 53 2 (sp2 fx fy) := (HF7.out.alloc _).of_block (hgrow8.block FB (by rw [nblk_alloc]; omega) (fun e => HNeF.out e.symm))
        obtain ⟨f0, f1⟩ := sp2_cells hF8
        have z0 := hF8.frozen 0
        have z1 := hF8.frozen 1
        have hF8lt := hF8.lt
        have HF9 := hide (sp2_set hF8 tx ty)
        have hbk8 : w8.heap[g6]? = w2.heap[g6]? := by
          rw [hgrow8.block g6 (by rw [nblk_alloc]; omega) (fun e => HNe6.out e.symm), blk_alloc_lt _ _ _ (by omega)]
          exact HBk7.out
        have hg6F : g6 ≠ FB := by omega
        have HBk9 : Hid (((w8.setCell ⟨FB, 0, none⟩ (.int .i64 tx)).setCell ⟨FB, 1, none⟩ (.int .i64 ty)).heap[g6]? = w2.heap[g6]?) := by
          unfold Hid
          rw [set_otherB hg6F, set_otherB hg6F]
          exact hbk8
        have hn6' : (Value.slice (some ⟨g8, 0, none⟩) (ln + 1) cap8).ownBlock ≠ some g6 := fun e => by
          simp [Value.ownBlock] at e
          rcases hat8 with hat8 | hat8
          · exact HNe6.out (by rw [hat8, e])
          · omega
        have hnF' : (Value.slice (some ⟨g8, 0, none⟩) (ln + 1) cap8).ownBlock ≠ some FB := fun e => by
          simp [Value.ownBlock] at e
          rcases hat8 with hat8 | hat8
          · exact HNeF.out (by rw [hat8, e])
          · omega
        have HO9 : Hid (((w8.setCell ⟨FB, 0, none⟩ (.int .i64 tx)).setCell ⟨FB, 1, none⟩ (.int .i64 ty)).ownsRow w.heap.size 53 2 (.slice (some ⟨g8, 0, none⟩) (ln + 1) cap8) (cutU ax ay RR (j + 1)).length ((cutU ax ay RR (j + 1)).flatMap spC)) := by
          unfold Hid
          have h := push_sp (l := (U ++ CV)) (l' := cutU ax ay RR (j + 1)) (p := (tx, ty)) (m := ln + 1) (by rw [← HYs.out]; exact hown8) HSu.out (by rw [HLn.out])
          exact owns_of_block h (fun b hbb => by rw [set_otherB (fun e => hnF' (by rw [hbb, e])), set_otherB (fun e => hnF' (by rw [hbb, e]))])
        have HB9 : Hid (Below w.heap.size w ((w8.setCell ⟨FB, 0, none⟩ (.int .i64 tx)).setCell ⟨FB, 1, none⟩ (.int .i64 ty))) := (hb8.setCell (by show w.heap.size ≤ FB; omega) _).setCell (by show w.heap.size ≤ FB; omega) _
        have HN9 := hide (And.intro hn6' hnF')
        have hs9 : FB < ((w8.setCell ⟨FB, 0, none⟩ (.int .i64 tx)).setCell ⟨FB, 1, none⟩ (.int .i64 ty)).heap.size := HF9.out.lt
        have HS9 := hide hs9
        have hnw : some wr.heap.size ≠ v7.ownBlock := fun e => by have := (hown7.lt _ e.symm); exact HNw.out e
        have p0 : w8.cell? ⟨wr.heap.size, 0, none⟩ = some (.int .i64 tx) := (hgrow8.cell_far ⟨wr.heap.size, 0, none⟩ (by simp; omega) hnw).trans (by go_simp)
        have p1 : w8.cell? ⟨wr.heap.size, 1, none⟩ = some (.int .i64 ty) := (hgrow8.cell_far ⟨wr.heap.size, 1, none⟩ (by simp; omega) hnw).trans (by go_simp)
        have hwr8 : wr.heap.size < w8.heap.size := by omega
        have hFBr : FB < wr.heap.size := hsr
        clear hown8 hgrow8 hat8 hF8 hbk8 hn6' hnF' hb8 hnw hown7 hs9
        go_wp2
        go_roundw
        case rel => exact ⟨j + 1, tx, ty, by omega, by go_num, HS9.out, HB9.out, HF9.out, HLa.out, HBk9.out, HN9.out.1, HN9.out.2, HO9.out⟩
        case measure => simp [intOf]; omega
    · have e : j = n := by omega
      have hd0 : decide ((j : Int) < (n : Int)) = false := by simp; omega
      have HO := hide hown
      have HB := hide hB
      clear hown hB hFr hlast hblk hne6 hneF
      go_wp2
      go_ret2
      refine ⟨v, rfl, HB.out, ?_⟩
      have h := HO.out
      rw [e, HN.out] at h
      exact h

end Go.Proofs.Ytkhcjkmifddlbab

/- CvL -/
namespace Go.Proofs.Ytkhcjkmifddlbab
open Go.RowKit Go.Deep

theorem lastS_in' {ax ay : Int} {l : List (Int × Int)} (m : Nat) (ha : Num.inB ax ay = true) (hl : ∀ t ∈ l, Num.inB t.1 t.2 = true) : Num.inB (Num.lastS ax ay (l.take m)).1 (Num.lastS ax ay (l.take m)).2 = true :=
  Num.lastS_in _ _ _ ha (fun t ht => hl t (List.mem_of_mem_take ht))

set_option maxRecDepth 100000 in
set_option maxHeartbeats 4000000 in
theorem layChord_any (b W H tk : Nat) (tt : TypeId) (A : Nat → Nat → Int) (P st ax ay bx b2 t : Int) (S : Nat → Prop) (w : World) (hC : Cnv w b tt W H tk A P S st) (hW : 1 ≤ W ∧ W ≤ 64) (hH : 1 ≤ H ∧ H ≤ 64) (hP : 0 ≤ P ∧ P ≤ 140737487255328)
    (ht : t = 1 ∨ t = -1) (ha : Num.inB ax ay = true) (hb : Num.inB bx b2 = true) :
    Calls Try.prog 82 #[.pointer (some ⟨b, 0, none⟩), .agg #[.int .i64 ax, .int .i64 ay], .agg #[.int .i64 bx, .int .i64 b2], .int .i64 t] w fun e w' => e = .returned (.tuple #[]) ∧ Touch S w w' ∧ ∃ S', Cnv w' b tt W H tk (fun i j => A i j + t * Num.chordV ax ay bx b2 i j) (P + 1100000) S' st ∧ ∀ q, S' q → S q ∨ w.heap.size ≤ q := by
  have HC := hide hC
  have hE : Num.cutsE ax ay bx b2 = 0 := by unfold Num.cutsE; rw [ha, hb]; rfl
  have HCut := hide (fun w' => chordCuts_any ax ay bx b2 w')
  rw [hE] at HCut
  have HSum : Hid (∀ i j : Int, Num.sumP i j ax ay (Num.cutsL ax ay bx b2) = Num.chordV ax ay bx b2 i j) := fun i j => Num.sumP_cuts i j ha hb
  have HLen := Num.cutsL_len ax ay bx b2
  have HInL : Hid (∀ t ∈ Num.cutsL ax ay bx b2, Num.inB t.1 t.2 = true) := Num.cutsL_in
  obtain ⟨l, hl⟩ : ∃ l, l = Num.cutsL ax ay bx b2 := ⟨_, rfl⟩
  have HPc := hide (Num.pcOk_cuts hl)
  rw [← hl] at HCut HSum HInL HLen
  have HA := hide ha
  obtain ⟨n, hn⟩ : ∃ n, n = l.length := ⟨_, rfl⟩
  rw [← hn] at HLen
  have HN := hide hn
  clear hl hE hC hb ha hn
  go_enter Try.func82, Try.ntmps82
  go_wp2_with fail
  refine (HCut.out _).mono ?_
  rintro e w1 ⟨vL, rfl, hb1, hown1⟩
  have hs1 := hb1.size
  rw [nblk_alloc, nblk_alloc] at hs1
  have HB1 : Hid (Below w.heap.size w w1) := Below.trans (((Below.refl _ _).alloc (Nat.le_refl _) _).alloc (by simp) _) (hb1.mono (by simp; omega))
  obtain ⟨q0, q1⟩ := sp2_cells (row_below ((sp2_row ax ay w 53).alloc (.cells #[.int .i64 bx, .int .i64 b2] 53)) hb1 (by simp; omega))
  obtain ⟨ao, cap0, hv, hao⟩ := owns_formN hown1
  rw [hv] at hown1 ⊢
  have hbase : ∀ q, ao = some ⟨q, 0, none⟩ → w.heap.size ≤ q ∧ q < w1.heap.size := fun q e => by
    subst e
    have := hown1.lt q rfl
    simp at this; omega
  have HBase := hide hbase
  have HAo := hide hao
  have HO1 := hide hown1
  rw [← HN.out]
  rw [← HN.out] at HAo
  have hw1 : w.heap.size < w1.heap.size := by omega
  clear hb1 hown1 hv hao hbase HCut
  go_wp2_with fail
  obtain ⟨FB, hFB⟩ : ∃ FB, FB = w1.heap.size := ⟨_, rfl⟩
  obtain ⟨wB, hwB⟩ : ∃ wB, wB = w1.alloc (.cells #[.int .i64 ax, .int .i64 ay] 53) := ⟨_, rfl⟩
  have hsB : wB.heap.size = FB + 1 := by rw [hwB, hFB]; simp
  have HFr : Hid (wB.rowIs FB 53 2 (sp2 ax ay)) := by unfold Hid; rw [hwB, hFB]; exact sp2_row ax ay w1 _
  have HBB : Hid (Below w.heap.size w wB) := by unfold Hid; rw [hwB]; exact HB1.out.alloc (by omega) _
  have HOB : Hid (wB.ownsRow 0 53 2 (.slice ao l.length cap0) l.length (l.flatMap spC)) := by unfold Hid; rw [hwB]; exact owns_mono (HO1.out.alloc _) (Nat.zero_le _)
  have HBase2 : Hid (∀ q, ao = some ⟨q, 0, none⟩ → w.heap.size ≤ q ∧ q < FB) := fun q e => by rw [hFB]; exact HBase.out q e
  have hFw : w.heap.size < FB := by omega
  try rw [← hwB, ← hFB]
  clear hwB hFB HO1 HB1 HBase q0 q1 hw1
  have HCB := hide (HC.out.below HBB.out)
  have HSl : Hid (∀ q, S q → q < w.heap.size) := fun q hq => HC.out.lt hq
  clear HC
  go_loopw [24] (fun t' wr => ∃ (m : Nat) (fx fy : Int) (S' : Nat → Prop), m ≤ n ∧ t' = .int .i64 m ∧ Num.lastS ax ay (l.take m) = (fx, fy) ∧ Touch S w wr ∧ FB < wr.heap.size ∧ wr.rowIs FB 53 2 (sp2 fx fy) ∧ (∀ q, ao = some ⟨q, 0, none⟩ → wr.heap[q]? = wB.heap[q]?) ∧
      Cnv wr b tt W H tk (fun i j => A i j + t * Num.sumP i j ax ay (l.take m)) (P + m) S' st ∧ ∀ q, S' q → S q ∨ FB < q) (fun t' _ => n - (intOf t').toNat)
  case atStart => exact ⟨0, ax, ay, S, by omega, rfl, rfl, (Touch.refl S w).of_below HBB.out, by omega, HFr.out, fun _ _ => rfl, HCB.out.mono (fun i j _ _ => by simp [Num.sumP]) (by simp), fun q hq => .inl hq⟩
  case round =>
    obtain ⟨m, fx, fy, S', hm, rfl, hlast, hto, hFlt, hrow, hblk, hcv, hS'⟩ := hrel
    by_cases hlt : m < n
    · have hml : m < l.length := by rw [← HN.out]; exact hlt
      obtain ⟨gL, rfl⟩ := HAo.out (by omega)
      obtain ⟨hgL1, hgL2⟩ := HBase2.out gL rfl
      have hOr := owns_of_block (w' := wr) HOB.out (fun q hq => by
        have e : q = gL := by simp [Value.ownBlock] at hq; exact hq.symm
        subst e; exact hblk q rfl)
      obtain ⟨d0, d1⟩ := owns_sp hOr m hml
      have HPa := hide (Num.pcOk_at l ax ay HPc.out m hml)
      have HSt : Hid (∀ i j : Int, Num.sumP i j ax ay (l.take (m + 1)) = Num.sumP i j ax ay (l.take m) + (if Num.inRow j (Num.lastS ax ay (l.take m)).2 l[m].2 = true then Num.pieceA i (Num.lastS ax ay (l.take m)).1 (Num.lastS ax ay (l.take m)).2 l[m].1 l[m].2 else 0)) := fun i j => Num.sumP_take i j ax ay l m hml
      have HLs := hide (Num.lastS_take ax ay l m hml)
      have hin1 := Num.inB_yes (lastS_in' (l := l) m HA.out HInL.out)
      have hin2 := Num.inB_yes (HInL.out l[m] (List.getElem_mem hml))
      rw [hlast] at HPa HSt hin1
      obtain ⟨p, hp⟩ : ∃ p, p = l[m] := ⟨_, rfl⟩
      rw [← hp] at HPa HSt HLs hin2 d0 d1
      clear hp
      obtain ⟨tx, ty⟩ := p
      simp only at HPa HSt hin1 hin2 d0 d1
      have hSlt : ∀ q, S' q → q < wr.heap.size := fun q hq => hcv.lt hq
      have hFS : ¬ S' FB := fun e => by
        rcases hS' FB e with h | h
        · have := HSl.out FB h; omega
        · omega
      have hgS : ¬ S' gL := fun e => by
        rcases hS' gL e with h | h
        · have := HSl.out gL h; omega
        · omega
      have hTS : ¬ S' wr.heap.size := fun e => by have := hSlt _ e; omega
      have HCall := hide (layPiece_any b W H tk tt _ (P + m) st fx fy tx ty t S' _ (hcv.below ((Below.refl _ _).alloc (Nat.le_refl _) (.cells #[.int .i64 tx, .int .i64 ty] 53))) hW hH (by omega) ht hin1.1 hin1.2 hin2.1 hin2.2 HPa.out.1 HPa.out.2)
      have HEq : Hid (∀ i j : Nat, A i j + t * Num.sumP i j ax ay (l.take m) + Num.pcV t fx fy tx ty i j = A i j + t * Num.sumP i j ax ay (l.take (m + 1))) := fun i j => by
        rw [HSt.out, Num.pcV_eq HPa.out.1 HPa.out.2 (by omega) (by omega), Int.mul_add]; omega
      have HTR := hide (sp2_row tx ty wr 53)
      have HFr1 := hide (hrow.alloc (.cells #[.int .i64 tx, .int .i64 ty] 53))
      have HTo := hide (hto.alloc (.cells #[.int .i64 tx, .int .i64 ty] 53))
      have HSn := hide (And.intro hFS (And.intro hgS hTS))
      have HS' := hide hS'
      have hgLw : gL < wr.heap.size := by omega
      have HBl := hide (hblk gL rfl)
      obtain ⟨f0, f1⟩ := sp2_cells hrow
      have hd1 : decide ((m : Int) < (n : Int)) = true := by simp; omega
      have i0' : (0 : Int) ≤ (m : Int) := by omega
      have i1' : (m : Int) < (n : Int) := by omega
      clear hOr hcv hto hrow hblk hS' hFS hgS hTS hSlt hlast
      go_wp2_with fail
      refine HCall.out.mono ?_
      rintro e w3 ⟨rfl, hT3, S2, hC3, hS2⟩
      have hs3 := hT3.size
      rw [nblk_alloc] at hs3
      have hFr3 := hT3.row HFr1.out HSn.out.1
      have hTr3 := hT3.row HTR.out HSn.out.2.2
      obtain ⟨g0, g1⟩ := sp2_cells hTr3
      obtain ⟨f0', f1'⟩ := sp2_cells hFr3
      have z0 := hFr3.frozen 0
      have z1 := hFr3.frozen 1
      have hFl3 := hFr3.lt
      have HF3 := hide (sp2_set hFr3 tx ty)
      have HT3 : Hid (Touch S w w3) := HTo.out.trans' hT3 (fun q e => by rcases HS'.out q e with h | h; exact .inl h; exact .inr (by omega))
      have HT4 : Hid (Touch S w ((w3.setCell ⟨FB, 0, none⟩ (.int .i64 tx)).setCell ⟨FB, 1, none⟩ (.int .i64 ty))) := (HT3.out.setCell (.inr (by show w.heap.size ≤ FB; omega)) _).setCell (.inr (by show w.heap.size ≤ FB; omega)) _
      have hgF : gL ≠ FB := by omega
      have HBl3 : Hid (((w3.setCell ⟨FB, 0, none⟩ (.int .i64 tx)).setCell ⟨FB, 1, none⟩ (.int .i64 ty)).heap[gL]? = wB.heap[gL]?) := by
        unfold Hid
        rw [set_otherB hgF, set_otherB hgF, hT3.block gL (by simp; omega) HSn.out.2.1, blk_alloc_lt _ _ _ hgLw]
        exact HBl.out
      have HC4 : Hid (Cnv ((w3.setCell ⟨FB, 0, none⟩ (.int .i64 tx)).setCell ⟨FB, 1, none⟩ (.int .i64 ty)) b tt W H tk (fun i j => A i j + t * Num.sumP i j ax ay (l.take (m + 1))) (P + ((m + 1 : Nat) : Int)) S2 st) := by
        have hFS2 : ∀ q, S2 q → ¬ q = FB := fun q hq e => by
          rcases hS2 q hq with h | h
          · rw [e] at h; exact HSn.out.1 h
          · simp at h; omega
        have t1 : Touch (fun q => q = FB) w3 ((w3.setCell ⟨FB, 0, none⟩ (.int .i64 tx)).setCell ⟨FB, 1, none⟩ (.int .i64 ty)) := ((Touch.refl (fun q => q = FB) w3).setCell (p := ⟨FB, 0, none⟩) (.inl rfl) _).setCell (p := ⟨FB, 1, none⟩) (.inl rfl) _
        exact (hC3.touch t1 hFS2).mono (fun i j _ _ => (HEq.out i j).symm) (by omega)
      have HS4 : Hid (∀ q, S2 q → S q ∨ FB < q) := fun q hq => by
        rcases hS2 q hq with h | h
        · exact HS'.out q h
        · simp at h; exact .inr (by omega)
      have hw3 : wr.heap.size < w3.heap.size := by omega
      clear hT3 hC3 hS2 hFr3 hTr3 HCall
      go_wp2
      go_roundw
      case rel => exact ⟨m + 1, tx, ty, S2, by omega, by go_num, HLs.out, HT4.out, by simp; omega, HF3.out, fun q e => by cases e; exact HBl3.out, HC4.out, HS4.out⟩
      case measure => simp [intOf]; omega
    · have e : m = n := by omega
      have hd0 : decide ((m : Int) < (n : Int)) = false := by simp; omega
      have HFin : Hid (Touch S w wr ∧ ∃ S', Cnv wr b tt W H tk (fun i j => A i j + t * Num.chordV ax ay bx b2 i j) (P + 1100000) S' st ∧ ∀ q, S' q → S q ∨ w.heap.size ≤ q) := by
        refine ⟨hto, S', hcv.mono (fun i j _ _ => ?_) (by omega), fun q hq => ?_⟩
        · rw [e, HN.out, List.take_length, HSum.out]
        · rcases hS' q hq with h | h
          · exact .inl h
          · exact .inr (by omega)
      clear hto hrow hblk hcv hS'
      go_wp2
      go_end0
      exact ⟨rfl, HFin.out⟩
end Go.Proofs.Ytkhcjkmifddlbab

/- CvG -/
namespace Go.Proofs.Ytkhcjkmifddlbab
open Go.RowKit Go.Deep

set_option maxRecDepth 100000 in
set_option maxHeartbeats 4000000 in
theorem layRing_any (b W H tk base : Nat) (tt : TypeId) (A : Nat → Nat → Int) (P st t : Int) (S : Nat → Prop) (vR : Value) (l : List (Int × Int)) (w : World) (hC : Cnv w b tt W H tk A P S st) (hW : 1 ≤ W ∧ W ≤ 64) (hH : 1 ≤ H ∧ H ≤ 64) (hP : 0 ≤ P ∧ P + 1100000 * l.length ≤ 140737487255328)
    (ht : t = 1 ∨ t = -1) (hl : ∀ p ∈ l, Num.inB p.1 p.2 = true) (hO : w.ownsRow base 53 2 vR l.length (l.flatMap spC)) (hd : ∀ q, vR.ownBlock = some q → ¬ S q) :
    Calls Try.prog 69 #[.pointer (some ⟨b, 0, none⟩), vR, .int .i64 t] w fun e w' => e = .returned (.tuple #[]) ∧ Touch S w w' ∧ ∃ S', Cnv w' b tt W H tk (fun i j => A i j + t * Num.ringF (Num.chA i j) l) (P + 1100000 * l.length) S' st ∧ ∀ q, S' q → S q ∨ w.heap.size ≤ q := by
  obtain ⟨ao, cap0, rfl, hao⟩ := owns_formN hO
  have HO := hide hO
  have HAo := hide hao
  have HL := hide hl
  have HD := hide hd
  have HC := hide hC
  have HCh : Hid (∀ (i j : Int) (k : Nat), Num.sumZ (Num.chF (Num.chA i j) l) (k + 1) = Num.sumZ (Num.chF (Num.chA i j) l) k + Num.chordV (Num.ats l k).1 (Num.ats l k).2 (Num.ats l (Num.nxR l.length k)).1 (Num.ats l (Num.nxR l.length k)).2 i j) := fun i j k => rfl
  obtain ⟨n, hn⟩ : ∃ n, n = l.length := ⟨_, rfl⟩
  have HR : Hid (∀ i j : Int, Num.ringF (Num.chA i j) l = Num.sumZ (Num.chF (Num.chA i j) l) n) := fun i j => by rw [hn]; rfl
  rw [← hn] at hP HAo HCh ⊢
  have HN := hide hn
  clear hC hn hO hao hl hd
  go_enter Try.func69, Try.ntmps69
  go_wp2_with fail
  go_loopw [11] (fun t' wr => ∃ (k : Nat) (S' : Nat → Prop), k ≤ n ∧ t' = .int .i64 k ∧ Touch S w wr ∧ (∀ q, ao = some ⟨q, 0, none⟩ → wr.heap[q]? = w.heap[q]?) ∧
      Cnv wr b tt W H tk (fun i j => A i j + t * Num.sumZ (Num.chF (Num.chA i j) l) k) (P + 1100000 * k) S' st ∧ ∀ q, S' q → S q ∨ w.heap.size ≤ q) (fun t' _ => n - (intOf t').toNat)
  case atStart => exact ⟨0, S, by omega, rfl, Touch.refl S w, fun _ _ => rfl, HC.out.mono (fun i j _ _ => by simp [Num.sumZ]) (by simp), fun q hq => .inl hq⟩
  case round =>
    obtain ⟨k, S', hk, rfl, hto, hblk, hcv, hS'⟩ := hrel
    have hsz := hto.size
    by_cases hlt : k < n
    · have hkl : k < l.length := by rw [← HN.out]; exact hlt
      obtain ⟨q, rfl⟩ := HAo.out (by omega)
      have hqw : q < w.heap.size := (HO.out.lt q rfl).2
      have hOr := owns_of_block (w' := wr) HO.out (fun q' hq => by
        have e : q' = q := by simp [Value.ownBlock] at hq; exact hq.symm
        subst e; exact hblk q' rfl)
      obtain ⟨d0, d1⟩ := owns_sp hOr k hkl
      obtain ⟨e0, e1⟩ := owns_sp hOr 0 (by omega)
      have hqS : ¬ S' q := fun e => by
        rcases hS' q e with h | h
        · exact HD.out q rfl h
        · omega
      have hin1 := HL.out l[k] (List.getElem_mem hkl)
      have hac : Num.ats l k = l[k] := Num.ats_at hkl
      have hd1 : decide ((k : Int) < (n : Int)) = true := by simp; omega
      have i0' : (0 : Int) ≤ (k : Int) := by omega
      have i1' : (k : Int) < (n : Int) := by omega
      have i2' : (0 : Int) < (n : Int) := by omega
      have hqr : q < wr.heap.size := by omega
      by_cases hl2 : k + 1 < n
      · have hkl2 : k + 1 < l.length := by rw [← HN.out]; exact hl2
        obtain ⟨f0, f1⟩ := owns_sp hOr (k + 1) hkl2
        have hin2 := HL.out l[k + 1] (List.getElem_mem hkl2)
        have hnx : Num.ats l (Num.nxR n k) = l[k + 1] := by unfold Num.nxR; rw [if_pos hl2]; exact Num.ats_at hkl2
        have HSt := hide (fun i j => HCh.out i j k)
        rw [hac, hnx] at HSt
        obtain ⟨p, hp⟩ : ∃ p, p = l[k] := ⟨_, rfl⟩
        obtain ⟨r, hr⟩ : ∃ r, r = l[k + 1] := ⟨_, rfl⟩
        rw [← hp, ← hr] at HSt
        rw [← hp] at d0 d1 hin1
        rw [← hr] at f0 f1 hin2
        clear hp hr hac hnx
        obtain ⟨px, py⟩ := p
        obtain ⟨rx, ry⟩ := r
        simp only at d0 d1 f0 f1 hin1 hin2 HSt e0 e1
        have i3' : (k : Int) + 1 < (n : Int) := by omega
        have HCall := hide (fun w' (hb : Below wr.heap.size wr w') => layChord_any b W H tk tt _ (P + 1100000 * k) st px py rx ry t S' w' (hcv.below hb) hW hH (by omega) ht hin1 hin2)
        have HTo := hide hto
        have HS' := hide hS'
        have HBl := hide (hblk q rfl)
        obtain ⟨ex, hex⟩ : ∃ ex, ex = l[0].1 := ⟨_, rfl⟩
        obtain ⟨ey, hey⟩ : ∃ ey, ey = l[0].2 := ⟨_, rfl⟩
        rw [← hex] at e0
        rw [← hey] at e1
        clear hOr hcv hto hblk hS' hex hey
        go_wp2_with fail
        refine (HCall.out _ (by (repeat (any_goals (first | exact Below.refl _ _ | assumption | refine Below.drew ?_ | refine below_drewN ?_ _ | refine Below.setCell ?_ ?_ _ | refine Below.alloc ?_ ?_ _ | omega | (simp; done) | (simp; omega)))))).mono ?_
        rintro e w3 ⟨rfl, hT3, S2, hC3, hS2⟩
        have hs3 := hT3.size
        rw [nblk_alloc, nblk_alloc] at hs3
        have HT3 : Hid (Touch S w w3) := ((HTo.out.alloc _).alloc _).trans' hT3 (fun q e => HS'.out q e)
        have HB3 : Hid (w3.heap[q]? = w.heap[q]?) := by
          unfold Hid
          rw [hT3.block q (by simp; omega) hqS, blk_alloc_lt _ _ _ (by simp; omega), blk_alloc_lt _ _ _ hqr]
          exact HBl.out
        have HC3 : Hid (Cnv w3 b tt W H tk (fun i j => A i j + t * Num.sumZ (Num.chF (Num.chA i j) l) (k + 1)) (P + 1100000 * ((k + 1 : Nat) : Int)) S2 st) :=
          hC3.mono (fun i j _ _ => by rw [HSt.out, Int.mul_add]; omega) (by omega)
        have HS3 : Hid (∀ q, S2 q → S q ∨ w.heap.size ≤ q) := fun q hq => by
          rcases hS2 q hq with h | h
          · exact HS'.out q h
          · simp at h; exact .inr (by omega)
        clear hT3 hC3 hS2 HCall
        go_wp2
        go_roundw
        case rel => exact ⟨k + 1, S2, by omega, by go_num, HT3.out, fun q' e => by cases e; exact HB3.out, HC3.out, HS3.out⟩
        case measure => simp [intOf]; omega
      · have hk1 : k + 1 = n := by omega
        have h0l : 0 < l.length := by omega
        have hin2 := HL.out l[0] (List.getElem_mem h0l)
        have hnx : Num.ats l (Num.nxR n k) = l[0] := by unfold Num.nxR; rw [if_neg hl2]; exact Num.ats_at h0l
        have HSt := hide (fun i j => HCh.out i j k)
        rw [hac, hnx] at HSt
        obtain ⟨p, hp⟩ : ∃ p, p = l[k] := ⟨_, rfl⟩
        obtain ⟨r, hr⟩ : ∃ r, r = l[0] := ⟨_, rfl⟩
        rw [← hp, ← hr] at HSt
        rw [← hp] at d0 d1 hin1
        rw [← hr] at e0 e1 hin2
        clear hp hr hac hnx
        obtain ⟨px, py⟩ := p
        obtain ⟨rx, ry⟩ := r
        simp only at d0 d1 hin1 hin2 HSt e0 e1
        have i3' : ¬ (k : Int) + 1 < (n : Int) := by omega
        have HCall := hide (fun w' (hb : Below wr.heap.size wr w') => layChord_any b W H tk tt _ (P + 1100000 * k) st px py rx ry t S' w' (hcv.below hb) hW hH (by omega) ht hin1 hin2)
        have HTo := hide hto
        have HS' := hide hS'
        have HBl := hide (hblk q rfl)
        clear hOr hcv hto hblk hS'
        go_wp2_with fail
        refine (HCall.out _ (by (repeat (any_goals (first | exact Below.refl _ _ | assumption | refine Below.drew ?_ | refine below_drewN ?_ _ | refine Below.setCell ?_ ?_ _ | refine Below.alloc ?_ ?_ _ | omega | (simp; done) | (simp; omega)))))).mono ?_
        rintro e w3 ⟨rfl, hT3, S2, hC3, hS2⟩
        have hs3 := hT3.size
        rw [nblk_alloc, nblk_alloc] at hs3
        have HT3 : Hid (Touch S w w3) := ((HTo.out.alloc _).alloc _).trans' hT3 (fun q e => HS'.out q e)
        have HB3 : Hid (w3.heap[q]? = w.heap[q]?) := by
          unfold Hid
          rw [hT3.block q (by simp; omega) hqS, blk_alloc_lt _ _ _ (by simp; omega), blk_alloc_lt _ _ _ hqr]
          exact HBl.out
        have HC3 : Hid (Cnv w3 b tt W H tk (fun i j => A i j + t * Num.sumZ (Num.chF (Num.chA i j) l) (k + 1)) (P + 1100000 * ((k + 1 : Nat) : Int)) S2 st) :=
          hC3.mono (fun i j _ _ => by rw [HSt.out, Int.mul_add]; omega) (by omega)
        have HS3 : Hid (∀ q, S2 q → S q ∨ w.heap.size ≤ q) := fun q hq => by
          rcases hS2 q hq with h | h
          · exact HS'.out q h
          · simp at h; exact .inr (by omega)
        clear hT3 hC3 hS2 HCall
        go_wp2
        go_roundw
        case rel => exact ⟨k + 1, S2, by omega, by go_num, HT3.out, fun q' e => by cases e; exact HB3.out, HC3.out, HS3.out⟩
        case measure => simp [intOf]; omega
    · have e : k = n := by omega
      have hd0 : decide ((k : Int) < (n : Int)) = false := by simp; omega
      have HFin : Hid (Touch S w wr ∧ ∃ S', Cnv wr b tt W H tk (fun i j => A i j + t * Num.ringF (Num.chA i j) l) (P + 1100000 * n) S' st ∧ ∀ q, S' q → S q ∨ w.heap.size ≤ q) :=
        ⟨hto, S', hcv.mono (fun i j _ _ => by rw [HR.out, e]) (by omega), hS'⟩
      clear hto hblk hcv hS'
      go_wp2
      go_end0
      exact ⟨rfl, HFin.out⟩
end Go.Proofs.Ytkhcjkmifddlbab

/- CrvP -/
namespace Go.Proofs.Ytkhcjkmifddlbab
open Go.RowKit Go.Deep

/-- The cells of a segment. -/
def sg9 (k x0 y0 x1 y1 x2 y2 x3 y3 : Int) (q : Nat) : Value := [Value.int .i64 k, .int .i64 x0, .int .i64 y0, .int .i64 x1, .int .i64 y1, .int .i64 x2, .int .i64 y2, .int .i64 x3, .int .i64 y3][q]?.getD undef
theorem sg9_row (k x0 y0 x1 y1 x2 y2 x3 y3 : Int) (w : World) (t : TypeId) : (w.alloc (.cells #[.int .i64 k, .int .i64 x0, .int .i64 y0, .int .i64 x1, .int .i64 y1, .int .i64 x2, .int .i64 y2, .int .i64 x3, .int .i64 y3] t)).rowIs w.heap.size t 9 (sg9 k x0 y0 x1 y1 x2 y2 x3 y3) := by
  refine World.rowIs_alloc w #[.int .i64 k, .int .i64 x0, .int .i64 y0, .int .i64 x1, .int .i64 y1, .int .i64 x2, .int .i64 y2, .int .i64 x3, .int .i64 y3] t (sg9 k x0 y0 x1 y1 x2 y2 x3 y3) (fun i hi => ?_)
  have hi : i < 9 := hi
  rcases (show i = 0 ∨ i = 1 ∨ i = 2 ∨ i = 3 ∨ i = 4 ∨ i = 5 ∨ i = 6 ∨ i = 7 ∨ i = 8 by omega) with rfl | rfl | rfl | rfl | rfl | rfl | rfl | rfl | rfl <;> rfl
theorem sg9_cells {k x0 y0 x1 y1 x2 y2 x3 y3 : Int} {w : World} {b : Nat} {t : TypeId} (h : w.rowIs b t 9 (sg9 k x0 y0 x1 y1 x2 y2 x3 y3)) :
    w.cell? ⟨b, 0, none⟩ = some (.int .i64 k) ∧ w.cell? ⟨b, 1, none⟩ = some (.int .i64 x0) ∧ w.cell? ⟨b, 2, none⟩ = some (.int .i64 y0) ∧ w.cell? ⟨b, 3, none⟩ = some (.int .i64 x1) ∧ w.cell? ⟨b, 4, none⟩ = some (.int .i64 y1) ∧ w.cell? ⟨b, 5, none⟩ = some (.int .i64 x2) ∧ w.cell? ⟨b, 6, none⟩ = some (.int .i64 y2) ∧ w.cell? ⟨b, 7, none⟩ = some (.int .i64 x3) ∧ w.cell? ⟨b, 8, none⟩ = some (.int .i64 y3) :=
  ⟨h.cell (i := 0) (by omega), h.cell (i := 1) (by omega), h.cell (i := 2) (by omega), h.cell (i := 3) (by omega), h.cell (i := 4) (by omega), h.cell (i := 5) (by omega), h.cell (i := 6) (by omega), h.cell (i := 7) (by omega), h.cell (i := 8) (by omega)⟩

/-- The first j spots of a segment. -/
def spotsU (g : Num.Sg) (N j : Nat) : List (Int × Int) := (List.range j).map fun (i : Nat) => (Num.spotX g N i, Num.spotY g N i)
theorem spotsU_succ (g : Num.Sg) (N j : Nat) : spotsU g N (j + 1) = spotsU g N j ++ [(Num.spotX g N j, Num.spotY g N j)] := by
  unfold spotsU; rw [List.range_succ, List.map_append]; rfl
theorem spotsU_len (g : Num.Sg) (N j : Nat) : (spotsU g N j).length = j := by simp [spotsU]
theorem curveN_eq {g : Num.Sg} (hr : Num.rangeB g = true) : (Num.curveN g : Int) = Num.stepsV (Num.needV g) ∧ 1 ≤ Num.curveN g ∧ Num.curveN g ≤ 111 := by
  have h := Num.needV_bd hr
  have h1 := Num.stepsV_pos h.2
  have h2 := Num.stepsV_le h.2
  unfold Num.curveN
  omega
theorem curve_yes {g : Num.Sg} (hk : Num.kindB g = true) (hr : Num.rangeB g = true) : Num.curveE g = 0 ∧ Num.curveL g = spotsU g (Num.curveN g) (Num.curveN g + 1) := by
  have e : Num.curveE g = 0 := by unfold Num.curveE; rw [hk, hr]; rfl
  refine ⟨e, ?_⟩
  unfold Num.curveL
  rw [if_pos e]
  rfl
theorem curve_no {g : Num.Sg} {E : Int} (h : Num.curveE g = E) (hE : E ≠ 0) : Num.curveL g = [] := by
  unfold Num.curveL
  rw [if_neg (by omega)]

set_option maxRecDepth 100000 in
set_option maxHeartbeats 4000000 in
theorem chordCurve_any (k x0 y0 x1 y1 x2 y2 x3 y3 : Int) (w : World) :
    Calls Try.prog 88 #[.agg #[.int .i64 k, .int .i64 x0, .int .i64 y0, .int .i64 x1, .int .i64 y1, .int .i64 x2, .int .i64 y2, .int .i64 x3, .int .i64 y3]] w fun e w' => ∃ v, e = .returned (.tuple #[v, .int .i64 (Num.curveE (⟨k, x0, y0, x1, y1, x2, y2, x3, y3⟩ : Num.Sg))]) ∧ Below w.heap.size w w' ∧ w'.ownsRow w.heap.size 53 2 v (Num.curveL (⟨k, x0, y0, x1, y1, x2, y2, x3, y3⟩ : Num.Sg)).length ((Num.curveL (⟨k, x0, y0, x1, y1, x2, y2, x3, y3⟩ : Num.Sg)).flatMap spC) := by
  cases hk : Num.kindB (⟨k, x0, y0, x1, y1, x2, y2, x3, y3⟩ : Num.Sg)
  · have hE : Num.curveE (⟨k, x0, y0, x1, y1, x2, y2, x3, y3⟩ : Num.Sg) = 3 := by unfold Num.curveE; rw [hk]; rfl
    rw [hE, curve_no hE (by decide)]
    obtain ⟨k0, k1, k2⟩ := Num.kind_no hk
    simp only at k0 k1 k2
    have t0 : (k != 0) = true := by simpa using k0
    have t1 : (k != 1) = true := by simpa using k1
    have t2 : (k != 2) = true := by simpa using k2
    clear hk hE k0 k1 k2
    go_enter Try.func88, Try.ntmps88
    go_wp2
    go_ret2
    exact ⟨_, rfl, by (repeat (any_goals (first | exact Below.refl _ _ | assumption | refine Below.drew ?_ | refine below_drewN ?_ _ | refine Below.setCell ?_ ?_ _ | refine Below.alloc ?_ ?_ _ | omega | (simp; done) | (simp; omega)))), World.ownsRow_nil _ _ _ _⟩
  cases hr : Num.rangeB (⟨k, x0, y0, x1, y1, x2, y2, x3, y3⟩ : Num.Sg)
  · have hE : Num.curveE (⟨k, x0, y0, x1, y1, x2, y2, x3, y3⟩ : Num.Sg) = 6 := by unfold Num.curveE; rw [hk, hr]; rfl
    rw [hE, curve_no hE (by decide)]
    have HC := hide (segRange_any k x0 y0 x1 y1 x2 y2 x3 y3 (w.alloc (.cells #[.int .i64 k, .int .i64 x0, .int .i64 y0, .int .i64 x1, .int .i64 y1, .int .i64 x2, .int .i64 y2, .int .i64 x3, .int .i64 y3] 105)))
    rw [hr] at HC
    have hkk : k = 0 ∨ k = 1 ∨ k = 2 := Num.kind_yes hk
    clear hk hr hE
    rcases hkk with rfl | rfl | rfl
    all_goals
      go_enter Try.func88, Try.ntmps88
      go_wp2_with fail
      refine HC.out.mono ?_
      rintro e w1 ⟨rfl, hb⟩
      have hb0 : Below w.heap.size w w1 := Below.trans (by (repeat (any_goals (first | exact Below.refl _ _ | assumption | refine Below.drew ?_ | refine below_drewN ?_ _ | refine Below.setCell ?_ ?_ _ | refine Below.alloc ?_ ?_ _ | omega | (simp; done) | (simp; omega))))) (hb.mono (by simp))
      clear hb
      go_wp2
      go_ret2
      exact ⟨_, rfl, hb0, World.ownsRow_nil _ _ _ _⟩
  · obtain ⟨eE, eL⟩ := curve_yes hk hr
    obtain ⟨eN, n1, n2⟩ := curveN_eq hr
    rw [eE, eL]
    have hkk : k = 0 ∨ k = 1 ∨ k = 2 := Num.kind_yes hk
    have HC := hide (fun w => segRange_any k x0 y0 x1 y1 x2 y2 x3 y3 w)
    rw [hr] at HC
    have HD := hide (fun w => chords_any k x0 y0 x1 y1 x2 y2 x3 y3 w hr)
    obtain ⟨N, hN⟩ : ∃ N, N = Num.curveN (⟨k, x0, y0, x1, y1, x2, y2, x3, y3⟩ : Num.Sg) := ⟨_, rfl⟩
    rw [← hN] at eN n1 n2 ⊢
    rw [← eN] at HD
    have HF := hide (fun (i : Int) w (h1 : 0 ≤ i) (h2 : i ≤ (N : Int)) => spotOf_any k x0 y0 x1 y1 x2 y2 x3 y3 i N w hr h1 h2 (by omega) (by omega))
    have HRow := hide (sg9_row k x0 y0 x1 y1 x2 y2 x3 y3 w 105)
    have HCe := hide (fun (w : World) (b : Nat) (h : w.rowIs b 105 9 (sg9 k x0 y0 x1 y1 x2 y2 x3 y3)) => sg9_cells h)
    obtain ⟨F9, hF9⟩ : ∃ F9, F9 = sg9 k x0 y0 x1 y1 x2 y2 x3 y3 := ⟨_, rfl⟩
    rw [← hF9] at HRow HCe
    obtain ⟨GG, hGG⟩ : ∃ GG : Num.Sg, GG = (⟨k, x0, y0, x1, y1, x2, y2, x3, y3⟩ : Num.Sg) := ⟨_, rfl⟩
    rw [← hGG] at HF ⊢
    clear hk hr hN eN eE eL hF9 hGG
    obtain ⟨i0, hi0, hz0, hz1, hz2⟩ := info_parts info_spot
    rcases hkk with rfl | rfl | rfl
    all_goals
      go_enter Try.func88, Try.ntmps88
      go_wp2_with fail
      refine (HC.out _).mono ?_
      rintro e w1 ⟨rfl, hb⟩
      have hs1 : w.heap.size < w1.heap.size := by have := hb.size; simp at this; omega
      have HR1 := hide (row_below HRow.out hb HRow.out.lt)
      have hb0 : Below w.heap.size w w1 := Below.trans (by (repeat (any_goals (first | exact Below.refl _ _ | assumption | refine Below.drew ?_ | refine below_drewN ?_ _ | refine Below.setCell ?_ ?_ _ | refine Below.alloc ?_ ?_ _ | omega | (simp; done) | (simp; omega))))) (hb.mono (by simp))
      obtain ⟨c0, c1, c2, c3, c4, c5, c6, c7, c8⟩ := HCe.out _ _ HR1.out
      clear hb
      go_wp2_with fail
      refine (HD.out _).mono ?_
      rintro e w2 ⟨rfl, hb⟩
      have hs2 : w.heap.size < w2.heap.size := by have := hb.size; omega
      have HR2 := hide (row_below HR1.out hb HR1.out.lt)
      have hb2 : Below w.heap.size w w2 := hb0.trans (hb.mono (by omega))
      clear hb hb0 c0 c1 c2 c3 c4 c5 c6 c7 c8
      go_wp2_with fail
      go_loopw [4, 6] (fun v t wr => ∃ j : Nat, j ≤ N + 1 ∧ t = .int .i64 j ∧ Below w.heap.size w wr ∧ wr.rowIs w.heap.size 105 9 F9 ∧ wr.ownsRow (w.heap.size + 1) 53 2 v j ((spotsU GG N j).flatMap spC)) (fun _ t _ => N + 1 - (intOf t).toNat)
      case atStart => exact ⟨0, by omega, rfl, hb2, HR2.out, World.ownsRow_nil _ _ _ _⟩
      case round =>
        obtain ⟨v, rfl⟩ : ∃ v, v = u4 := ⟨_, rfl⟩
        obtain ⟨j, hj, rfl, hb, hrow, hown⟩ := hrel
        have hsz := hrow.lt
        by_cases hlt : j < N + 1
        · have hd1 : decide ((j : Int) ≤ (N : Int)) = true := by simp; omega
          obtain ⟨c0, c1, c2, c3, c4, c5, c6, c7, c8⟩ := HCe.out _ _ hrow
          have HW := hide hrow
          clear hrow
          go_wp2_with fail
          refine (HF.out j _ (by omega) (by omega)).mono ?_
          rintro e w3 ⟨rfl, hb3⟩
          have hs3 := hb3.size
          have hown3 := owns_of_block hown (fun b hbb => hb3.block b (hown.lt b hbb).2)
          have hB3 : Below w.heap.size w w3 := hb.trans (hb3.mono (by omega))
          have HW3 := hide (row_below HW.out hb3 HW.out.lt)
          have HSu := hide (spotsU_succ GG N j)
          have HLe := hide (spotsU_len GG N j)
          clear hb hb3 hown c0 c1 c2 c3 c4 c5 c6 c7 c8
          obtain ⟨sx, hsx⟩ : ∃ sx, sx = Num.spotX GG N j := ⟨_, rfl⟩
          obtain ⟨sy, hsy⟩ : ∃ sy, sy = Num.spotY GG N j := ⟨_, rfl⟩
          rw [← hsx, ← hsy] at HSu ⊢
          obtain ⟨xs, hxs⟩ : ∃ xs, xs = (spotsU GG N j).flatMap spC := ⟨_, rfl⟩
          rw [← hxs] at hown3
          have HX := hide hxs
          clear hsx hsy hxs
          go_wp2_with (at_builtin; refine wpList_append_lies _ rfl _ _ 51 rfl (w.heap.size + 1) 53 i0 (.agg #[.int .i64 0, .int .i64 0]) 2 16 Try.underlying51 hi0 hz0 hz1 hz2 rfl (by omega) v j xs rfl ((hown3.alloc _).alloc _) ⟨w3.heap.size + 1, 0, none⟩ 1 1 [.int .i64 sx, .int .i64 sy] rfl rfl ?e1 ?e2 (by omega) ?e3 ?e4 ?e5 (w3.heap.size + 1 + 1) (by simp) ?_)
          try (case e1 => exact news_sp (w3.alloc _) [.int .i64 sx, .int .i64 sy] _ _ (by simp))
          case e2 => first | exact one_two _ _ | exact ⟨rfl, rfl⟩
          case e3 => unfold maxLen; omega
          case e4 => omega
          case e5 => first | omega | (simp; omega)
          intro g cap w4 hown4 hgrow hat hlt4
          have hb4 : Below w.heap.size w w4 := ((hB3.alloc (by omega) _).alloc (by simp; omega) _).grown hgrow (by simp; omega) (fun q hq => by have := (hown3.lt q hq).1; omega)
          have hR4 : w4.rowIs w.heap.size 105 9 F9 := ((HW3.out.alloc _).alloc _).of_block (hgrow.block _ (by simp; omega) (fun e => by have := (hown3.lt _ e.symm).1; omega))
          have HO4 : Hid (w4.ownsRow (w.heap.size + 1) 53 2 (.slice (some ⟨g, 0, none⟩) (j + 1) cap) (j + 1) ((spotsU GG N (j + 1)).flatMap spC)) := by
            unfold Hid
            have := push_sp (l := spotsU GG N j) (l' := spotsU GG N (j + 1)) (p := (sx, sy)) (m := j + 1) (by rw [← HX.out]; exact hown4) HSu.out (by rw [HLe.out])
            rw [spotsU_len] at this
            exact this
          have HR4 := hide hR4
          clear hown4 hgrow hat hown3 hR4 HW3 HW
          go_wp2
          go_roundw
          case rel => exact ⟨j + 1, by omega, by go_num, hb4, HR4.out, HO4.out⟩
          case measure => simp [intOf]; omega
        · have e : j = N + 1 := by omega
          have hd0 : decide ((j : Int) ≤ (N : Int)) = false := by simp; omega
          have HO := hide hown
          have HB := hide hb
          clear hown hrow hb
          go_wp2
          go_ret2
          refine ⟨v, rfl, HB.out, ?_⟩
          have h := owns_mono HO.out (Nat.le_succ w.heap.size)
          rw [e] at h
          rw [spotsU_len]
          exact h

end Go.Proofs.Ytkhcjkmifddlbab

/- PlaceB -/
namespace Go.Proofs.Ytkhcjkmifddlbab
open Go.RowKit

theorem fair_false {a b c d x y : Int} (h : Num.wi a 65536 = false ∨ Num.wi b 65536 = false ∨ Num.wi c 65536 = false ∨ Num.wi d 65536 = false ∨ Num.wi x 16384 = false ∨ Num.wi y 16384 = false) : false = Num.fairB a b c d x y := by
  unfold Num.fairB
  rcases h with h | h | h | h | h | h <;> simp [h]

end Go.Proofs.Ytkhcjkmifddlbab

/- Trc -/
namespace Go.Proofs.Ytkhcjkmifddlbab
open Go.RowKit Go.Deep

/-- The cells of a map; of a spot. -/
def mp6 (a b c d x y : Int) (q : Nat) : Value := [Value.int .i64 a, .int .i64 b, .int .i64 c, .int .i64 d, .int .i64 x, .int .i64 y][q]?.getD undef
theorem mp6_row (a b c d x y : Int) (w : World) (t : TypeId) : (w.alloc (.cells #[.int .i64 a, .int .i64 b, .int .i64 c, .int .i64 d, .int .i64 x, .int .i64 y] t)).rowIs w.heap.size t 6 (mp6 a b c d x y) := by
  refine World.rowIs_alloc w #[.int .i64 a, .int .i64 b, .int .i64 c, .int .i64 d, .int .i64 x, .int .i64 y] t (mp6 a b c d x y) (fun i hi => ?_)
  have hi : i < 6 := hi
  rcases (show i = 0 ∨ i = 1 ∨ i = 2 ∨ i = 3 ∨ i = 4 ∨ i = 5 by omega) with rfl | rfl | rfl | rfl | rfl | rfl <;> rfl
theorem mp6_cells {a b c d x y : Int} {w : World} {p : Nat} {t : TypeId} (h : w.rowIs p t 6 (mp6 a b c d x y)) :
    w.cell? ⟨p, 0, none⟩ = some (.int .i64 a) ∧ w.cell? ⟨p, 1, none⟩ = some (.int .i64 b) ∧ w.cell? ⟨p, 2, none⟩ = some (.int .i64 c) ∧ w.cell? ⟨p, 3, none⟩ = some (.int .i64 d) ∧ w.cell? ⟨p, 4, none⟩ = some (.int .i64 x) ∧ w.cell? ⟨p, 5, none⟩ = some (.int .i64 y) :=
  ⟨h.cell (i := 0) (by omega), h.cell (i := 1) (by omega), h.cell (i := 2) (by omega), h.cell (i := 3) (by omega), h.cell (i := 4) (by omega), h.cell (i := 5) (by omega)⟩
def tp2 (x y : Int) (q : Nat) : Value := [Value.int .i64 x, .int .i64 y][q]?.getD undef
theorem tp2_row (x y : Int) (w : World) (t : TypeId) : (w.alloc (.cells #[.int .i64 x, .int .i64 y] t)).rowIs w.heap.size t 2 (tp2 x y) := by
  refine World.rowIs_alloc w #[.int .i64 x, .int .i64 y] t (tp2 x y) (fun i hi => ?_)
  have hi : i < 2 := hi
  rcases (show i = 0 ∨ i = 1 by omega) with rfl | rfl <;> rfl
theorem tp2_cells {x y : Int} {w : World} {b : Nat} {t : TypeId} (h : w.rowIs b t 2 (tp2 x y)) : w.cell? ⟨b, 0, none⟩ = some (.int .i64 x) ∧ w.cell? ⟨b, 1, none⟩ = some (.int .i64 y) :=
  ⟨h.cell (i := 0) (by omega), h.cell (i := 1) (by omega)⟩
theorem set9sg {w : World} {b : Nat} {t : TypeId} {f : Nat → Value} (h : w.rowIs b t 9 f) (v0 v1 v2 v3 v4 v5 v6 v7 v8 : Int) :
    (((((((((w.setCell ⟨b, 0, none⟩ (.int .i64 v0)).setCell ⟨b, 1, none⟩ (.int .i64 v1)).setCell ⟨b, 2, none⟩ (.int .i64 v2)).setCell ⟨b, 3, none⟩ (.int .i64 v3)).setCell ⟨b, 4, none⟩ (.int .i64 v4)).setCell ⟨b, 5, none⟩ (.int .i64 v5)).setCell ⟨b, 6, none⟩ (.int .i64 v6)).setCell ⟨b, 7, none⟩ (.int .i64 v7)).setCell ⟨b, 8, none⟩ (.int .i64 v8)).rowIs b t 9 (sg9 v0 v1 v2 v3 v4 v5 v6 v7 v8) := by
  refine (((((((((h.set 0 _).set 1 _).set 2 _).set 3 _).set 4 _).set 5 _).set 6 _).set 7 _).set 8 _).congr fun q hq => ?_
  rcases (show q = 0 ∨ q = 1 ∨ q = 2 ∨ q = 3 ∨ q = 4 ∨ q = 5 ∨ q = 6 ∨ q = 7 ∨ q = 8 by omega) with rfl | rfl | rfl | rfl | rfl | rfl | rfl | rfl | rfl <;> rfl
theorem zero_frozen {w : World} {b : Nat} {t : TypeId} {f : Nat → Value} (h : w.rowIs b t 9 f) : w.frozen? ⟨b, 0, none⟩ = false ∧ w.frozen? ⟨b, 1, none⟩ = false ∧ w.frozen? ⟨b, 2, none⟩ = false ∧ w.frozen? ⟨b, 3, none⟩ = false ∧ w.frozen? ⟨b, 4, none⟩ = false ∧ w.frozen? ⟨b, 5, none⟩ = false ∧ w.frozen? ⟨b, 6, none⟩ = false ∧ w.frozen? ⟨b, 7, none⟩ = false ∧ w.frozen? ⟨b, 8, none⟩ = false :=
  ⟨h.frozen 0, h.frozen 1, h.frozen 2, h.frozen 3, h.frozen 4, h.frozen 5, h.frozen 6, h.frozen 7, h.frozen 8⟩

set_option maxRecDepth 100000 in
set_option maxHeartbeats 4000000 in
theorem segPut_any (k x0 y0 x1 y1 x2 y2 x3 y3 a b c d x y : Int) (w : World) :
    Calls Try.prog 87 #[.agg #[.int .i64 k, .int .i64 x0, .int .i64 y0, .int .i64 x1, .int .i64 y1, .int .i64 x2, .int .i64 y2, .int .i64 x3, .int .i64 y3], .agg #[.int .i64 a, .int .i64 b, .int .i64 c, .int .i64 d, .int .i64 x, .int .i64 y]] w fun e w' => e = .returned (.tuple #[.agg #[.int .i64 (Num.putG (⟨a, b, c, d, x, y⟩ : Num.Mp) (⟨k, x0, y0, x1, y1, x2, y2, x3, y3⟩ : Num.Sg)).k, .int .i64 (Num.putG (⟨a, b, c, d, x, y⟩ : Num.Mp) (⟨k, x0, y0, x1, y1, x2, y2, x3, y3⟩ : Num.Sg)).x0, .int .i64 (Num.putG (⟨a, b, c, d, x, y⟩ : Num.Mp) (⟨k, x0, y0, x1, y1, x2, y2, x3, y3⟩ : Num.Sg)).y0, .int .i64 (Num.putG (⟨a, b, c, d, x, y⟩ : Num.Mp) (⟨k, x0, y0, x1, y1, x2, y2, x3, y3⟩ : Num.Sg)).x1, .int .i64 (Num.putG (⟨a, b, c, d, x, y⟩ : Num.Mp) (⟨k, x0, y0, x1, y1, x2, y2, x3, y3⟩ : Num.Sg)).y1, .int .i64 (Num.putG (⟨a, b, c, d, x, y⟩ : Num.Mp) (⟨k, x0, y0, x1, y1, x2, y2, x3, y3⟩ : Num.Sg)).x2, .int .i64 (Num.putG (⟨a, b, c, d, x, y⟩ : Num.Mp) (⟨k, x0, y0, x1, y1, x2, y2, x3, y3⟩ : Num.Sg)).y2, .int .i64 (Num.putG (⟨a, b, c, d, x, y⟩ : Num.Mp) (⟨k, x0, y0, x1, y1, x2, y2, x3, y3⟩ : Num.Sg)).x3, .int .i64 (Num.putG (⟨a, b, c, d, x, y⟩ : Num.Mp) (⟨k, x0, y0, x1, y1, x2, y2, x3, y3⟩ : Num.Sg)).y3], .int .i64 (Num.putE (⟨a, b, c, d, x, y⟩ : Num.Mp) (⟨k, x0, y0, x1, y1, x2, y2, x3, y3⟩ : Num.Sg))]) ∧ Below w.heap.size w w' := by
  obtain ⟨Q0, hQ0⟩ : ∃ Q, Q = Num.placeV a b c d x y x0 y0 := ⟨_, rfl⟩
  obtain ⟨Q1, hQ1⟩ : ∃ Q, Q = Num.placeV a b c d x y x1 y1 := ⟨_, rfl⟩
  obtain ⟨Q2, hQ2⟩ : ∃ Q, Q = Num.placeV a b c d x y x2 y2 := ⟨_, rfl⟩
  obtain ⟨Q3, hQ3⟩ : ∃ Q, Q = Num.placeV a b c d x y x3 y3 := ⟨_, rfl⟩
  have HOk : Hid (Num.putOk (⟨a, b, c, d, x, y⟩ : Num.Mp) (⟨k, x0, y0, x1, y1, x2, y2, x3, y3⟩ : Num.Sg) = (Q0.2.2 == 0 && Q1.2.2 == 0 && Q2.2.2 == 0 && Q3.2.2 == 0)) := by unfold Hid; rw [hQ0, hQ1, hQ2, hQ3]; rfl
  have HVv : Hid (Num.putV (⟨a, b, c, d, x, y⟩ : Num.Mp) (⟨k, x0, y0, x1, y1, x2, y2, x3, y3⟩ : Num.Sg) = ⟨k, Q0.1, Q0.2.1, Q1.1, Q1.2.1, Q2.1, Q2.2.1, Q3.1, Q3.2.1⟩) := by unfold Hid; rw [hQ0, hQ1, hQ2, hQ3]; rfl
  have HNo : Hid (Num.putOk (⟨a, b, c, d, x, y⟩ : Num.Mp) (⟨k, x0, y0, x1, y1, x2, y2, x3, y3⟩ : Num.Sg) = false → Num.putG (⟨a, b, c, d, x, y⟩ : Num.Mp) (⟨k, x0, y0, x1, y1, x2, y2, x3, y3⟩ : Num.Sg) = ⟨0, 0, 0, 0, 0, 0, 0, 0, 0⟩ ∧ Num.putE (⟨a, b, c, d, x, y⟩ : Num.Mp) (⟨k, x0, y0, x1, y1, x2, y2, x3, y3⟩ : Num.Sg) = 6) := fun h => by unfold Num.putG Num.putE; rw [h]; exact ⟨rfl, rfl⟩
  have HYe : Hid (Num.putOk (⟨a, b, c, d, x, y⟩ : Num.Mp) (⟨k, x0, y0, x1, y1, x2, y2, x3, y3⟩ : Num.Sg) = true → Num.putG (⟨a, b, c, d, x, y⟩ : Num.Mp) (⟨k, x0, y0, x1, y1, x2, y2, x3, y3⟩ : Num.Sg) = Num.putV (⟨a, b, c, d, x, y⟩ : Num.Mp) (⟨k, x0, y0, x1, y1, x2, y2, x3, y3⟩ : Num.Sg) ∧ Num.putE (⟨a, b, c, d, x, y⟩ : Num.Mp) (⟨k, x0, y0, x1, y1, x2, y2, x3, y3⟩ : Num.Sg) = 0) := fun h => by unfold Num.putG Num.putE; rw [h]; exact ⟨rfl, rfl⟩
  obtain ⟨PG, hPG⟩ : ∃ PG, PG = Num.putG (⟨a, b, c, d, x, y⟩ : Num.Mp) (⟨k, x0, y0, x1, y1, x2, y2, x3, y3⟩ : Num.Sg) := ⟨_, rfl⟩
  obtain ⟨PE, hPE⟩ : ∃ PE, PE = Num.putE (⟨a, b, c, d, x, y⟩ : Num.Mp) (⟨k, x0, y0, x1, y1, x2, y2, x3, y3⟩ : Num.Sg) := ⟨_, rfl⟩
  rw [← hPG, ← hPE] at HNo HYe ⊢
  rw [HOk.out] at HNo HYe
  rw [HVv.out] at HYe
  have HQ0 := hide hQ0
  have HQ1 := hide hQ1
  have HQ2 := hide hQ2
  have HQ3 := hide hQ3
  clear hQ0 hQ1 hQ2 hQ3 hPG hPE HOk HVv
  have HR0 := hide (sg9_row k x0 y0 x1 y1 x2 y2 x3 y3 w 105)
  have HM0 : Hid (((w.alloc (.cells #[.int .i64 k, .int .i64 x0, .int .i64 y0, .int .i64 x1, .int .i64 y1, .int .i64 x2, .int .i64 y2, .int .i64 x3, .int .i64 y3] 105)).alloc (.cells #[.int .i64 a, .int .i64 b, .int .i64 c, .int .i64 d, .int .i64 x, .int .i64 y] 24)).rowIs (w.heap.size + 1) 24 6 (mp6 a b c d x y)) := by
    have h := mp6_row a b c d x y (w.alloc (.cells #[.int .i64 k, .int .i64 x0, .int .i64 y0, .int .i64 x1, .int .i64 y1, .int .i64 x2, .int .i64 y2, .int .i64 x3, .int .i64 y3] 105)) 24
    rw [nblk_alloc] at h
    exact h
  have HZ0 : Hid ((((w.alloc (.cells #[.int .i64 k, .int .i64 x0, .int .i64 y0, .int .i64 x1, .int .i64 y1, .int .i64 x2, .int .i64 y2, .int .i64 x3, .int .i64 y3] 105)).alloc (.cells #[.int .i64 a, .int .i64 b, .int .i64 c, .int .i64 d, .int .i64 x, .int .i64 y] 24)).alloc (.cells #[.int .i64 0, .int .i64 0, .int .i64 0, .int .i64 0, .int .i64 0, .int .i64 0, .int .i64 0, .int .i64 0, .int .i64 0] 105)).rowIs (w.heap.size + 1 + 1) 105 9 (sg9 0 0 0 0 0 0 0 0 0)) := by
    have h := sg9_row 0 0 0 0 0 0 0 0 0 ((w.alloc (.cells #[.int .i64 k, .int .i64 x0, .int .i64 y0, .int .i64 x1, .int .i64 y1, .int .i64 x2, .int .i64 y2, .int .i64 x3, .int .i64 y3] 105)).alloc (.cells #[.int .i64 a, .int .i64 b, .int .i64 c, .int .i64 d, .int .i64 x, .int .i64 y] 24)) 105
    rw [nblk_alloc, nblk_alloc] at h
    exact h
  go_enter Try.func87, Try.ntmps87
  go_wp2_with fail
  refine (place_any _ _ _ _ _ _ _ _ _).mono ?_
  rw [← HQ0.out]
  rintro e w1 ⟨rfl, hb⟩
  have hz1 : w.heap.size + 1 + 1 < w1.heap.size := by have := hb.size; simp at this; omega
  have HR1 := hide (row_below ((HR0.out.alloc _).alloc _) hb (by simp; omega))
  have HM1 := hide (row_below (HM0.out.alloc _) hb (by simp))
  have HZ1 := hide (row_below HZ0.out hb (by simp))
  have HB1 : Hid (Below w.heap.size w w1) := Below.trans (by (repeat (any_goals (first | exact Below.refl _ _ | assumption | refine Below.drew ?_ | refine below_drewN ?_ _ | refine Below.setCell ?_ ?_ _ | refine Below.alloc ?_ ?_ _ | omega | (simp; done) | (simp; omega))))) (hb.mono (by simp; omega))
  have ya1 : w.heap.size < w1.heap.size := by omega
  have yb1 : w.heap.size + 1 < w1.heap.size := by omega
  have yc1 : w.heap.size + 1 + 1 < w1.heap.size := by omega
  clear hb
  obtain ⟨c0, c1, c2, c3, c4, c5, c6, c7, c8⟩ := sg9_cells HR1.out
  obtain ⟨d0, d1, d2, d3, d4, d5⟩ := mp6_cells HM1.out
  go_wp2_with fail
  clear c0 c1 c2 c3 c4 c5 c6 c7 c8 d0 d1 d2 d3 d4 d5
  refine (place_any _ _ _ _ _ _ _ _ _).mono ?_
  rw [← HQ1.out]
  rintro e w2 ⟨rfl, hb⟩
  have hz2 : w1.heap.size < w2.heap.size := by have := hb.size; simp at this; omega
  have HR2 := hide (row_below (HR1.out.alloc (.cells #[.int .i64 Q0.1, .int .i64 Q0.2.1] 53)) hb (by simp; omega))
  have HM2 := hide (row_below (HM1.out.alloc (.cells #[.int .i64 Q0.1, .int .i64 Q0.2.1] 53)) hb (by simp; omega))
  have HZ2 := hide (row_below (HZ1.out.alloc (.cells #[.int .i64 Q0.1, .int .i64 Q0.2.1] 53)) hb (by simp; omega))
  have HB2 : Hid (Below w.heap.size w w2) := HB1.out.trans (((Below.refl _ _).alloc (Nat.le_refl _) (.cells #[.int .i64 Q0.1, .int .i64 Q0.2.1] 53)).trans (hb.mono (by simp)) |>.mono (by omega))
  have HS1_2 := hide (row_below (tp2_row Q0.1 Q0.2.1 w1 53) hb (by simp))
  have ya2 : w.heap.size < w2.heap.size := by omega
  have yb2 : w.heap.size + 1 < w2.heap.size := by omega
  have yc2 : w.heap.size + 1 + 1 < w2.heap.size := by omega
  clear hb
  obtain ⟨c0, c1, c2, c3, c4, c5, c6, c7, c8⟩ := sg9_cells HR2.out
  obtain ⟨d0, d1, d2, d3, d4, d5⟩ := mp6_cells HM2.out
  go_wp2_with fail
  clear c0 c1 c2 c3 c4 c5 c6 c7 c8 d0 d1 d2 d3 d4 d5
  refine (place_any _ _ _ _ _ _ _ _ _).mono ?_
  rw [← HQ2.out]
  rintro e w3 ⟨rfl, hb⟩
  have hz3 : w2.heap.size < w3.heap.size := by have := hb.size; simp at this; omega
  have HR3 := hide (row_below (HR2.out.alloc (.cells #[.int .i64 Q1.1, .int .i64 Q1.2.1] 53)) hb (by simp; omega))
  have HM3 := hide (row_below (HM2.out.alloc (.cells #[.int .i64 Q1.1, .int .i64 Q1.2.1] 53)) hb (by simp; omega))
  have HZ3 := hide (row_below (HZ2.out.alloc (.cells #[.int .i64 Q1.1, .int .i64 Q1.2.1] 53)) hb (by simp; omega))
  have HB3 : Hid (Below w.heap.size w w3) := HB2.out.trans (((Below.refl _ _).alloc (Nat.le_refl _) (.cells #[.int .i64 Q1.1, .int .i64 Q1.2.1] 53)).trans (hb.mono (by simp)) |>.mono (by omega))
  have HS1_3 := hide (row_below (HS1_2.out.alloc (.cells #[.int .i64 Q1.1, .int .i64 Q1.2.1] 53)) hb (by simp; omega))
  have HS2_3 := hide (row_below (tp2_row Q1.1 Q1.2.1 w2 53) hb (by simp))
  have ya3 : w.heap.size < w3.heap.size := by omega
  have yb3 : w.heap.size + 1 < w3.heap.size := by omega
  have yc3 : w.heap.size + 1 + 1 < w3.heap.size := by omega
  have yd1_3 : w1.heap.size < w3.heap.size := by omega
  clear hb
  obtain ⟨c0, c1, c2, c3, c4, c5, c6, c7, c8⟩ := sg9_cells HR3.out
  obtain ⟨d0, d1, d2, d3, d4, d5⟩ := mp6_cells HM3.out
  go_wp2_with fail
  clear c0 c1 c2 c3 c4 c5 c6 c7 c8 d0 d1 d2 d3 d4 d5
  refine (place_any _ _ _ _ _ _ _ _ _).mono ?_
  rw [← HQ3.out]
  rintro e w4 ⟨rfl, hb⟩
  have hz4 : w3.heap.size < w4.heap.size := by have := hb.size; simp at this; omega
  have HR4 := hide (row_below (HR3.out.alloc (.cells #[.int .i64 Q2.1, .int .i64 Q2.2.1] 53)) hb (by simp; omega))
  have HM4 := hide (row_below (HM3.out.alloc (.cells #[.int .i64 Q2.1, .int .i64 Q2.2.1] 53)) hb (by simp; omega))
  have HZ4 := hide (row_below (HZ3.out.alloc (.cells #[.int .i64 Q2.1, .int .i64 Q2.2.1] 53)) hb (by simp; omega))
  have HB4 : Hid (Below w.heap.size w w4) := HB3.out.trans (((Below.refl _ _).alloc (Nat.le_refl _) (.cells #[.int .i64 Q2.1, .int .i64 Q2.2.1] 53)).trans (hb.mono (by simp)) |>.mono (by omega))
  have HS1_4 := hide (row_below (HS1_3.out.alloc (.cells #[.int .i64 Q2.1, .int .i64 Q2.2.1] 53)) hb (by simp; omega))
  have HS2_4 := hide (row_below (HS2_3.out.alloc (.cells #[.int .i64 Q2.1, .int .i64 Q2.2.1] 53)) hb (by simp; omega))
  have HS3_4 := hide (row_below (tp2_row Q2.1 Q2.2.1 w3 53) hb (by simp))
  have ya4 : w.heap.size < w4.heap.size := by omega
  have yb4 : w.heap.size + 1 < w4.heap.size := by omega
  have yc4 : w.heap.size + 1 + 1 < w4.heap.size := by omega
  have yd1_4 : w1.heap.size < w4.heap.size := by omega
  have yd2_4 : w2.heap.size < w4.heap.size := by omega
  clear hb
  obtain ⟨c0, c1, c2, c3, c4, c5, c6, c7, c8⟩ := sg9_cells HR4.out
  obtain ⟨r0, r1, r2, r3, r4, r5, r6, r7, r8⟩ := sg9_cells HZ4.out
  obtain ⟨z0, z1, z2, z3, z4, z5, z6, z7, z8⟩ := zero_frozen HZ4.out
  obtain ⟨s10, s11⟩ := tp2_cells HS1_4.out
  obtain ⟨s20, s21⟩ := tp2_cells HS2_4.out
  obtain ⟨s30, s31⟩ := tp2_cells HS3_4.out
  by_cases h0 : Q0.2.2 = 0
  case neg =>
    obtain ⟨rfl, rfl⟩ := HNo.out (by simp [h0])
    have t0 : (Q0.2.2 != 0) = true := by simpa using h0
    clear h0 HYe HNo
    go_wp2
    obtain ⟨wF, hwF⟩ : ∃ wF, wF = (((((((((w4.setCell ⟨w.heap.size + 1 + 1, 0, none⟩ (.int .i64 0)).setCell ⟨w.heap.size + 1 + 1, 1, none⟩ (.int .i64 0)).setCell ⟨w.heap.size + 1 + 1, 2, none⟩ (.int .i64 0)).setCell ⟨w.heap.size + 1 + 1, 3, none⟩ (.int .i64 0)).setCell ⟨w.heap.size + 1 + 1, 4, none⟩ (.int .i64 0)).setCell ⟨w.heap.size + 1 + 1, 5, none⟩ (.int .i64 0)).setCell ⟨w.heap.size + 1 + 1, 6, none⟩ (.int .i64 0)).setCell ⟨w.heap.size + 1 + 1, 7, none⟩ (.int .i64 0)).setCell ⟨w.heap.size + 1 + 1, 8, none⟩ (.int .i64 0)).alloc (.cells #[.int .i64 Q3.1, .int .i64 Q3.2.1] 53) := ⟨_, rfl⟩
    rw [← hwF]
    have hRF : wF.rowIs (w.heap.size + 1 + 1) 105 9 (sg9 0 0 0 0 0 0 0 0 0) := by rw [hwF]; exact (set9sg HZ4.out 0 0 0 0 0 0 0 0 0).alloc _
    have hp : ∀ q : Nat, w.heap.size ≤ (⟨w.heap.size + 1 + 1, q, none⟩ : Addr).block := fun q => by show w.heap.size ≤ w.heap.size + 1 + 1; omega
    have hBF : Below w.heap.size w wF := by rw [hwF]; exact (((((((((HB4.out.setCell (hp 0) _).setCell (hp 1) _).setCell (hp 2) _).setCell (hp 3) _).setCell (hp 4) _).setCell (hp 5) _).setCell (hp 6) _).setCell (hp 7) _).setCell (hp 8) _).alloc (by simp; omega) _
    obtain ⟨g0, g1, g2, g3, g4, g5, g6, g7, g8⟩ := sg9_cells hRF
    exact bodyPost_ret (v := .tuple #[.agg #[.int .i64 0, .int .i64 0, .int .i64 0, .int .i64 0, .int .i64 0, .int .i64 0, .int .i64 0, .int .i64 0, .int .i64 0], .int .i64 6]) (by simp [results, Try.results87, go_sem, g0, g1, g2, g3, g4, g5, g6, g7, g8]) rfl ⟨rfl, hBF⟩
  by_cases h1 : Q1.2.2 = 0
  case neg =>
    obtain ⟨rfl, rfl⟩ := HNo.out (by simp [h0, h1])
    have t1 : (Q1.2.2 != 0) = true := by simpa using h1
    have t0 : (Q0.2.2 != 0) = false := by simpa using h0
    clear h0 h1 HYe HNo
    go_wp2
    obtain ⟨wF, hwF⟩ : ∃ wF, wF = (((((((((w4.setCell ⟨w.heap.size + 1 + 1, 0, none⟩ (.int .i64 0)).setCell ⟨w.heap.size + 1 + 1, 1, none⟩ (.int .i64 0)).setCell ⟨w.heap.size + 1 + 1, 2, none⟩ (.int .i64 0)).setCell ⟨w.heap.size + 1 + 1, 3, none⟩ (.int .i64 0)).setCell ⟨w.heap.size + 1 + 1, 4, none⟩ (.int .i64 0)).setCell ⟨w.heap.size + 1 + 1, 5, none⟩ (.int .i64 0)).setCell ⟨w.heap.size + 1 + 1, 6, none⟩ (.int .i64 0)).setCell ⟨w.heap.size + 1 + 1, 7, none⟩ (.int .i64 0)).setCell ⟨w.heap.size + 1 + 1, 8, none⟩ (.int .i64 0)).alloc (.cells #[.int .i64 Q3.1, .int .i64 Q3.2.1] 53) := ⟨_, rfl⟩
    rw [← hwF]
    have hRF : wF.rowIs (w.heap.size + 1 + 1) 105 9 (sg9 0 0 0 0 0 0 0 0 0) := by rw [hwF]; exact (set9sg HZ4.out 0 0 0 0 0 0 0 0 0).alloc _
    have hp : ∀ q : Nat, w.heap.size ≤ (⟨w.heap.size + 1 + 1, q, none⟩ : Addr).block := fun q => by show w.heap.size ≤ w.heap.size + 1 + 1; omega
    have hBF : Below w.heap.size w wF := by rw [hwF]; exact (((((((((HB4.out.setCell (hp 0) _).setCell (hp 1) _).setCell (hp 2) _).setCell (hp 3) _).setCell (hp 4) _).setCell (hp 5) _).setCell (hp 6) _).setCell (hp 7) _).setCell (hp 8) _).alloc (by simp; omega) _
    obtain ⟨g0, g1, g2, g3, g4, g5, g6, g7, g8⟩ := sg9_cells hRF
    exact bodyPost_ret (v := .tuple #[.agg #[.int .i64 0, .int .i64 0, .int .i64 0, .int .i64 0, .int .i64 0, .int .i64 0, .int .i64 0, .int .i64 0, .int .i64 0], .int .i64 6]) (by simp [results, Try.results87, go_sem, g0, g1, g2, g3, g4, g5, g6, g7, g8]) rfl ⟨rfl, hBF⟩
  by_cases h2 : Q2.2.2 = 0
  case neg =>
    obtain ⟨rfl, rfl⟩ := HNo.out (by simp [h0, h1, h2])
    have t2 : (Q2.2.2 != 0) = true := by simpa using h2
    have t0 : (Q0.2.2 != 0) = false := by simpa using h0
    have t1 : (Q1.2.2 != 0) = false := by simpa using h1
    clear h0 h1 h2 HYe HNo
    go_wp2
    obtain ⟨wF, hwF⟩ : ∃ wF, wF = (((((((((w4.setCell ⟨w.heap.size + 1 + 1, 0, none⟩ (.int .i64 0)).setCell ⟨w.heap.size + 1 + 1, 1, none⟩ (.int .i64 0)).setCell ⟨w.heap.size + 1 + 1, 2, none⟩ (.int .i64 0)).setCell ⟨w.heap.size + 1 + 1, 3, none⟩ (.int .i64 0)).setCell ⟨w.heap.size + 1 + 1, 4, none⟩ (.int .i64 0)).setCell ⟨w.heap.size + 1 + 1, 5, none⟩ (.int .i64 0)).setCell ⟨w.heap.size + 1 + 1, 6, none⟩ (.int .i64 0)).setCell ⟨w.heap.size + 1 + 1, 7, none⟩ (.int .i64 0)).setCell ⟨w.heap.size + 1 + 1, 8, none⟩ (.int .i64 0)).alloc (.cells #[.int .i64 Q3.1, .int .i64 Q3.2.1] 53) := ⟨_, rfl⟩
    rw [← hwF]
    have hRF : wF.rowIs (w.heap.size + 1 + 1) 105 9 (sg9 0 0 0 0 0 0 0 0 0) := by rw [hwF]; exact (set9sg HZ4.out 0 0 0 0 0 0 0 0 0).alloc _
    have hp : ∀ q : Nat, w.heap.size ≤ (⟨w.heap.size + 1 + 1, q, none⟩ : Addr).block := fun q => by show w.heap.size ≤ w.heap.size + 1 + 1; omega
    have hBF : Below w.heap.size w wF := by rw [hwF]; exact (((((((((HB4.out.setCell (hp 0) _).setCell (hp 1) _).setCell (hp 2) _).setCell (hp 3) _).setCell (hp 4) _).setCell (hp 5) _).setCell (hp 6) _).setCell (hp 7) _).setCell (hp 8) _).alloc (by simp; omega) _
    obtain ⟨g0, g1, g2, g3, g4, g5, g6, g7, g8⟩ := sg9_cells hRF
    exact bodyPost_ret (v := .tuple #[.agg #[.int .i64 0, .int .i64 0, .int .i64 0, .int .i64 0, .int .i64 0, .int .i64 0, .int .i64 0, .int .i64 0, .int .i64 0], .int .i64 6]) (by simp [results, Try.results87, go_sem, g0, g1, g2, g3, g4, g5, g6, g7, g8]) rfl ⟨rfl, hBF⟩
  by_cases h3 : Q3.2.2 = 0
  case neg =>
    obtain ⟨rfl, rfl⟩ := HNo.out (by simp [h0, h1, h2, h3])
    have t3 : (Q3.2.2 != 0) = true := by simpa using h3
    have t0 : (Q0.2.2 != 0) = false := by simpa using h0
    have t1 : (Q1.2.2 != 0) = false := by simpa using h1
    have t2 : (Q2.2.2 != 0) = false := by simpa using h2
    clear h0 h1 h2 h3 HYe HNo
    go_wp2
    obtain ⟨wF, hwF⟩ : ∃ wF, wF = (((((((((w4.setCell ⟨w.heap.size + 1 + 1, 0, none⟩ (.int .i64 0)).setCell ⟨w.heap.size + 1 + 1, 1, none⟩ (.int .i64 0)).setCell ⟨w.heap.size + 1 + 1, 2, none⟩ (.int .i64 0)).setCell ⟨w.heap.size + 1 + 1, 3, none⟩ (.int .i64 0)).setCell ⟨w.heap.size + 1 + 1, 4, none⟩ (.int .i64 0)).setCell ⟨w.heap.size + 1 + 1, 5, none⟩ (.int .i64 0)).setCell ⟨w.heap.size + 1 + 1, 6, none⟩ (.int .i64 0)).setCell ⟨w.heap.size + 1 + 1, 7, none⟩ (.int .i64 0)).setCell ⟨w.heap.size + 1 + 1, 8, none⟩ (.int .i64 0)).alloc (.cells #[.int .i64 Q3.1, .int .i64 Q3.2.1] 53) := ⟨_, rfl⟩
    rw [← hwF]
    have hRF : wF.rowIs (w.heap.size + 1 + 1) 105 9 (sg9 0 0 0 0 0 0 0 0 0) := by rw [hwF]; exact (set9sg HZ4.out 0 0 0 0 0 0 0 0 0).alloc _
    have hp : ∀ q : Nat, w.heap.size ≤ (⟨w.heap.size + 1 + 1, q, none⟩ : Addr).block := fun q => by show w.heap.size ≤ w.heap.size + 1 + 1; omega
    have hBF : Below w.heap.size w wF := by rw [hwF]; exact (((((((((HB4.out.setCell (hp 0) _).setCell (hp 1) _).setCell (hp 2) _).setCell (hp 3) _).setCell (hp 4) _).setCell (hp 5) _).setCell (hp 6) _).setCell (hp 7) _).setCell (hp 8) _).alloc (by simp; omega) _
    obtain ⟨g0, g1, g2, g3, g4, g5, g6, g7, g8⟩ := sg9_cells hRF
    exact bodyPost_ret (v := .tuple #[.agg #[.int .i64 0, .int .i64 0, .int .i64 0, .int .i64 0, .int .i64 0, .int .i64 0, .int .i64 0, .int .i64 0, .int .i64 0], .int .i64 6]) (by simp [results, Try.results87, go_sem, g0, g1, g2, g3, g4, g5, g6, g7, g8]) rfl ⟨rfl, hBF⟩
  · obtain ⟨rfl, rfl⟩ := HYe.out (by simp [h0, h1, h2, h3])
    have t0 : (Q0.2.2 != 0) = false := by simpa using h0
    have t1 : (Q1.2.2 != 0) = false := by simpa using h1
    have t2 : (Q2.2.2 != 0) = false := by simpa using h2
    have t3 : (Q3.2.2 != 0) = false := by simpa using h3
    clear h0 h1 h2 h3 HYe HNo
    go_wp2
    obtain ⟨wF, hwF⟩ : ∃ wF, wF = (((((((((w4.setCell ⟨w.heap.size + 1 + 1, 0, none⟩ (.int .i64 k)).setCell ⟨w.heap.size + 1 + 1, 1, none⟩ (.int .i64 Q0.1)).setCell ⟨w.heap.size + 1 + 1, 2, none⟩ (.int .i64 Q0.2.1)).setCell ⟨w.heap.size + 1 + 1, 3, none⟩ (.int .i64 Q1.1)).setCell ⟨w.heap.size + 1 + 1, 4, none⟩ (.int .i64 Q1.2.1)).setCell ⟨w.heap.size + 1 + 1, 5, none⟩ (.int .i64 Q2.1)).setCell ⟨w.heap.size + 1 + 1, 6, none⟩ (.int .i64 Q2.2.1)).setCell ⟨w.heap.size + 1 + 1, 7, none⟩ (.int .i64 Q3.1)).setCell ⟨w.heap.size + 1 + 1, 8, none⟩ (.int .i64 Q3.2.1)).alloc (.cells #[.int .i64 Q3.1, .int .i64 Q3.2.1] 53) := ⟨_, rfl⟩
    rw [← hwF]
    have hRF : wF.rowIs (w.heap.size + 1 + 1) 105 9 (sg9 k Q0.1 Q0.2.1 Q1.1 Q1.2.1 Q2.1 Q2.2.1 Q3.1 Q3.2.1) := by rw [hwF]; exact (set9sg HZ4.out k Q0.1 Q0.2.1 Q1.1 Q1.2.1 Q2.1 Q2.2.1 Q3.1 Q3.2.1).alloc _
    have hp : ∀ q : Nat, w.heap.size ≤ (⟨w.heap.size + 1 + 1, q, none⟩ : Addr).block := fun q => by show w.heap.size ≤ w.heap.size + 1 + 1; omega
    have hBF : Below w.heap.size w wF := by rw [hwF]; exact (((((((((HB4.out.setCell (hp 0) _).setCell (hp 1) _).setCell (hp 2) _).setCell (hp 3) _).setCell (hp 4) _).setCell (hp 5) _).setCell (hp 6) _).setCell (hp 7) _).setCell (hp 8) _).alloc (by simp; omega) _
    obtain ⟨g0, g1, g2, g3, g4, g5, g6, g7, g8⟩ := sg9_cells hRF
    exact bodyPost_ret (v := .tuple #[.agg #[.int .i64 k, .int .i64 Q0.1, .int .i64 Q0.2.1, .int .i64 Q1.1, .int .i64 Q1.2.1, .int .i64 Q2.1, .int .i64 Q2.2.1, .int .i64 Q3.1, .int .i64 Q3.2.1], .int .i64 0]) (by simp [results, Try.results87, go_sem, g0, g1, g2, g3, g4, g5, g6, g7, g8]) rfl ⟨rfl, hBF⟩

end Go.Proofs.Ytkhcjkmifddlbab
