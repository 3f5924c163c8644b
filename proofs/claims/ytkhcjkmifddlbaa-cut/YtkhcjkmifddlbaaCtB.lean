/- The program's Cuts: at rows, at columns. -/
import Derived.Test.YtkhcjkmifddlbaaCt
namespace Go.Proofs.Ytkhcjkmifddlbaa
open Go.RowKit Go.Deep

theorem intC_at (l : List Int) (i : Nat) (hi : i < l.length) : (intC l)[i]? = some (.int .i64 l[i]) := by simp [intC, hi]
theorem owns_int {w : World} {base b cap : Nat} {t : TypeId} {l : List Int} (h : w.ownsRow base t 1 (.slice (some ⟨b, 0, none⟩) l.length cap) l.length (intC l)) (i : Nat) (hi : i < l.length) : w.cell? ⟨b, i, none⟩ = some (.int .i64 l[i]) := by
  rw [h.cellAt i (by omega), intC_at l i hi]

theorem atRows_at {ax ay bx b2 : Int} {j : Nat} (hj : j < (Num.linesV ay b2).length) : (Num.rowsV ax ay bx b2).take (j + 1) = (Num.rowsV ax ay bx b2).take j ++ [(fun z => (Num.atV ax bx ay b2 z, z)) (Num.linesV ay b2)[j]] := by
  have hl : j < (Num.rowsV ax ay bx b2).length := by unfold Num.rowsV; simpa using hj
  rw [List.take_succ_eq_append_getElem hl]
  simp [Num.rowsV]

set_option maxRecDepth 100000 in
set_option maxHeartbeats 2000000 in
theorem atRows_any (ax ay bx b2 : Int) (w : World) (ha : (-16384 ≤ ax ∧ ax ≤ 16384) ∧ -16384 ≤ ay ∧ ay ≤ 16384) (hb : (-16384 ≤ bx ∧ bx ≤ 16384) ∧ -16384 ≤ b2 ∧ b2 ≤ 16384) :
    Calls Try.prog 131 #[.agg #[.int .i64 ax, .int .i64 ay], .agg #[.int .i64 bx, .int .i64 b2]] w fun e w' => ∃ v, e = .returned v ∧ Below w.heap.size w w' ∧ w'.ownsRow w.heap.size 41 2 v (Num.rowsV ax ay bx b2).length ((Num.rowsV ax ay bx b2).flatMap spC) ∧ ((Num.rowsV ax ay bx b2).length = 0 → v = .slice none 0 0) := by
  have hmem : ∀ z ∈ Num.linesV ay b2, (ay < z ∧ z < b2) ∨ (b2 < z ∧ z < ay) := fun z hz => Num.linesV_mem hz
  have hat0 : ∀ j (hj : j < (Num.linesV ay b2).length), (Num.rowsV ax ay bx b2).take (j + 1) = (Num.rowsV ax ay bx b2).take j ++ [(fun z => (Num.atV ax bx ay b2 z, z)) (Num.linesV ay b2)[j]] := fun j hj => atRows_at hj
  have hll : (Num.rowsV ax ay bx b2).length = (Num.linesV ay b2).length := by unfold Num.rowsV; simp
  have hle := Num.linesV_len ay b2
  obtain ⟨i0, hi0, hz0, hz1, hz2⟩ := info_parts info_spot
  have HL := hide (fun w => linesBetween_any ay b2 w ha.2 hb.2)
  obtain ⟨L, hL⟩ : ∃ L, L = Num.linesV ay b2 := ⟨_, rfl⟩
  obtain ⟨R, hR⟩ : ∃ R, R = Num.rowsV ax ay bx b2 := ⟨_, rfl⟩
  rw [← hL] at HL hmem hll hle
  have hat1 : ∀ j (hj : j < L.length), R.take (j + 1) = R.take j ++ [(fun z => (Num.atV ax bx ay b2 z, z)) L[j]] := by rw [hR, hL]; exact hat0
  rw [← hR] at hll ⊢
  have HAt := hide hat1
  have HMem := hide hmem
  clear hL hR hat0 hat1 hmem
  go_enter Try.func131, Try.ntmps131
  go_wp2_with fail
  refine (HL.out _).mono ?_
  rintro e w1 ⟨vL, rfl, hb1, hown1⟩
  have hs1 : w.heap.size + 1 < w1.heap.size := by have := hb1.size; simp at this; omega
  have hB1 : Below (w.heap.size + 2) ((w.alloc (.cells #[.int .i64 ax, .int .i64 ay] 41)).alloc (.cells #[.int .i64 bx, .int .i64 b2] 41)) w1 := hb1.mono (by simp)
  obtain ⟨ao, capL, rfl, hao⟩ := owns_formN hown1
  have HO1 := hide hown1
  have HAo := hide hao
  obtain ⟨m2, hm2⟩ : ∃ m2, m2 = L.length := ⟨_, rfl⟩
  rw [← hm2] at hle hll ⊢
  have HM2 := hide hm2
  have hbl : ∀ g2, ao = some ⟨g2, 0, none⟩ → w.heap.size + 2 ≤ g2 ∧ g2 < w1.heap.size := fun g2 e => by
    have := hown1.lt g2 (by rw [e]; rfl)
    simp at this; omega
  have HBl := hide hbl
  clear hb1 hown1 hao hm2 hbl
  go_wp2_with fail
  go_loopw [5, 15] (fun v t wr => ∃ j : Nat, j ≤ m2 ∧ t = .int .i64 j ∧ w1.heap.size ≤ wr.heap.size ∧ Below (w.heap.size + 2) ((w.alloc (.cells #[.int .i64 ax, .int .i64 ay] 41)).alloc (.cells #[.int .i64 bx, .int .i64 b2] 41)) wr ∧ wr.ownsRow (w.heap.size + 2) 41 2 v j ((R.take j).flatMap spC) ∧ (j = 0 → v = .slice none 0 0) ∧ ∀ g2, ao = some ⟨g2, 0, none⟩ → v.ownBlock ≠ some g2 ∧ wr.heap[g2]? = w1.heap[g2]?) (fun _ t _ => m2 - (intOf t).toNat)
  case atStart => exact ⟨0, by omega, rfl, Nat.le_refl _, hB1, by simpa using World.ownsRow_nil _ _ _ _, fun _ => rfl, fun g2 _ => ⟨by simp [Value.ownBlock], rfl⟩⟩
  case round =>
    obtain ⟨v, rfl⟩ : ∃ v, v = u5 := ⟨_, rfl⟩
    obtain ⟨j, hj, rfl, hsr, hB, hown, hnil, hne⟩ := hrel
    by_cases hlt : j < m2
    · have hjl : j < L.length := by rw [← HM2.out]; exact hlt
      obtain ⟨g2, rfl⟩ := HAo.out (by omega)
      obtain ⟨hne2, hblk⟩ := hne g2 rfl
      obtain ⟨gl1, gl2⟩ := HBl.out g2 rfl
      have hO2 := owns_of_block (w' := wr) HO1.out (fun b hbb => by simp [Value.ownBlock] at hbb; subst hbb; exact hblk)
      have cz := owns_int hO2 j hjl
      have hzm := HMem.out _ (List.getElem_mem hjl)
      have HTk := hide (HAt.out j hjl)
      obtain ⟨z, hz⟩ : ∃ z, z = L[j] := ⟨_, rfl⟩
      rw [← hz] at cz hzm HTk
      clear hO2 hz
      have zb : -16384 ≤ z ∧ z ≤ 16384 := by omega
      have hpq : ay ≠ b2 := by omega
      have HC := hide (fun w => meet_any z ay b2 ax bx w hpq zb ha.2 hb.2 ha.1 hb.1)
      obtain ⟨m, hm⟩ : ∃ m, m = Num.atV ax bx ay b2 z := ⟨_, rfl⟩
      rw [← hm] at HC
      have HTk2 : Hid (R.take (j + 1) = R.take j ++ [(m, z)]) := by unfold Hid; rw [HTk.out, hm]
      have hd1 : decide ((j : Int) < (m2 : Int)) = true := by simp; omega
      have sz0 : w.heap.size < wr.heap.size := by omega
      have sz1 : w.heap.size + 1 < wr.heap.size := by omega
      have a0 : wr.cell? ⟨w.heap.size, 0, none⟩ = some (.int .i64 ax) := (hB.cell (p := ⟨w.heap.size, 0, none⟩) (by simp)).trans (by go_simp)
      have a1 : wr.cell? ⟨w.heap.size, 1, none⟩ = some (.int .i64 ay) := (hB.cell (p := ⟨w.heap.size, 1, none⟩) (by simp)).trans (by go_simp)
      have e0 : wr.cell? ⟨w.heap.size + 1, 0, none⟩ = some (.int .i64 bx) := (hB.cell (p := ⟨w.heap.size + 1, 0, none⟩) (by simp)).trans (by go_simp)
      have e1 : wr.cell? ⟨w.heap.size + 1, 1, none⟩ = some (.int .i64 b2) := (hB.cell (p := ⟨w.heap.size + 1, 1, none⟩) (by simp)).trans (by go_simp)
      obtain ⟨xs, hxs⟩ : ∃ xs, xs = (R.take j).flatMap spC := ⟨_, rfl⟩
      rw [← hxs] at hown
      have HX := hide hxs
      have HNe := hide hne2
      have HBk := hide hblk
      clear hm hzm HTk hxs hne hne2 hblk hnil zb hpq
      go_wp2_with fail
      refine (HC.out _).mono ?_
      rintro e w' ⟨rfl, rfl⟩
      go_wp2_with (at_builtin; refine wpList_append_lies _ rfl _ _ 48 rfl (w.heap.size + 2) 41 i0 (.agg #[.int .i64 0, .int .i64 0]) 2 16 Try.underlying48 hi0 hz0 hz1 hz2 rfl (by omega) v j xs rfl (hown.alloc _) ⟨w'.heap.size, 0, none⟩ 1 1 [.int .i64 m, .int .i64 z] rfl rfl ?e1 ?e2 (by omega) ?e3 ?e4 ?e5 (w'.heap.size + 1) (by simp) ?_)
      try (case e1 => exact news_sp w' [.int .i64 m, .int .i64 z] _ _ rfl)
      case e2 => first | exact one_two _ _ | exact ⟨rfl, rfl⟩
      case e3 => unfold maxLen; omega
      case e4 => omega
      case e5 => first | omega | (simp; omega)
      intro g cap w4 hown4 hgrow hat hlt4
      have hb4 : Below (w.heap.size + 2) ((w.alloc (.cells #[.int .i64 ax, .int .i64 ay] 41)).alloc (.cells #[.int .i64 bx, .int .i64 b2] 41)) w4 := (hB.alloc (by omega) _).grown hgrow (by simp; omega) (fun q hq => (hown.lt q hq).1)
      have hs4 : w1.heap.size ≤ w4.heap.size := by have := hgrow.size; rw [nblk_alloc] at this; omega
      have HO4 : Hid (w4.ownsRow (w.heap.size + 2) 41 2 (.slice (some ⟨g, 0, none⟩) (j + 1) cap) (j + 1) ((R.take (j + 1)).flatMap spC)) := by
        unfold Hid
        have := push_sp (l := R.take j) (l' := R.take (j + 1)) (p := (m, z)) (m := j + 1) (by rw [← HX.out]; exact hown4) HTk2.out (by rw [List.length_take, hll]; omega)
        rw [List.length_take, hll, Nat.min_eq_left (by omega)] at this
        exact this
      have HNe2 : Hid ((Value.slice (some ⟨g, 0, none⟩) (j + 1) cap).ownBlock ≠ some g2) := by
        unfold Hid
        intro e
        simp [Value.ownBlock] at e
        rcases hat with hat | hat
        · exact HNe.out (by rw [hat, e])
        · omega
      have HBk2 : Hid (w4.heap[g2]? = w1.heap[g2]?) := by
        unfold Hid
        rw [hgrow.block g2 (by rw [nblk_alloc]; omega) (fun e => HNe.out e.symm), blk_alloc_lt _ _ _ (by omega)]
        exact HBk.out
      clear hown4 hgrow hat hown hB a0 a1 e0 e1 cz
      go_wp2
      go_roundw
      case rel => exact ⟨j + 1, by omega, by go_num, hs4, hb4, HO4.out, by omega, fun g3 e3 => by simp at e3; subst e3; exact ⟨HNe2.out, HBk2.out⟩⟩
      case measure => simp [intOf]; omega
    · have e : j = m2 := by omega
      have hd0 : decide ((j : Int) < (m2 : Int)) = false := by simp; omega
      have HO := hide hown
      have HB := hide hB
      have HNil := hide hnil
      clear hown hB hne hnil
      go_wp2
      go_ret
      refine ⟨v, rfl, Below.trans (by (repeat (any_goals (first | exact Below.refl _ _ | assumption | refine Below.drew ?_ | refine below_drewN ?_ _ | refine Below.setCell ?_ ?_ _ | refine Below.alloc ?_ ?_ _ | omega | (simp; done) | (simp; omega))))) (HB.out.mono (by omega)), ?_, fun h => HNil.out (by omega)⟩
      have h := owns_mono (base' := w.heap.size) HO.out (by omega)
      rw [List.take_of_length_le (by omega)] at h
      rw [hll, ← e]
      exact h

theorem atCols_at {ax ay bx b2 : Int} {j : Nat} (hj : j < (Num.linesV ax bx).length) : (Num.colsV ax ay bx b2).take (j + 1) = (Num.colsV ax ay bx b2).take j ++ [(fun z => (z, Num.atV ay b2 ax bx z)) (Num.linesV ax bx)[j]] := by
  have hl : j < (Num.colsV ax ay bx b2).length := by unfold Num.colsV; simpa using hj
  rw [List.take_succ_eq_append_getElem hl]
  simp [Num.colsV]

set_option maxRecDepth 100000 in
set_option maxHeartbeats 2000000 in
theorem atCols_any (ax ay bx b2 : Int) (w : World) (ha : (-16384 ≤ ax ∧ ax ≤ 16384) ∧ -16384 ≤ ay ∧ ay ≤ 16384) (hb : (-16384 ≤ bx ∧ bx ≤ 16384) ∧ -16384 ≤ b2 ∧ b2 ≤ 16384) :
    Calls Try.prog 132 #[.agg #[.int .i64 ax, .int .i64 ay], .agg #[.int .i64 bx, .int .i64 b2]] w fun e w' => ∃ v, e = .returned v ∧ Below w.heap.size w w' ∧ w'.ownsRow w.heap.size 41 2 v (Num.colsV ax ay bx b2).length ((Num.colsV ax ay bx b2).flatMap spC) ∧ ((Num.colsV ax ay bx b2).length = 0 → v = .slice none 0 0) := by
  have hmem : ∀ z ∈ Num.linesV ax bx, (ax < z ∧ z < bx) ∨ (bx < z ∧ z < ax) := fun z hz => Num.linesV_mem hz
  have hat0 : ∀ j (hj : j < (Num.linesV ax bx).length), (Num.colsV ax ay bx b2).take (j + 1) = (Num.colsV ax ay bx b2).take j ++ [(fun z => (z, Num.atV ay b2 ax bx z)) (Num.linesV ax bx)[j]] := fun j hj => atCols_at hj
  have hll : (Num.colsV ax ay bx b2).length = (Num.linesV ax bx).length := by unfold Num.colsV; simp
  have hle := Num.linesV_len ax bx
  obtain ⟨i0, hi0, hz0, hz1, hz2⟩ := info_parts info_spot
  have HL := hide (fun w => linesBetween_any ax bx w ha.1 hb.1)
  obtain ⟨L, hL⟩ : ∃ L, L = Num.linesV ax bx := ⟨_, rfl⟩
  obtain ⟨R, hR⟩ : ∃ R, R = Num.colsV ax ay bx b2 := ⟨_, rfl⟩
  rw [← hL] at HL hmem hll hle
  have hat1 : ∀ j (hj : j < L.length), R.take (j + 1) = R.take j ++ [(fun z => (z, Num.atV ay b2 ax bx z)) L[j]] := by rw [hR, hL]; exact hat0
  rw [← hR] at hll ⊢
  have HAt := hide hat1
  have HMem := hide hmem
  clear hL hR hat0 hat1 hmem
  go_enter Try.func132, Try.ntmps132
  go_wp2_with fail
  refine (HL.out _).mono ?_
  rintro e w1 ⟨vL, rfl, hb1, hown1⟩
  have hs1 : w.heap.size + 1 < w1.heap.size := by have := hb1.size; simp at this; omega
  have hB1 : Below (w.heap.size + 2) ((w.alloc (.cells #[.int .i64 ax, .int .i64 ay] 41)).alloc (.cells #[.int .i64 bx, .int .i64 b2] 41)) w1 := hb1.mono (by simp)
  obtain ⟨ao, capL, rfl, hao⟩ := owns_formN hown1
  have HO1 := hide hown1
  have HAo := hide hao
  obtain ⟨m2, hm2⟩ : ∃ m2, m2 = L.length := ⟨_, rfl⟩
  rw [← hm2] at hle hll ⊢
  have HM2 := hide hm2
  have hbl : ∀ g2, ao = some ⟨g2, 0, none⟩ → w.heap.size + 2 ≤ g2 ∧ g2 < w1.heap.size := fun g2 e => by
    have := hown1.lt g2 (by rw [e]; rfl)
    simp at this; omega
  have HBl := hide hbl
  clear hb1 hown1 hao hm2 hbl
  go_wp2_with fail
  go_loopw [5, 15] (fun v t wr => ∃ j : Nat, j ≤ m2 ∧ t = .int .i64 j ∧ w1.heap.size ≤ wr.heap.size ∧ Below (w.heap.size + 2) ((w.alloc (.cells #[.int .i64 ax, .int .i64 ay] 41)).alloc (.cells #[.int .i64 bx, .int .i64 b2] 41)) wr ∧ wr.ownsRow (w.heap.size + 2) 41 2 v j ((R.take j).flatMap spC) ∧ (j = 0 → v = .slice none 0 0) ∧ ∀ g2, ao = some ⟨g2, 0, none⟩ → v.ownBlock ≠ some g2 ∧ wr.heap[g2]? = w1.heap[g2]?) (fun _ t _ => m2 - (intOf t).toNat)
  case atStart => exact ⟨0, by omega, rfl, Nat.le_refl _, hB1, by simpa using World.ownsRow_nil _ _ _ _, fun _ => rfl, fun g2 _ => ⟨by simp [Value.ownBlock], rfl⟩⟩
  case round =>
    obtain ⟨v, rfl⟩ : ∃ v, v = u5 := ⟨_, rfl⟩
    obtain ⟨j, hj, rfl, hsr, hB, hown, hnil, hne⟩ := hrel
    by_cases hlt : j < m2
    · have hjl : j < L.length := by rw [← HM2.out]; exact hlt
      obtain ⟨g2, rfl⟩ := HAo.out (by omega)
      obtain ⟨hne2, hblk⟩ := hne g2 rfl
      obtain ⟨gl1, gl2⟩ := HBl.out g2 rfl
      have hO2 := owns_of_block (w' := wr) HO1.out (fun b hbb => by simp [Value.ownBlock] at hbb; subst hbb; exact hblk)
      have cz := owns_int hO2 j hjl
      have hzm := HMem.out _ (List.getElem_mem hjl)
      have HTk := hide (HAt.out j hjl)
      obtain ⟨z, hz⟩ : ∃ z, z = L[j] := ⟨_, rfl⟩
      rw [← hz] at cz hzm HTk
      clear hO2 hz
      have zb : -16384 ≤ z ∧ z ≤ 16384 := by omega
      have hpq : ax ≠ bx := by omega
      have HC := hide (fun w => meet_any z ax bx ay b2 w hpq zb ha.1 hb.1 ha.2 hb.2)
      obtain ⟨m, hm⟩ : ∃ m, m = Num.atV ay b2 ax bx z := ⟨_, rfl⟩
      rw [← hm] at HC
      have HTk2 : Hid (R.take (j + 1) = R.take j ++ [(z, m)]) := by unfold Hid; rw [HTk.out, hm]
      have hd1 : decide ((j : Int) < (m2 : Int)) = true := by simp; omega
      have sz0 : w.heap.size < wr.heap.size := by omega
      have sz1 : w.heap.size + 1 < wr.heap.size := by omega
      have a0 : wr.cell? ⟨w.heap.size, 0, none⟩ = some (.int .i64 ax) := (hB.cell (p := ⟨w.heap.size, 0, none⟩) (by simp)).trans (by go_simp)
      have a1 : wr.cell? ⟨w.heap.size, 1, none⟩ = some (.int .i64 ay) := (hB.cell (p := ⟨w.heap.size, 1, none⟩) (by simp)).trans (by go_simp)
      have e0 : wr.cell? ⟨w.heap.size + 1, 0, none⟩ = some (.int .i64 bx) := (hB.cell (p := ⟨w.heap.size + 1, 0, none⟩) (by simp)).trans (by go_simp)
      have e1 : wr.cell? ⟨w.heap.size + 1, 1, none⟩ = some (.int .i64 b2) := (hB.cell (p := ⟨w.heap.size + 1, 1, none⟩) (by simp)).trans (by go_simp)
      obtain ⟨xs, hxs⟩ : ∃ xs, xs = (R.take j).flatMap spC := ⟨_, rfl⟩
      rw [← hxs] at hown
      have HX := hide hxs
      have HNe := hide hne2
      have HBk := hide hblk
      clear hm hzm HTk hxs hne hne2 hblk hnil zb hpq
      go_wp2_with fail
      refine (HC.out _).mono ?_
      rintro e w' ⟨rfl, rfl⟩
      go_wp2_with (at_builtin; refine wpList_append_lies _ rfl _ _ 48 rfl (w.heap.size + 2) 41 i0 (.agg #[.int .i64 0, .int .i64 0]) 2 16 Try.underlying48 hi0 hz0 hz1 hz2 rfl (by omega) v j xs rfl (hown.alloc _) ⟨w'.heap.size, 0, none⟩ 1 1 [.int .i64 z, .int .i64 m] rfl rfl ?e1 ?e2 (by omega) ?e3 ?e4 ?e5 (w'.heap.size + 1) (by simp) ?_)
      try (case e1 => exact news_sp w' [.int .i64 z, .int .i64 m] _ _ rfl)
      case e2 => first | exact one_two _ _ | exact ⟨rfl, rfl⟩
      case e3 => unfold maxLen; omega
      case e4 => omega
      case e5 => first | omega | (simp; omega)
      intro g cap w4 hown4 hgrow hat hlt4
      have hb4 : Below (w.heap.size + 2) ((w.alloc (.cells #[.int .i64 ax, .int .i64 ay] 41)).alloc (.cells #[.int .i64 bx, .int .i64 b2] 41)) w4 := (hB.alloc (by omega) _).grown hgrow (by simp; omega) (fun q hq => (hown.lt q hq).1)
      have hs4 : w1.heap.size ≤ w4.heap.size := by have := hgrow.size; rw [nblk_alloc] at this; omega
      have HO4 : Hid (w4.ownsRow (w.heap.size + 2) 41 2 (.slice (some ⟨g, 0, none⟩) (j + 1) cap) (j + 1) ((R.take (j + 1)).flatMap spC)) := by
        unfold Hid
        have := push_sp (l := R.take j) (l' := R.take (j + 1)) (p := (z, m)) (m := j + 1) (by rw [← HX.out]; exact hown4) HTk2.out (by rw [List.length_take, hll]; omega)
        rw [List.length_take, hll, Nat.min_eq_left (by omega)] at this
        exact this
      have HNe2 : Hid ((Value.slice (some ⟨g, 0, none⟩) (j + 1) cap).ownBlock ≠ some g2) := by
        unfold Hid
        intro e
        simp [Value.ownBlock] at e
        rcases hat with hat | hat
        · exact HNe.out (by rw [hat, e])
        · omega
      have HBk2 : Hid (w4.heap[g2]? = w1.heap[g2]?) := by
        unfold Hid
        rw [hgrow.block g2 (by rw [nblk_alloc]; omega) (fun e => HNe.out e.symm), blk_alloc_lt _ _ _ (by omega)]
        exact HBk.out
      clear hown4 hgrow hat hown hB a0 a1 e0 e1 cz
      go_wp2
      go_roundw
      case rel => exact ⟨j + 1, by omega, by go_num, hs4, hb4, HO4.out, by omega, fun g3 e3 => by simp at e3; subst e3; exact ⟨HNe2.out, HBk2.out⟩⟩
      case measure => simp [intOf]; omega
    · have e : j = m2 := by omega
      have hd0 : decide ((j : Int) < (m2 : Int)) = false := by simp; omega
      have HO := hide hown
      have HB := hide hB
      have HNil := hide hnil
      clear hown hB hne hnil
      go_wp2
      go_ret
      refine ⟨v, rfl, Below.trans (by (repeat (any_goals (first | exact Below.refl _ _ | assumption | refine Below.drew ?_ | refine below_drewN ?_ _ | refine Below.setCell ?_ ?_ _ | refine Below.alloc ?_ ?_ _ | omega | (simp; done) | (simp; omega))))) (HB.out.mono (by omega)), ?_, fun h => HNil.out (by omega)⟩
      have h := owns_mono (base' := w.heap.size) HO.out (by omega)
      rw [List.take_of_length_le (by omega)] at h
      rw [hll, ← e]
      exact h

end Go.Proofs.Ytkhcjkmifddlbaa
