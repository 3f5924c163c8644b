/- The caller's lists: ink, lend. -/
import Derived.Test.YtkhcjkmifddlbaaLists
import Derived.Test.YtkhcjkmifddlbaaPlace
namespace Go.Proofs.Ytkhcjkmifddlbaa
open Go.RowKit Go.Deep

theorem info_ptslice : (Try.prog.info? 62).map (fun i => (i.zero, i.size, i.bytes)) = some (some (.slice none 0 0), 1, 24) := by kernel_rfl
theorem info_pt : (Try.prog.info? 133).map (fun i => (i.zero, i.size, i.bytes)) = some (some (.agg #[.int .i64 0, .int .i64 0, .int .i64 0]), 3, 24) := by kernel_rfl

theorem mk_outer (N : Nat) (hN : N ≤ 4294967296) (w : World) : (Instr.makeSlice 22 (.int .i64 ((N : Int) + 2)) (.int .i64 ((N : Int) + 2))).run Try.prog w = .ok (.slice (some ⟨w.heap.size, 0, none⟩) (N + 2) (N + 2)) (w.alloc (.cells (madeCells #[.slice none 0 0] (N + 2)) 62)) := by
  obtain ⟨i, hi, hz0, hz1, hz2⟩ := info_parts info_ptslice
  have h := run_make (P := Try.prog) w 22 62 i _ Try.underlying22 hi hz0 .i64 .i64 ((N : Int) + 2) ((N : Int) + 2) (by omega) (Int.le_refl _) (by rw [hz2]; omega) (by omega)
  rw [hz1, show ((N : Int) + 2).toNat = N + 2 by omega] at h
  simpa [Value.cells] using h
theorem mk_inner (N : Nat) (hN : N ≤ 4294967296) (w : World) : (Instr.makeSlice 62 (.int .i64 ((N : Int) + 2)) (.int .i64 ((N : Int) + 2))).run Try.prog w = .ok (.slice (some ⟨w.heap.size, 0, none⟩) (N + 2) (N + 2)) (w.alloc (.cells (madeCells #[.int .i64 0, .int .i64 0, .int .i64 0] ((N + 2) * 3)) 133)) := by
  obtain ⟨i, hi, hz0, hz1, hz2⟩ := info_parts info_pt
  have h := run_make (P := Try.prog) w 62 133 i _ Try.underlying62 hi hz0 .i64 .i64 ((N : Int) + 2) ((N : Int) + 2) (by omega) (Int.le_refl _) (by rw [hz2]; omega) (by omega)
  rw [hz1, show ((N : Int) + 2).toNat = N + 2 by omega] at h
  simpa [Value.cells] using h

set_option maxHeartbeats 400000 in
theorem ink_any (w : World) :
    Calls Try.prog 82 #[] w fun e w' => e = .returned (.agg #[.int .i64 1099511627776, .int .i64 (-7), .int .i64 9]) ∧ Below w.heap.size w w' := by
  go_enter Try.func82, Try.ntmps82
  go_wp2
  refine bodyPost_ret (v := .agg #[.int .i64 1099511627776, .int .i64 (-7), .int .i64 9]) (by simp [results, Try.results82, go_sem]) rfl ⟨rfl, ?_⟩
  (repeat (any_goals (first | exact Below.refl _ _ | assumption | refine Below.drew ?_ | refine below_drewN ?_ _ | refine Below.setCell ?_ ?_ _ | refine Below.alloc ?_ ?_ _ | omega | (simp; done) | (simp; omega))))

theorem mk_two (w : World) : (Instr.makeSlice 62 (.int .i64 2) (.int .i64 2)).run Try.prog w = .ok (.slice (some ⟨w.heap.size, 0, none⟩) 2 2) (w.alloc (.cells (madeCells #[.int .i64 0, .int .i64 0, .int .i64 0] 6) 133)) := by
  simpa using mk_inner 0 (by omega) w

/-- One list of lend's: the loop that fills it. -/
def filled (l k : Nat) (X Y K : Nat → Int) (q : Nat) : Value := pc (fun j => if j < k then lx l X j else 0) (fun j => if j < k then ly l Y j else 0) (fun j => if j < k then lk l K j else 0) q

theorem filled_step {w : World} {b m l j : Nat} {t : TypeId} {X Y K : Nat → Int} (h : w.rowIs b t (m * 3) (filled l j X Y K)) {x y z : Int} (hx : x = lx l X j) (hy : y = ly l Y j) (hz : z = lk l K j) :
    (((w.setCell ⟨b, j * 3, none⟩ (.int .i64 x)).setCell ⟨b, j * 3 + 1, none⟩ (.int .i64 y)).setCell ⟨b, j * 3 + 2, none⟩ (.int .i64 z)).rowIs b t (m * 3) (filled l (j + 1) X Y K) := by
  refine (row_setPt (X := fun i => if i < j then lx l X i else 0) (Y := fun i => if i < j then ly l Y i else 0) (K := fun i => if i < j then lk l K i else 0) h j x y z).congr fun q hq => ?_
  unfold filled
  refine pc_congr (m := m) (fun i _ => ?_) q hq
  by_cases e : i = j
  · subst e; simp [hx, hy, hz]
  · by_cases e2 : i < j
    · simp [e, e2, show i < j + 1 by omega]
    · simp [e, e2, show ¬ i < j + 1 by omega]
theorem filled_start (w : World) (l : Nat) (t : TypeId) (X Y K : Nat → Int) : (w.alloc (.cells (madeCells #[.int .i64 0, .int .i64 0, .int .i64 0] ((l + 2) * 3)) t)).rowIs w.heap.size t ((l + 2) * 3) (filled l 0 X Y K) := by
  refine (row_made3 w (l + 2) t).congr fun q hq => ?_
  unfold filled
  exact pc_congr (m := l + 2) (fun i _ => by simp) q hq
theorem filled_done {w : World} {b l : Nat} {t : TypeId} {X Y K : Nat → Int} (h : w.rowIs b t ((l + 2) * 3) (filled l (l + 2) X Y K)) : w.rowIs b t ((l + 2) * 3) (pc (lx l X) (ly l Y) (lk l K)) := by
  refine h.congr fun q hq => ?_
  unfold filled
  exact pc_congr (m := l + 2) (fun i hi => by simp [hi]) q hq

theorem lend_step {S N k l : Nat} {n B : Nat → Nat} {X Y K : Nat → Nat → Int} {wo wr : World} (hk : k < N + 2) (hl : ln N n k = l)
    (hrow : wo.rowIs S 62 (N + 2) (fun i => if i < k then .slice (some ⟨B i, 0, none⟩) (ln N n i) (ln N n i + 2) else .slice none 0 0))
    (h3 : (∀ i, i < k → S ≤ B i) ∧ (∀ i j, i < k → j < k → B i = B j → i = j) ∧ (∀ i, i < k → wo.rowIs (B i) 133 ((ln N n i + 2) * 3) (pc (lx (ln N n i) (X i)) (ly (ln N n i) (Y i)) (lk (ln N n i) (K i)))))
    (hbq : Below wo.heap.size wo wr) (hq : wr.rowIs wo.heap.size 133 ((l + 2) * 3) (pc (lx l (X k)) (ly l (Y k)) (lk l (K k)))) :
    ∃ B' : Nat → Nat, (wr.setCell ⟨S, k, none⟩ (.slice (some ⟨wo.heap.size, 0, none⟩) l (l + 2))).rowIs S 62 (N + 2) (fun i => if i < k + 1 then .slice (some ⟨B' i, 0, none⟩) (ln N n i) (ln N n i + 2) else .slice none 0 0) ∧
      (∀ i, i < k + 1 → S ≤ B' i) ∧ (∀ i j, i < k + 1 → j < k + 1 → B' i = B' j → i = j) ∧
      (∀ i, i < k + 1 → (wr.setCell ⟨S, k, none⟩ (.slice (some ⟨wo.heap.size, 0, none⟩) l (l + 2))).rowIs (B' i) 133 ((ln N n i + 2) * 3) (pc (lx (ln N n i) (X i)) (ly (ln N n i) (Y i)) (lk (ln N n i) (K i)))) := by
  obtain ⟨hge, hinj, hin⟩ := h3
  have hS := hrow.lt
  refine ⟨fun i => if i = k then wo.heap.size else B i, ?_, ?_, ?_, ?_⟩
  · refine ((row_below hrow hbq hS).set k _).congr fun i hi => ?_
    by_cases e : i = k
    · subst e; simp [hl]
    · by_cases e2 : i < k
      · simp [e, e2, show i < k + 1 by omega]
      · simp [e, e2, show ¬ i < k + 1 by omega]
  · intro i hi
    by_cases e : i = k
    · simp [e]; omega
    · simp [e]; exact hge i (by omega)
  · intro i j hi hj
    by_cases e : i = k <;> by_cases e' : j = k
    · intro; omega
    · simp [e, e']; intro h; have := (hin j (by omega)).lt; omega
    · simp [e, e']; intro h; have := (hin i (by omega)).lt; omega
    · simp [e, e']; exact hinj i j (by omega) (by omega)
  · intro i hi
    by_cases e : i = k
    · subst e
      simp only [if_pos, hl]
      exact hq.setOther (by simp; omega) _
    · simp only [if_neg e]
      have h := hin i (by omega)
      exact (row_below h hbq h.lt).setOther (by simpa using row_ne h hrow (by decide)) _

set_option maxHeartbeats 1000000 in
theorem lend_any (a : Option Addr) (N c : Nat) (A : Nat → Option Addr) (C n : Nat → Nat) (X Y K : Nat → Nat → Int) (w : World) (hN : N ≤ 4294967295) (hn : ∀ i, i < N → n i ≤ 4294967295) (ho : OutAt w a N A C n X Y K) :
    Calls Try.prog 44 #[.slice a N c] w fun e w' => e = .returned (.slice (some ⟨w.heap.size, 0, none⟩) N (N + 2)) ∧ Below w.heap.size w w' ∧ ∃ B, Lent w' w.heap.size w.heap.size N B n X Y K := by
  have HN := hide hn
  have HO := hide ho
  clear hn ho
  have hmk := mk_outer N (by omega)
  go_enter Try.func44, Try.ntmps44
  go_wp2_with fail
  go_loopw [4] (fun i wr => ∃ k : Nat, k ≤ N + 2 ∧ i = .int .i64 k ∧ Below w.heap.size w wr ∧ ∃ B : Nat → Nat, wr.rowIs w.heap.size 62 (N + 2) (fun i => if i < k then .slice (some ⟨B i, 0, none⟩) (ln N n i) (ln N n i + 2) else .slice none 0 0) ∧
      (∀ i, i < k → w.heap.size ≤ B i) ∧ (∀ i j, i < k → j < k → B i = B j → i = j) ∧ (∀ i, i < k → wr.rowIs (B i) 133 ((ln N n i + 2) * 3) (pc (lx (ln N n i) (X i)) (ly (ln N n i) (Y i)) (lk (ln N n i) (K i))))) (fun i _ => N + 2 - (intOf i).toNat)
  case atStart =>
    refine ⟨0, by omega, rfl, by (repeat (any_goals (first | exact Below.refl _ _ | assumption | refine Below.drew ?_ | refine below_drewN ?_ _ | refine Below.setCell ?_ ?_ _ | refine Below.alloc ?_ ?_ _ | omega | (simp; done) | (simp; omega)))), fun _ => 0, ?_, by omega, by omega, by omega⟩
    exact (World.rowIs_made w (.slice none 0 0) (N + 2) 62).congr (fun i _ => by simp)
  case round =>
    obtain ⟨wo, rfl⟩ : ∃ wo, wo = wr := ⟨wr, rfl⟩
    obtain ⟨k, hk, rfl, hb, B, hrow, hge, hinj, hin⟩ := hrel
    have HB := hide (And.intro hge (And.intro hinj hin))
    clear hge hinj hin
    have hsz := hb.size
    have hsz2 : w.heap.size < wo.heap.size := hrow.lt
    by_cases hlt : k < N + 2
    · have HO2 := hide (HO.out.below hb)
      have hd1 : decide ((k : Int) < (N : Int) + 2) = true := by simp; omega
      by_cases hkN : k < N
      · rcases HO2.out.1 with h | ⟨b, off, rfl, hc⟩
        · omega
        have ci := hc k hkN
        have hbl : b < wo.heap.size := World.block_lt_of_cell? wo _ ci
        clear hc
        have hnk := HN.out k hkN
        have hmi := mk_inner (n k) (by omega)
        have hln : ln N n k = n k := by unfold ln; rw [if_pos hkN]
        go_wp2_with fail
        go_loopw [7] (fun i wr => ∃ j : Nat, j ≤ n k + 2 ∧ i = .int .i64 j ∧ wo.heap.size < wr.heap.size ∧ Below wo.heap.size wo wr ∧ wr.rowIs wo.heap.size 133 ((n k + 2) * 3) (filled (n k) j (X k) (Y k) (K k))) (fun i _ => n k + 2 - (intOf i).toNat)
        case atStart => exact ⟨0, by omega, rfl, by simp, by (repeat (any_goals (first | exact Below.refl _ _ | assumption | refine Below.drew ?_ | refine below_drewN ?_ _ | refine Below.setCell ?_ ?_ _ | refine Below.alloc ?_ ?_ _ | omega | (simp; done) | (simp; omega)))), filled_start _ _ _ _ _ _⟩
        case round =>
          obtain ⟨j, hj, rfl, hsq, hbq, hrq⟩ := hrel
          have z0 := hrq.frozen (j * 3)
          have z1 := hrq.frozen (j * 3 + 1)
          have z2 := hrq.frozen (j * 3 + 2)
          by_cases hj2 : j < n k + 2
          · obtain ⟨q0, q1, q2⟩ := row_cells (X := fun i => if i < j then lx (n k) (X k) i else 0) (Y := fun i => if i < j then ly (n k) (Y k) i else 0) (K := fun i => if i < j then lk (n k) (K k) i else 0) hrq j hj2
            have HQ := hide hrq
            clear hrq
            have hd2 : decide ((j : Int) < (n k : Int) + 2) = true := by simp; omega
            have ci2 : wr.cell? ⟨b, off + k, none⟩ = some (.slice (A k) (n k) (C k)) := (hbq.cell (p := ⟨b, _, none⟩) hbl).trans ci
            by_cases hjn : j < n k
            · rcases HO2.out.2 k hkN with h | ⟨b2, off2, ha, hc2⟩
              · omega
              rw [ha] at ci2
              obtain ⟨d0, d1, d2⟩ := hc2 j hjn
              have hbl2 : b2 < wo.heap.size := World.block_lt_of_cell? wo _ d0
              have d0' := (hbq.cell (p := ⟨b2, _, none⟩) hbl2).trans d0
              have d1' := (hbq.cell (p := ⟨b2, _, none⟩) hbl2).trans d1
              have d2' := (hbq.cell (p := ⟨b2, _, none⟩) hbl2).trans d2
              clear hc2 ha d0 d1 d2
              go_wp2
              go_roundw
              case rel => exact ⟨j + 1, by omega, by go_num, by simpa using hsq, by (repeat (any_goals (first | exact Below.refl _ _ | assumption | refine Below.drew ?_ | refine below_drewN ?_ _ | refine Below.setCell ?_ ?_ _ | refine Below.alloc ?_ ?_ _ | omega | (simp; done) | (simp; omega)))), filled_step HQ.out (by simp [lx, hjn]) (by simp [ly, hjn]) (by simp [lk, hjn])⟩
              case measure => simp [intOf]; omega
            · go_wp2_with fail
              refine (ink_any _).mono ?_
              rintro e w1 ⟨rfl, hb1⟩
              obtain ⟨hc1, hf1⟩ := bcell hb1
              have hsz1 := hb1.size
              have g0 := (hc1 wo.heap.size (j * 3) (by omega)).trans q0
              have g1 := (hc1 wo.heap.size (j * 3 + 1) (by omega)).trans q1
              have g2 := (hc1 wo.heap.size (j * 3 + 2) (by omega)).trans q2
              have y0 := (hf1 wo.heap.size (j * 3) (by omega)).trans z0
              have y1 := (hf1 wo.heap.size (j * 3 + 1) (by omega)).trans z1
              have y2 := (hf1 wo.heap.size (j * 3 + 2) (by omega)).trans z2
              have HQ1 := hide (row_below HQ.out hb1 (by omega))
              have hb2 : Below wo.heap.size wo w1 := hbq.trans (hb1.mono (by omega))
              clear hc1 hf1 hb1 hbq q0 q1 q2 z0 z1 z2 ci2
              go_wp2
              go_roundw
              case rel => exact ⟨j + 1, by omega, by go_num, by simp; omega, by (repeat (any_goals (first | exact Below.refl _ _ | assumption | refine Below.drew ?_ | refine below_drewN ?_ _ | refine Below.setCell ?_ ?_ _ | refine Below.alloc ?_ ?_ _ | omega | (simp; done) | (simp; omega)))), filled_step HQ1.out (by simp [lx, hjn]) (by simp [ly, hjn]) (by simp [lk, hjn])⟩
              case measure => simp [intOf]; omega
          · have e : j = n k + 2 := by omega
            subst e
            have HQ := hide (filled_done hrq)
            clear hrq z0 z1 z2
            have hrow2 := row_below hrow hbq (by omega)
            have o0 := hrow2.cell (i := k) hlt
            have o1 := hrow2.frozen k
            have HR := hide (lend_step hlt hln hrow HB.out hbq HQ.out)
            have hb5 : Below w.heap.size w wr := hb.trans (hbq.mono (by omega))
            clear hrow2 hrow hbq
            go_wp2
            go_roundw
            case rel => exact ⟨k + 1, by omega, by go_num, by (repeat (any_goals (first | exact Below.refl _ _ | assumption | refine Below.drew ?_ | refine below_drewN ?_ _ | refine Below.setCell ?_ ?_ _ | refine Below.alloc ?_ ?_ _ | omega | (simp; done) | (simp; omega)))), HR.out⟩
            case measure => simp [intOf]; omega
      · have hln : ln N n k = 0 := by unfold ln; rw [if_neg hkN]
        have hmi := mk_two
        go_wp2_with fail
        go_loopw [7] (fun i wr => ∃ j : Nat, j ≤ 2 ∧ i = .int .i64 j ∧ wo.heap.size < wr.heap.size ∧ Below wo.heap.size wo wr ∧ wr.rowIs wo.heap.size 133 ((0 + 2) * 3) (filled 0 j (X k) (Y k) (K k))) (fun i _ => 2 - (intOf i).toNat)
        case atStart => exact ⟨0, by omega, rfl, by simp, by (repeat (any_goals (first | exact Below.refl _ _ | assumption | refine Below.drew ?_ | refine below_drewN ?_ _ | refine Below.setCell ?_ ?_ _ | refine Below.alloc ?_ ?_ _ | omega | (simp; done) | (simp; omega)))), filled_start _ 0 _ _ _ _⟩
        case round =>
          obtain ⟨j, hj, rfl, hsq, hbq, hrq⟩ := hrel
          have z0 := hrq.frozen (j * 3)
          have z1 := hrq.frozen (j * 3 + 1)
          have z2 := hrq.frozen (j * 3 + 2)
          by_cases hj2 : j < 2
          · obtain ⟨q0, q1, q2⟩ := row_cells (X := fun i => if i < j then lx 0 (X k) i else 0) (Y := fun i => if i < j then ly 0 (Y k) i else 0) (K := fun i => if i < j then lk 0 (K k) i else 0) hrq j hj2
            have HQ := hide hrq
            clear hrq
            have hd2 : decide ((j : Int) < 2) = true := by simp; omega
            have hd3 : decide ((j : Int) < 0) = false := by simp
            go_wp2_with fail
            refine (ink_any _).mono ?_
            rintro e w1 ⟨rfl, hb1⟩
            obtain ⟨hc1, hf1⟩ := bcell hb1
            have hsz1 := hb1.size
            have g0 := (hc1 wo.heap.size (j * 3) (by omega)).trans q0
            have g1 := (hc1 wo.heap.size (j * 3 + 1) (by omega)).trans q1
            have g2 := (hc1 wo.heap.size (j * 3 + 2) (by omega)).trans q2
            have y0 := (hf1 wo.heap.size (j * 3) (by omega)).trans z0
            have y1 := (hf1 wo.heap.size (j * 3 + 1) (by omega)).trans z1
            have y2 := (hf1 wo.heap.size (j * 3 + 2) (by omega)).trans z2
            have HQ1 := hide (row_below HQ.out hb1 (by omega))
            have hb2 : Below wo.heap.size wo w1 := hbq.trans (hb1.mono (by omega))
            clear hc1 hf1 hb1 hbq q0 q1 q2 z0 z1 z2
            go_wp2
            go_roundw
            case rel => exact ⟨j + 1, by omega, by go_num, by simp; omega, by (repeat (any_goals (first | exact Below.refl _ _ | assumption | refine Below.drew ?_ | refine below_drewN ?_ _ | refine Below.setCell ?_ ?_ _ | refine Below.alloc ?_ ?_ _ | omega | (simp; done) | (simp; omega)))), filled_step HQ1.out (by simp [lx]) (by simp [ly]) (by simp [lk])⟩
            case measure => simp [intOf]; omega
          · have e : j = 2 := by omega
            subst e
            have HQ := hide (filled_done (l := 0) hrq)
            clear hrq z0 z1 z2
            have hrow2 := row_below hrow hbq (by omega)
            have o0 := hrow2.cell (i := k) hlt
            have o1 := hrow2.frozen k
            have HR := hide (lend_step hlt hln hrow HB.out hbq HQ.out)
            have hb5 : Below w.heap.size w wr := hb.trans (hbq.mono (by omega))
            clear hrow2 hrow hbq
            go_wp2
            go_roundw
            case rel => exact ⟨k + 1, by omega, by go_num, by (repeat (any_goals (first | exact Below.refl _ _ | assumption | refine Below.drew ?_ | refine below_drewN ?_ _ | refine Below.setCell ?_ ?_ _ | refine Below.alloc ?_ ?_ _ | omega | (simp; done) | (simp; omega)))), HR.out⟩
            case measure => simp [intOf]; omega
    · have e : k = N + 2 := by omega
      subst e
      obtain ⟨hge, hinj, hin⟩ := HB.out
      have HL : Hid (Lent wo w.heap.size w.heap.size N B n X Y K) := ⟨hrow.congr (fun i hi => by simp [hi]), Nat.le_refl _, hge, hinj, hin⟩
      clear hge hinj hin hrow
      go_wp2
      go_ret
      exact ⟨rfl, hb, B, HL.out⟩
end Go.Proofs.Ytkhcjkmifddlbaa
