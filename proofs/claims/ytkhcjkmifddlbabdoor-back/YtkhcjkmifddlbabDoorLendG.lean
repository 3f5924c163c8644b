/- The caller's pictures: lendGray, lentGray. -/
import Derived.Test.YtkhcjkmifddlbabDoorHeldY
import Derived.Laws.CopyOwn
namespace Go.Proofs.YtkhcjkmifddlbabDoor
open Go.RowKit Go.Deep

theorem info_u8g : (Tryd.prog.info? 5).map (fun i => (i.zero, i.size, i.bytes)) = some (some (.int .u8 0), 1, 1) := by kernel_rfl
theorem mk_bytes (n : Nat) (hn : n ≤ 140737488355328) (w : World) : (Instr.makeSlice 22 (.int .i64 ((n : Int) + 2)) (.int .i64 ((n : Int) + 2))).run Tryd.prog w = .ok (.slice (some ⟨w.heap.size, 0, none⟩) (n + 2) (n + 2)) (w.alloc (.cells (madeCells #[.int .u8 0] (n + 2)) 5)) := by
  obtain ⟨i, hi, hz0, hz1, hz2⟩ := info_parts info_u8g
  have h := run_make (P := Tryd.prog) w 22 5 i _ Tryd.underlying22 hi hz0 .i64 .i64 ((n : Int) + 2) ((n : Int) + 2) (by omega) (Int.le_refl _) (by rw [hz2]; omega) (by omega)
  rw [hz1, show ((n : Int) + 2).toNat = n + 2 by omega] at h
  simpa [Value.cells] using h

/-- What lies in a list that was lent: the bytes, and ink behind them. -/
def lentB (n : Nat) (X : Nat → Int) (k : Nat) : Value := .int .u8 (if k < n then X k else 195)
def cutB (n : Nat) (X : Nat → Int) : List Value := (List.range n).map fun k => .int .u8 (X k)
theorem cutB_len (n : Nat) (X : Nat → Int) : (cutB n X).length = n := by simp [cutB]

theorem info_sz : (Tryd.prog.info? 5).map (·.size) = some 1 := by kernel_rfl

/-- The row behind the copy: the bytes, and noughts behind them. -/
theorem splice_cell (n i : Nat) (X : Nat → Int) (hi : i < n + 2) : (splice (madeCells #[Value.int .u8 0] (n + 2)).toList 0 (cutB n X))[i]? = some (.int .u8 (if i < n then X i else 0)) := by
  unfold splice
  rw [List.take_zero, List.nil_append, cutB_len, Nat.zero_add]
  by_cases h : i < n
  · rw [List.getElem?_append_left (by rw [cutB_len]; exact h), if_pos h]
    simp [cutB, h]
  · rw [List.getElem?_append_right (by rw [cutB_len]; omega), if_neg h, cutB_len, List.getElem?_drop]
    have e : n + (i - n) = i := by omega
    rw [e]
    simp [madeCells, hi, Nat.mod_one]
theorem splice_row {w : World} {g n : Nat} {t : TypeId} {X : Nat → Int} (h : w.heap[g]? = some (.cells (splice (madeCells #[Value.int .u8 0] (n + 2)).toList 0 (cutB n X)).toArray t (0, 0))) :
    w.rowIs g t (n + 2) (fun k => .int .u8 (if k < n then X k else 0)) := by
  have hl : (madeCells #[Value.int .u8 0] (n + 2)).toList.length = n + 2 := by rw [Array.length_toList, size_madeCells]
  have hs : (splice (madeCells #[Value.int .u8 0] (n + 2)).toList 0 (cutB n X)).length = n + 2 := by
    rw [length_splice _ _ _ (by rw [cutB_len, hl]; omega), hl]
  refine ⟨_, h, by simpa using hs, fun i hi => ?_⟩
  simpa using splice_cell n i X hi

theorem gz3_row (a b : Int) (v : Value) (w : World) (t : TypeId) : (w.alloc (.cells #[.int .i64 a, .int .i64 b, v] t)).rowIs w.heap.size t 3 (fun q => [Value.int .i64 a, .int .i64 b, v][q]?.getD undef) := by
  refine World.rowIs_alloc w #[.int .i64 a, .int .i64 b, v] t _ (fun i hi => ?_)
  have hi : i < 3 := hi
  rcases (show i = 0 ∨ i = 1 ∨ i = 2 by omega) with rfl | rfl | rfl <;> rfl

theorem copy_lent (a : Option Addr) (n c g : Nat) (X : Nat → Int) (w : World) (hg : g = w.heap.size) (h : ByAt w a n X) :
    ∃ w', (∀ ty, (Builtin.copy_ #[22, 22] ty #[.slice (some ⟨g, 0, none⟩) (n + 2) (n + 2), .slice a n c]).run Tryd.prog (w.alloc (.cells (madeCells #[Value.int .u8 0] (n + 2)) 5)) = .ok (goInt n) w') ∧ w'.rowIs g 5 (n + 2) (fun k => .int .u8 (if k < n then X k else 0)) ∧ Below g w w' := by
  subst hg
  have hZ : (w.alloc (.cells (madeCells #[Value.int .u8 0] (n + 2)) 5)).heap[w.heap.size]? = some (.cells (madeCells #[Value.int .u8 0] (n + 2)) 5 (0, 0)) := by
    show (w.heap.push _)[w.heap.size]? = _
    exact Array.getElem?_push_size
  have hb : Below w.heap.size w (w.alloc (.cells (madeCells #[Value.int .u8 0] (n + 2)) 5)) := (Below.refl _ _).alloc (Nat.le_refl _) _
  have hmin : Nat.min n (n + 2) = n := Nat.min_eq_left (by omega)
  rcases Nat.eq_zero_or_pos n with h0 | h0
  · subst h0
    refine ⟨_, fun ty => run_copy_none (P := Tryd.prog) _ 22 22 ty 5 _ a _ _ 0 c Tryd.underlying22 info_sz hmin, ?_, hb⟩
    have := splice_row (n := 0) (X := X) (g := w.heap.size) (t := 5) (w := w.alloc (.cells (madeCells #[Value.int .u8 0] (0 + 2)) 5)) (by rw [hZ]; simp [splice, cutB])
    exact this
  · rcases h with h | ⟨b, off, rfl, hc⟩
    · omega
    have hsrc : ∀ j v, (cutB n X)[j]? = some v → (w.alloc (.cells (madeCells #[Value.int .u8 0] (n + 2)) 5)).cell? ((⟨b, off, none⟩ : Addr).add j) = some v := fun j v hj => by
      have hjn : j < n := by
        rcases Nat.lt_or_ge j n with h | h
        · exact h
        · rw [List.getElem?_eq_none (by rw [cutB_len]; exact h)] at hj; cases hj
      have hlt : b < w.heap.size := World.block_lt_of_cell? w _ (hc 0 h0)
      have e : ((⟨b, off, none⟩ : Addr).add j) = ⟨b, off + j, none⟩ := by unfold Addr.add; split <;> simp_all
      rw [e, (hb.cell (p := ⟨b, off + j, none⟩) hlt), hc j hjn]
      simp [cutB, hjn] at hj
      rw [hj]
    refine ⟨_, fun ty => by
      have := run_copy_row (P := Tryd.prog) (w.alloc (.cells (madeCells #[Value.int .u8 0] (n + 2)) 5)) 22 22 ty 5 w.heap.size 0 (n + 2) (n + 2) ⟨b, off, none⟩ n c (madeCells #[Value.int .u8 0] (n + 2)) 5 (cutB n X) Tryd.underlying22 info_sz hZ (by rw [cutB_len, hmin]) hsrc (by rw [cutB_len, size_madeCells]; omega) (fun v hv => by
        simp [cutB] at hv
        obtain ⟨k, _, rfl⟩ := hv
        rfl)
      rw [cutB_len] at this
      exact this, splice_row ?_, below_setRow hb (Nat.le_refl _) _⟩
    rw [setRow_heap _ _ _ _ _ _ hZ]
    simp [splice, cutB_len]

set_option maxRecDepth 100000 in
set_option maxHeartbeats 2000000 in
theorem lendGray_any (a : Option Addr) (n c : Nat) (W H : Int) (X : Nat → Int) (w : World) (hn : n ≤ 140737488355328) (h : ByAt w a n X) :
    Calls Tryd.prog 15 #[.agg #[.int .i64 W, .int .i64 H, .slice a n c]] w fun e w' => ∃ B, e = .returned (.agg #[.int .i64 W, .int .i64 H, .slice (some ⟨B, 0, none⟩) n (n + 2)]) ∧ Below w.heap.size w w' ∧ w.heap.size ≤ B ∧ w'.rowIs B 5 (n + 2) (lentB n X) := by
  obtain ⟨W1, hW1⟩ : ∃ W1, W1 = w.alloc (.cells #[.int .i64 W, .int .i64 H, .slice a n c] 24) := ⟨_, rfl⟩
  obtain ⟨W2, hW2⟩ : ∃ W2, W2 = W1.alloc (.cells #[.int .i64 0, .int .i64 0, .slice none 0 0] 24) := ⟨_, rfl⟩
  have hs1 : W1.heap.size = w.heap.size + 1 := by rw [hW1]; simp
  have hs2 : W2.heap.size = w.heap.size + 2 := by rw [hW2]; simp [hs1]
  have hB2 : Below w.heap.size w W2 := by rw [hW2, hW1]; (repeat (any_goals (first | exact Below.refl _ _ | assumption | refine Below.drew ?_ | refine below_drewN ?_ _ | refine Below.setCell ?_ ?_ _ | refine Below.alloc ?_ ?_ _ | omega | (simp; done) | (simp; omega))))
  have HA := hide (h.below hB2)
  have HB2 := hide hB2
  have HG : Hid (W2.rowIs w.heap.size 24 3 (fun q => [Value.int .i64 W, .int .i64 H, .slice a n c][q]?.getD undef)) := by unfold Hid; rw [hW2, hW1]; exact (gz3_row _ _ _ _ _).alloc _
  have HZ : Hid (W2.rowIs (w.heap.size + 1) 24 3 (fun q => [Value.int .i64 0, .int .i64 0, .slice none 0 0][q]?.getD undef)) := by unfold Hid; rw [← hs1, hW2]; exact gz3_row _ _ _ _ _
  clear h hB2
  obtain ⟨ZA, hZA⟩ : ∃ ZA, ZA = madeCells #[Value.int .u8 0] (n + 2) := ⟨_, rfl⟩
  have hmk : ∀ w, (Instr.makeSlice 22 (.int .i64 ((n : Int) + 2)) (.int .i64 ((n : Int) + 2))).run Tryd.prog w = .ok (.slice (some ⟨w.heap.size, 0, none⟩) (n + 2) (n + 2)) (w.alloc (.cells ZA 5)) := fun w => by rw [hZA]; exact mk_bytes n hn w
  obtain ⟨W3, hcp, hrow3, hb3⟩ := copy_lent a n c (w.heap.size + 1 + 1) X W2 (by rw [hs2]) HA.out
  rw [← hZA, hW2, hW1] at hcp
  have HR3 := hide hrow3
  have HB3 := hide hb3
  have hG3 := row_below HG.out (hb3.mono (Nat.le_refl _)) (by omega)
  have hZ3 := row_below HZ.out hb3 (by omega)
  have HS2 := hide hs2
  clear hrow3 hb3 hZA hs1 hs2 hW1 hW2
  go_enter Tryd.func15, Tryd.ntmps15
  go_wp2_with fail
  go_loopw [5] (fun t wr => ∃ k : Nat, n ≤ k ∧ k ≤ n + 2 ∧ t = .int .i64 k ∧ Below (w.heap.size + 2) W3 wr ∧ wr.rowIs (w.heap.size + 1 + 1) 5 (n + 2) (fun q => .int .u8 (if q < n then X q else if q < k then 195 else 0))) (fun t _ => n + 2 - (intOf t).toNat)
  case atStart => exact ⟨n, by omega, by omega, rfl, Below.refl _ _, HR3.out.congr (fun q hq => by by_cases e : q < n <;> simp [e])⟩
  case round =>
    obtain ⟨k, hk0, hk, rfl, hb, hrow⟩ := hrel
    have hsz := hb.size
    have hrl := hrow.lt
    by_cases hlt : k < n + 2
    · have hd1 : decide ((k : Int) < (n : Int) + 2) = true := by simp; omega
      have g0 : (0 : Int) ≤ (k : Int) := by omega
      have g1 : (k : Int) < (n : Int) + 2 := by omega
      have c0 := hrow.cell (i := k) hlt
      have z0 := hrow.frozen k
      have HR : Hid ((wr.setCell ⟨w.heap.size + 1 + 1, k, none⟩ (.int .u8 195)).rowIs (w.heap.size + 1 + 1) 5 (n + 2) (fun q => .int .u8 (if q < n then X q else if q < k + 1 then 195 else 0))) := by
        refine (hrow.set k _).congr fun q hq => ?_
        by_cases e : q = k
        · subst e; rw [if_pos rfl, if_neg (by omega), if_pos (by omega)]
        · rw [if_neg e]
          by_cases e1 : q < n
          · rw [if_pos e1, if_pos e1]
          · rw [if_neg e1, if_neg e1]
            by_cases e2 : q < k
            · rw [if_pos e2, if_pos (by omega)]
            · rw [if_neg e2, if_neg (by omega)]
      have HB := hide (hb.setCell (p := ⟨w.heap.size + 1 + 1, k, none⟩) (Nat.le_refl _) (.int .u8 195))
      clear hb hrow
      go_wp2
      go_roundw
      case rel => exact ⟨k + 1, by omega, by omega, by go_num, HB.out, HR.out⟩
      case measure => simp [intOf]; omega
    · have e : k = n + 2 := by omega
      have hd0 : decide ((k : Int) < (n : Int) + 2) = false := by simp; omega
      have hs3 : w.heap.size + 2 ≤ W3.heap.size := by have := HB3.out.size; have := HS2.out; omega
      have hG4 := row_below hG3 (hb.mono (Nat.le_refl _)) (by omega)
      have hZ4 := row_below hZ3 hb (by omega)
      have q0 : wr.cell? ⟨w.heap.size, 0, none⟩ = some (.int .i64 W) := hG4.cell (i := 0) (by omega)
      have q1 : wr.cell? ⟨w.heap.size, 1, none⟩ = some (.int .i64 H) := hG4.cell (i := 1) (by omega)
      have z0 : wr.cell? ⟨w.heap.size + 1, 0, none⟩ = some (.int .i64 0) := hZ4.cell (i := 0) (by omega)
      have z1 : wr.cell? ⟨w.heap.size + 1, 1, none⟩ = some (.int .i64 0) := hZ4.cell (i := 1) (by omega)
      have z2 : wr.cell? ⟨w.heap.size + 1, 2, none⟩ = some (.slice none 0 0) := hZ4.cell (i := 2) (by omega)
      have f0 := hZ4.frozen 0
      have f1 := hZ4.frozen 1
      have f2 := hZ4.frozen 2
      have hzl := hZ4.lt
      have HRow := hide hrow
      have HBr := hide hb
      have HZr := hide hZ4
      clear hG4 hZ4 hG3 hZ3 hrow hb hmk hcp
      have HF : Hid ((((wr.setCell ⟨w.heap.size + 1, 0, none⟩ (.int .i64 W)).setCell ⟨w.heap.size + 1, 1, none⟩ (.int .i64 H)).setCell ⟨w.heap.size + 1, 2, none⟩ (.slice (some ⟨w.heap.size + 1 + 1, 0, none⟩) n (n + 2))).drew.rowIs (w.heap.size + 1) 24 3 (fun q => [Value.int .i64 W, .int .i64 H, .slice (some ⟨w.heap.size + 1 + 1, 0, none⟩) n (n + 2)][q]?.getD undef)) := by
        refine World.rowIs.of_block ((((HZr.out.set 0 _).set 1 _).set 2 _).congr fun q hq => ?_) rfl
        rcases (show q = 0 ∨ q = 1 ∨ q = 2 by omega) with rfl | rfl | rfl <;> rfl
      go_wp2
      go_region
      all_goals
        obtain ⟨wF, hwF⟩ : ∃ wF, wF = (((wr.setCell ⟨w.heap.size + 1, 0, none⟩ (.int .i64 W)).setCell ⟨w.heap.size + 1, 1, none⟩ (.int .i64 H)).setCell ⟨w.heap.size + 1, 2, none⟩ (.slice (some ⟨w.heap.size + 1 + 1, 0, none⟩) n (n + 2))).drew := ⟨_, rfl⟩
        have HBF : Hid (Below w.heap.size w wF) := by
          unfold Hid
          have hB : Below w.heap.size w wr := (HB2.out.trans (HB3.out.mono (by omega))).trans (HBr.out.mono (by omega))
          rw [hwF]
          exact (((hB.setCell (p := ⟨w.heap.size + 1, 0, none⟩) (by simp) _).setCell (p := ⟨w.heap.size + 1, 1, none⟩) (by simp) _).setCell (p := ⟨w.heap.size + 1, 2, none⟩) (by simp) _).drew
        have HRF : Hid (wF.rowIs (w.heap.size + 1 + 1) 5 (n + 2) (lentB n X)) := by
          unfold Hid
          have h1 : wr.rowIs (w.heap.size + 1 + 1) 5 (n + 2) (lentB n X) := HRow.out.congr (fun q hq => by
            unfold lentB
            by_cases e1 : q < n
            · rw [if_pos e1, if_pos e1]
            · rw [if_neg e1, if_neg e1, if_pos (by omega)])
          refine h1.of_block ?_
          rw [hwF]
          show (((wr.setCell ⟨w.heap.size + 1, 0, none⟩ (.int .i64 W)).setCell ⟨w.heap.size + 1, 1, none⟩ (.int .i64 H)).setCell ⟨w.heap.size + 1, 2, none⟩ (.slice (some ⟨w.heap.size + 1 + 1, 0, none⟩) n (n + 2))).heap[w.heap.size + 1 + 1]? = _
          rw [set_other (by omega), set_other (by omega), set_other (by omega)]
        rw [← hwF] at HF ⊢
        have g0 : wF.cell? ⟨w.heap.size + 1, 0, none⟩ = some (.int .i64 W) := HF.out.cell (i := 0) (by omega)
        have g1 : wF.cell? ⟨w.heap.size + 1, 1, none⟩ = some (.int .i64 H) := HF.out.cell (i := 1) (by omega)
        have g2 : wF.cell? ⟨w.heap.size + 1, 2, none⟩ = some (.slice (some ⟨w.heap.size + 1 + 1, 0, none⟩) n (n + 2)) := HF.out.cell (i := 2) (by omega)
        clear hwF
        go_wp2
        exact bodyPost_ret (v := .agg #[.int .i64 W, .int .i64 H, .slice (some ⟨w.heap.size + 1 + 1, 0, none⟩) n (n + 2)]) (by simp [results, Tryd.results15, go_sem, g0, g1, g2]) rfl ⟨_, rfl, HBF.out, by omega, HRF.out⟩

theorem lentB_by {w : World} {B n : Nat} {X : Nat → Int} (h : w.rowIs B 5 (n + 2) (lentB n X)) : ByAt w (some ⟨B, 0, none⟩) n X := ByAt.of_row h (by omega) (fun k hk => by unfold lentB; rw [if_pos hk])

set_option maxRecDepth 100000 in
set_option maxHeartbeats 2000000 in
theorem lentGray_any (a : Option Addr) (B n c : Nat) (W H : Int) (X : Nat → Int) (w : World) (hn : n ≤ 140737488355328) (hB : w.rowIs B 5 (n + 2) (lentB n X)) (h : ByAt w a n X) :
    Calls Tryd.prog 17 #[.agg #[.int .i64 W, .int .i64 H, .slice (some ⟨B, 0, none⟩) n (n + 2)], .agg #[.int .i64 W, .int .i64 H, .slice a n c]] w fun e w' => e = .returned (.bool true) ∧ Below w.heap.size w w' := by
  obtain ⟨W1, hW1⟩ : ∃ W1, W1 = w.alloc (.cells #[.int .i64 W, .int .i64 H, .slice (some ⟨B, 0, none⟩) n (n + 2)] 24) := ⟨_, rfl⟩
  obtain ⟨W2, hW2⟩ : ∃ W2, W2 = W1.alloc (.cells #[.int .i64 W, .int .i64 H, .slice a n c] 24) := ⟨_, rfl⟩
  have hs1 : W1.heap.size = w.heap.size + 1 := by rw [hW1]; simp
  have hs2 : W2.heap.size = w.heap.size + 2 := by rw [hW2]; simp [hs1]
  have hB2 : Below w.heap.size w W2 := by rw [hW2, hW1]; (repeat (any_goals (first | exact Below.refl _ _ | assumption | refine Below.drew ?_ | refine below_drewN ?_ _ | refine Below.setCell ?_ ?_ _ | refine Below.alloc ?_ ?_ _ | omega | (simp; done) | (simp; omega))))
  have HB2 := hide hB2
  have HG : Hid (W2.rowIs w.heap.size 24 3 (fun q => [Value.int .i64 W, .int .i64 H, .slice (some ⟨B, 0, none⟩) n (n + 2)][q]?.getD undef)) := by unfold Hid; rw [hW2, hW1]; exact (gz3_row _ _ _ _ _).alloc _
  have HZ : Hid (W2.rowIs (w.heap.size + 1) 24 3 (fun q => [Value.int .i64 W, .int .i64 H, .slice a n c][q]?.getD undef)) := by unfold Hid; rw [← hs1, hW2]; exact gz3_row _ _ _ _ _
  have HR := hide (row_below hB hB2 hB.lt)
  have HS := hide (sameGray_any (some ⟨B, 0, none⟩) a n (n + 2) c W H X W2 (by omega) (lentB_by HR.out) (h.below hB2))
  have hBl := hB.lt
  clear hB h hB2
  go_enter Tryd.func17, Tryd.ntmps17
  go_wp2_with fail
  rw [← hW1, ← hW2]
  refine HS.out.mono ?_
  rintro e w3 ⟨rfl, hb3⟩
  have hs3 := hb3.size
  have hG3 := row_below HG.out hb3 (by omega)
  have hZ3 := row_below HZ.out hb3 (by omega)
  have q2 : w3.cell? ⟨w.heap.size, 2, none⟩ = some (.slice (some ⟨B, 0, none⟩) n (n + 2)) := hG3.cell (i := 2) (by omega)
  have z2 : w3.cell? ⟨w.heap.size + 1, 2, none⟩ = some (.slice a n c) := hZ3.cell (i := 2) (by omega)
  have hR3 := row_below HR.out hb3 (by omega)
  have HB3 := hide (HB2.out.trans (hb3.mono (by omega)))
  have HR3 := hide hR3
  have hw3 : w.heap.size + 2 ≤ w3.heap.size := by omega
  clear hb3 hR3 hG3 hZ3 HS hs1 hs2 hW1 hW2
  go_wp2_with fail
  go_loopw [8] (fun t wr => ∃ k : Nat, n ≤ k ∧ k ≤ n + 2 ∧ t = .int .i64 k ∧ wr = w3) (fun t _ => n + 2 - (intOf t).toNat)
  case atStart => exact ⟨n, by omega, by omega, rfl, rfl⟩
  case round =>
    obtain ⟨k, hk0, hk, rfl, rfl⟩ := hrel
    by_cases hlt : k < n + 2
    · have hd1 : decide ((k : Int) < (n : Int) + 2) = true := by simp; omega
      have g0 : (0 : Int) ≤ (k : Int) := by omega
      have g1 : (k : Int) < (n : Int) + 2 := by omega
      have c0 : wr.cell? ⟨B, k, none⟩ = some (.int .u8 195) := by
        rw [HR3.out.cell (i := k) hlt]
        unfold lentB
        rw [if_neg (by omega)]
      go_wp2
      go_roundw
      case rel => exact ⟨k + 1, by omega, by omega, by go_num, by first | rfl | trivial⟩
      case measure => simp [intOf]; omega
    · have hd0 : decide ((k : Int) < (n : Int) + 2) = false := by simp; omega
      go_wp2
      go_ret
      exact ⟨rfl, HB3.out⟩
end Go.Proofs.YtkhcjkmifddlbabDoor
