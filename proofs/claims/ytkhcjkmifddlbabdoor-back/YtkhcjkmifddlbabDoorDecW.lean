/- The document's Decode; Decode as it is called. -/
import Derived.Test.YtkhcjkmifddlbabDoorDecU
namespace Go.Proofs.YtkhcjkmifddlbabDoor
open Go.RowKit Go.Deep

/-- How far the document's reading has come. -/
structure RcS {α : Type} (W wk : World) (rb : Nat) (s : ByteArray) (b : Bool) (p : Nat) (x : α) (S : Option (α × Nat)) : Prop where
  row : wk.rowIs rb 76 2 (cu2 s p b)
  le : p ≤ s.size
  touch : Touch (fun q => q = rb) W wk
  st : (b = false ∧ S = some (x, p)) ∨ (b = true ∧ S = none)
theorem RcS.step {α : Type} {W wk w' : World} {rb : Nat} {s : ByteArray} {b : Bool} {p : Nat} {x : α} {S : Option (α × Nat)} {f : Nat → Option Nat} (h : RcS W wk rb s b p x S) (t : CuTo wk w' rb s b (f p)) : ∃ b' p', RcS W w' rb s b' p' x (stepV S f) := by
  obtain ⟨hT, p', hrow, hp', hq⟩ := t
  refine ⟨_, p', hrow, hp', h.touch.trans hT, ?_⟩
  rcases h.st with ⟨e1, e2⟩ | ⟨e1, e2⟩
  · rw [e2]
    cases hf : f p with
    | none => right; simp [stepV, hf]
    | some q => left; rw [hq q e1 hf]; simp [stepV, hf, e1]
  · right; rw [e1, e2]; simp [stepV]
theorem RcS.side {α : Type} {W wk w' : World} {rb v : Nat} {s : ByteArray} {b : Bool} {p : Nat} {x : α} {S : Option (α × Nat)} (h : RcS W wk rb s b p x S) (t : CuTo wk w' rb s b ((Num.sideV s p).map Prod.snd)) (hv : ∀ y, b = false → Num.sideV s p = some y → v = y.1) : ∃ b' p', RcS W w' rb s b' p' (x, v) (sideS s S) := by
  obtain ⟨hT, p', hrow, hp', hq⟩ := t
  refine ⟨_, p', hrow, hp', h.touch.trans hT, ?_⟩
  rcases h.st with ⟨e1, e2⟩ | ⟨e1, e2⟩
  · rw [e2]
    cases hf : Num.sideV s p with
    | none => right; simp [sideS, hf]
    | some y => left; rw [hq y.2 e1 (by rw [hf]; rfl), hv y e1 hf]; simp [sideS, hf, e1]
  · right; rw [e1, e2]; simp [sideS]
theorem cu0_row (s : ByteArray) (w : World) (t : TypeId) : (w.alloc (.cells #[.string s, .bool false] t)).rowIs w.heap.size t 2 (cu2 s 0 false) := by
  refine World.rowIs_alloc w #[.string s, .bool false] t (cu2 s 0 false) (fun i hi => ?_)
  have hi : i < 2 := hi
  rcases (show i = 0 ∨ i = 1 by omega) with rfl | rfl
  · simp [cu2, tl_zero]
  · rfl
theorem byAt_touchO {w w' : World} {ao : Option Addr} {n cap : Nat} {S : Nat → Prop} {X : Nat → Int} (h : ByAt w ao n X) (hT : Touch S w w') (hb : ∀ b, (Value.slice ao n cap).ownBlock = some b → ¬ S b) : ByAt w' ao n X := by
  rcases h with h | ⟨b', off, e, h⟩
  · exact .inl h
  · refine .inr ⟨b', off, e, fun k hk => ?_⟩
    rw [← h k hk]
    exact cellD_of_heap (p := ⟨b', off + k, none⟩) (hT.block _ (World.block_lt_of_cell? w _ (h k hk)) (hb b' (by rw [e]; rfl)))

set_option maxRecDepth 100000 in
set_option maxHeartbeats 4000000 in
theorem refDecode_any (s : ByteArray) (w : World) (hs2 : (s.size : Int) ≤ 9000000000000000000) : Calls Tryd.prog 21 #[.string s] w fun e w' => DecO w w' s e := by
  obtain ⟨gb, hgb⟩ : ∃ gb, gb = w.heap.size := ⟨_, rfl⟩
  obtain ⟨W0, hW0⟩ : ∃ W0, W0 = w.alloc (.cells #[.int .i64 0, .int .i64 0, .slice none 0 0] 24) := ⟨_, rfl⟩
  have hg0 : W0.rowIs gb 24 3 (grD 0 0 (.slice none 0 0)) := by rw [hW0, hgb]; exact grD_row _ _ _ _ _
  have hB0 : Below w.heap.size w W0 := by rw [hW0]; exact (Below.refl _ _).alloc (Nat.le_refl _) _
  have hs0 : W0.heap.size = gb + 1 := by rw [hW0, hgb]; simp
  have none_fin : ∀ wx : World, Num.decV s = none → Below w.heap.size w wx → DecO w wx s (.returned (.tuple #[.agg #[.int .i64 0, .int .i64 0, .slice none 0 0], .int .i64 10])) := fun wx hn hb => by
    obtain ⟨e1, e2⟩ := decT_none hn
    refine ⟨none, 0, ?_, hb, ?_, ?_, ?_⟩
    · rw [e1, e2]; simp
    · rw [e1]; simp; exact ByRow.nil
    · rw [e1]; simp; exact .inl rfl
    · intro q hq; simp [Value.ownBlock] at hq
  by_cases hs : s.size ≤ 8192
  · have hd : decide ((8192 : Int) < (s.size : Int)) = false := by simp; omega
    obtain ⟨W1, hW1⟩ : ∃ W1, W1 = W0.alloc (.cells #[.string s, .bool false] 76) := ⟨_, rfl⟩
    obtain ⟨rb, hrb⟩ : ∃ rb, rb = gb + 1 := ⟨_, rfl⟩
    have hr1 : W1.rowIs rb 76 2 (cu2 s 0 false) := by rw [hW1, hrb, ← hs0]; exact cu0_row _ _ _
    have hg1 : W1.rowIs gb 24 3 (grD 0 0 (.slice none 0 0)) := by rw [hW1]; exact hg0.alloc _
    have hB1 : Below w.heap.size w W1 := by rw [hW1]; exact hB0.alloc (by omega) _
    have R0 : RcS W1 W1 rb s false 0 () (some ((), 0)) := ⟨hr1, by omega, Touch.refl _ _, .inl ⟨rfl, rfl⟩⟩
    have HNone := hide none_fin
    have HG1 := hide hg1
    have HB1 := hide hB1
    have HD := hide (decV_eq hs)
    have hgr : gb ≠ rb := by omega
    have hwg : w.heap.size ≤ gb := by omega
    have hs1 : W1.heap.size = rb + 1 := by rw [hW1]; simp; omega
    have HR0 := hide R0
    clear none_fin hg1 hB1 hg0 hB0 R0 hr1
    go_enter Tryd.func21, Tryd.ntmps21
    go_wp2_with fail
    rw [← hW0, ← hW1]
    rw [← hgb]
    rw [← hrb]
    have HGb := hide hgb
    have HRb := hide hrb
    clear hgb hrb hW0 hW1 hs0
    refine (cuWord_any rb s ⟨#[80, 53]⟩ 0 false W1 hs (by decide) (by omega) HR0.out.row).mono ?_
    rintro e w1 ⟨rfl, t1⟩
    rw [show (ByteArray.mk #[80, 53]).toList = [80, 53] from ByteArray.toList_mk _] at t1
    obtain ⟨b1, p1, R1⟩ := HR0.out.step t1
    have HR1 := hide R1
    clear t1 R1 HR0
    go_wp2_with fail
    refine (cuGap_any rb s p1 b1 w1 hs HR1.out.le HR1.out.row).mono ?_
    rintro e w2 ⟨rfl, t2⟩
    obtain ⟨b2, p2, R2⟩ := HR1.out.step t2
    have HR2 := hide R2
    clear t2 R2 HR1
    go_wp2_with fail
    refine (cuSide_any rb s p2 b2 w2 hs HR2.out.le HR2.out.row).mono ?_
    rintro e w3 ⟨v1, rfl, hv1, t3, hx3⟩
    obtain ⟨b3, p3, R3⟩ := HR2.out.side t3 hx3
    have HR3 := hide R3
    clear t3 R3 HR2 hx3
    go_wp2_with fail
    refine (cuGap_any rb s p3 b3 w3 hs HR3.out.le HR3.out.row).mono ?_
    rintro e w4 ⟨rfl, t4⟩
    obtain ⟨b4, p4, R4⟩ := HR3.out.step t4
    have HR4 := hide R4
    clear t4 R4 HR3
    go_wp2_with fail
    refine (cuSide_any rb s p4 b4 w4 hs HR4.out.le HR4.out.row).mono ?_
    rintro e w5 ⟨v2, rfl, hv2, t5, hx5⟩
    obtain ⟨b5, p5, R5⟩ := HR4.out.side t5 hx5
    have HR5 := hide R5
    clear t5 R5 HR4 hx5
    go_wp2_with fail
    refine (cuGap_any rb s p5 b5 w5 hs HR5.out.le HR5.out.row).mono ?_
    rintro e w6 ⟨rfl, t6⟩
    obtain ⟨b6, p6, R6⟩ := HR5.out.step t6
    have HR6 := hide R6
    clear t6 R6 HR5
    go_wp2_with fail
    refine (cuWord_any rb s ⟨#[50, 53, 53]⟩ p6 b6 w6 hs (by decide) HR6.out.le HR6.out.row).mono ?_
    rintro e w7 ⟨rfl, t7⟩
    rw [show (ByteArray.mk #[50, 53, 53]).toList = [50, 53, 53] from ByteArray.toList_mk _] at t7
    obtain ⟨b7, p7, R7⟩ := HR6.out.step t7
    have HR7 := hide R7
    clear t7 R7 HR6
    go_wp2_with fail
    refine (cuBlank_any rb s p7 b7 w7 hs HR7.out.le HR7.out.row).mono ?_
    rintro e w8 ⟨rfl, t8⟩
    obtain ⟨b8, p8, R8⟩ := HR7.out.step t8
    have HR8 := hide R8
    clear t8 R8 HR7
    obtain ⟨c0, c1, z0, z1⟩ := cu_cells HR8.out.row
    have hts := tl_size s p8
    have hp8 := HR8.out.le
    have hrl := HR8.out.row.lt
    have g8 : w8.rowIs gb 24 3 (grD 0 0 (.slice none 0 0)) := HG1.out.of_block (HR8.out.touch.block gb (by have := HRb.out; omega) hgr)
    have hB8 : Below w.heap.size w w8 := ⟨HR8.out.touch.os.trans HB1.out.os, HR8.out.touch.tape.trans HB1.out.tape, HR8.out.touch.output.trans HB1.out.output, by have := HB1.out.size; have := HR8.out.touch.size; omega, fun q hq => by rw [HR8.out.touch.block q (by have := HRb.out; omega) (by have := HRb.out; omega)]; exact HB1.out.block q hq⟩
    have HG8 := hide g8
    have HB8 := hide hB8
    have hgl := g8.lt
    obtain ⟨y0, y1, y2⟩ := grD_cells g8
    have x0 := g8.frozen 0
    have x1 := g8.frozen 1
    have x2 := g8.frozen 2
    have hmul : v1 * v2 ≤ 4096 := Nat.le_trans (Nat.mul_le_mul hv1 hv2) (by omega)
    have w2_ : IntKind.i64.wrap ((v1 : Int) * (v2 : Int)) = (v1 : Int) * (v2 : Int) := wrap_ok _ (by rw [← Int.natCast_mul]; omega) (by rw [← Int.natCast_mul]; omega)
    clear g8 hB8 hmul
    cases b8
    · by_cases hq : s.size - p8 = v1 * v2
      · have hne : (((s.size - p8 : Nat) : Int) != (v1 : Int) * (v2 : Int)) = false := by simp; rw [← Int.natCast_mul]; omega
        have HQ := hide hq
        clear hq
        have HV : Hid (Num.decV s = some (v1, v2, p8)) := by
          unfold Hid; rw [HD.out]
          rcases HR8.out.st with ⟨_, e2⟩ | ⟨e1, _⟩
          · rw [show decS s = some ((((), v1), v2), p8) from e2]; simp [HQ.out]
          · cases e1
        obtain ⟨e1, e2⟩ := decT_some HV.out
        have hsz : (s.extract p8 s.size).size = s.size - p8 := by simp [ByteArray.size_extract]
        have hrun := run_bytes_of_string (P := Tryd.prog) w8 9 22 5 (s.extract p8 s.size) rfl rfl rfl
        rw [hsz] at hrun
        rw [show s.extract p8 s.size = tl s p8 from rfl] at hrun
        have hc1 := grownCap_ge w8 (s.size - p8) 0 5
        have hc2 := grownCap_le_maxLen w8 (s.size - p8) 0 5
        obtain ⟨cap, hcap⟩ : ∃ c, c = grownCap w8 (s.size - p8) 0 5 := ⟨_, rfl⟩
        rw [← hcap] at hrun hc1 hc2
        have hc3 : (cap : Int) ≤ 9223372036854775807 := by have := hc2 (by simp [maxLen]; omega); simp [maxLen] at this; omega
        have hl := bytes_laid (w := w8) hp8 cap hc1 hc3
        obtain ⟨W9, hW9⟩ : ∃ W9, W9 = w8.drew.alloc (.cells (bytesRow (s.extract p8 s.size) cap) 5 ((bytesRow (s.extract p8 s.size) cap).size, (bytesRow (s.extract p8 s.size) cap).size + 1)) := ⟨_, rfl⟩
        obtain ⟨nb, hnb⟩ : ∃ nb, nb = w8.heap.size := ⟨_, rfl⟩
        simp only at hl
        rw [← hW9, ← hnb] at hl
        rw [show s.extract p8 s.size = tl s p8 from rfl] at hW9
        rw [← hW9, ← hnb] at hrun
        have HB9 : Hid (Below w8.heap.size w8 W9) := by unfold Hid; rw [hW9]; exact ((Below.refl _ _).drew).alloc (Nat.le_refl _) _
        have g9 : W9.rowIs gb 24 3 (grD 0 0 (.slice none 0 0)) := HG8.out.of_block (HB9.out.block gb hgl)
        obtain ⟨q0, q1, q2⟩ := grD_cells g9
        have u0 := g9.frozen 0
        have u1 := g9.frozen 1
        have u2 := g9.frozen 2
        have hgl9 := g9.lt
        have hgn : gb ≠ nb := by omega
        have HL := hide hl
        have HE1 := hide e1
        have HE2 := hide e2
        have HNb := hide hnb
        have HG9 := hide g9
        have HC := hide (And.intro hc1 hc3)
        clear hl e1 e2 hnb g9 hcap hW9 hc1 hc2 hc3 hsz
        go_wp2_with fail
        obtain ⟨WE, hWE⟩ : ∃ WE, WE = ((W9.setCell ⟨gb, 0, none⟩ (.int .i64 v1)).setCell ⟨gb, 1, none⟩ (.int .i64 v2)).setCell ⟨gb, 2, none⟩ (.slice (some ⟨nb, 0, none⟩) (s.size - p8) cap) := ⟨_, rfl⟩
        rw [← hWE]
        have gE : WE.rowIs gb 24 3 (grD v1 v2 (.slice (some ⟨nb, 0, none⟩) (s.size - p8) cap)) := by rw [hWE]; exact grD_set HG9.out _ _ _
        obtain ⟨k0, k1, k2⟩ := grD_cells gE
        have hBE : Below gb W9 WE := by rw [hWE]; exact (((Below.refl gb W9).setCell (p := ⟨gb, 0, none⟩) (Nat.le_refl _) _).setCell (p := ⟨gb, 1, none⟩) (Nat.le_refl _) _).setCell (p := ⟨gb, 2, none⟩) (Nat.le_refl _) _
        have hTE : Touch (fun q => q = gb) W9 WE := by rw [hWE]; exact (((Touch.refl (fun q => q = gb) W9).setCell (p := ⟨gb, 0, none⟩) (.inl rfl) _).setCell (p := ⟨gb, 1, none⟩) (.inl rfl) _).setCell (p := ⟨gb, 2, none⟩) (.inl rfl) _
        refine bodyPost_ret (v := .tuple #[.agg #[.int .i64 v1, .int .i64 v2, .slice (some ⟨nb, 0, none⟩) (s.size - p8) cap], .int .i64 0]) (by simp [results, Tryd.results21, go_sem, k0, k1, k2]) rfl ?_
        refine ⟨some ⟨nb, 0, none⟩, cap, ?_, ?_, ?_, ?_, ?_⟩
        · rw [HE1.out, HE2.out]
        · exact (HB8.out.trans (HB9.out.mono (by have := HB8.out.size; omega))).trans (hBE.mono hwg)
        · rw [HE1.out]; exact HL.out.1.of_blocks fun b hb => hTE.block b (HL.out.1.lt hb).1 (by simp [Value.ownBlock] at hb; omega)
        · rw [HE1.out]; exact byAt_touch HL.out.2 hTE (fun e => hgn e.symm)
        · rw [HE1.out]; intro q hq; simp [Value.ownBlock] at hq; have := HNb.out; have := HB8.out.size; omega
      · have hne : (((s.size - p8 : Nat) : Int) != (v1 : Int) * (v2 : Int)) = true := by simp; intro e; rw [← Int.natCast_mul] at e; omega
        have HV : Hid (Num.decV s = none) := by
          unfold Hid; rw [HD.out]
          rcases HR8.out.st with ⟨_, e2⟩ | ⟨e1, _⟩
          · rw [show decS s = some ((((), v1), v2), p8) from e2]; simp [hq]
          · cases e1
        go_wp2_with fail
        obtain ⟨WE, hWE⟩ : ∃ WE, WE = ((w8.setCell ⟨gb, 0, none⟩ (.int .i64 0)).setCell ⟨gb, 1, none⟩ (.int .i64 0)).setCell ⟨gb, 2, none⟩ (.slice none 0 0) := ⟨_, rfl⟩
        rw [← hWE]
        have gE : WE.rowIs gb 24 3 (grD 0 0 (.slice none 0 0)) := by rw [hWE]; exact grD_set HG8.out _ _ _
        obtain ⟨k0, k1, k2⟩ := grD_cells gE
        exact bodyPost_ret (v := .tuple #[.agg #[.int .i64 0, .int .i64 0, .slice none 0 0], .int .i64 10]) (by simp [results, Tryd.results21, go_sem, k0, k1, k2]) rfl (HNone.out WE HV.out (by rw [hWE]; exact ((HB8.out.setCell hwg _).setCell hwg _).setCell hwg _))
    · have HV : Hid (Num.decV s = none) := by
        unfold Hid; rw [HD.out]
        rcases HR8.out.st with ⟨e1, _⟩ | ⟨_, e2⟩
        · cases e1
        · rw [show decS s = none from e2]; rfl
      go_wp2_with fail
      obtain ⟨WE, hWE⟩ : ∃ WE, WE = ((w8.setCell ⟨gb, 0, none⟩ (.int .i64 0)).setCell ⟨gb, 1, none⟩ (.int .i64 0)).setCell ⟨gb, 2, none⟩ (.slice none 0 0) := ⟨_, rfl⟩
      rw [← hWE]
      have gE : WE.rowIs gb 24 3 (grD 0 0 (.slice none 0 0)) := by rw [hWE]; exact grD_set HG8.out _ _ _
      obtain ⟨k0, k1, k2⟩ := grD_cells gE
      exact bodyPost_ret (v := .tuple #[.agg #[.int .i64 0, .int .i64 0, .slice none 0 0], .int .i64 10]) (by simp [results, Tryd.results21, go_sem, k0, k1, k2]) rfl (HNone.out WE HV.out (by rw [hWE]; exact ((HB8.out.setCell hwg _).setCell hwg _).setCell hwg _))
  · have hd : decide ((8192 : Int) < (s.size : Int)) = true := by simp; omega
    have HV : Hid (Num.decV s = none) := by unfold Hid Num.decV; rw [if_pos (by omega)]
    have HNone := hide none_fin
    have HG0 := hide hg0
    have HB0 := hide hB0
    have hwg : w.heap.size ≤ gb := by omega
    clear none_fin hg0 hB0
    go_enter Tryd.func21, Tryd.ntmps21
    go_wp2_with fail
    rw [← hW0]
    rw [← hgb]
    obtain ⟨y0, y1, y2⟩ := grD_cells HG0.out
    exact bodyPost_ret (v := .tuple #[.agg #[.int .i64 0, .int .i64 0, .slice none 0 0], .int .i64 10]) (by simp [results, Tryd.results21, go_sem, y0, y1, y2]) rfl (HNone.out W0 HV.out HB0.out)

set_option maxRecDepth 100000 in
set_option maxHeartbeats 1000000 in
theorem glyphDecode_any (s : ByteArray) (w : World) (hs2 : (s.size : Int) ≤ 9000000000000000000) : Calls Tryd.prog 20 #[.string s] w fun e w' => DecO w w' s e := by
  obtain ⟨gb, hgb⟩ : ∃ gb, gb = w.heap.size := ⟨_, rfl⟩
  obtain ⟨W0, hW0⟩ : ∃ W0, W0 = w.alloc (.cells #[.int .i64 0, .int .i64 0, .slice none 0 0] 24) := ⟨_, rfl⟩
  have hg0 : W0.rowIs gb 24 3 (grD 0 0 (.slice none 0 0)) := by rw [hW0, hgb]; exact grD_row _ _ _ _ _
  have hB0 : Below w.heap.size w W0 := by rw [hW0]; exact (Below.refl _ _).alloc (Nat.le_refl _) _
  have hs0 : W0.heap.size = gb + 1 := by rw [hW0, hgb]; simp
  have HC := hide (decode_any s W0 hs2)
  have HG0 := hide hg0
  have HB0 := hide hB0
  have hwg : w.heap.size ≤ gb := by omega
  clear hg0 hB0
  go_enter Tryd.func20, Tryd.ntmps20
  go_wp2_with fail
  rw [← hW0]
  rw [← hgb]
  have HGb := hide hgb
  have HS0 := hide hs0
  clear hgb hW0 hs0
  refine HC.out.mono ?_
  rintro e w1 ⟨ao, cap, rfl, hB1, hr1, ha1, ho1⟩
  have hgr : gb < W0.heap.size := by have := HS0.out; omega
  have g1 := row_below HG0.out hB1 hgr
  have hgl := g1.lt
  obtain ⟨y0, y1, y2⟩ := grD_cells g1
  have x0 := g1.frozen 0
  have x1 := g1.frozen 1
  have x2 := g1.frozen 2
  have HG1 := hide g1
  have HB1 := hide hB1
  have HR1 := hide hr1
  have HA1 := hide ha1
  have HO1 := hide ho1
  clear g1 hB1 hr1 ha1 ho1
  obtain ⟨a1, ha1⟩ : ∃ a, a = (decT s).1 := ⟨_, rfl⟩
  obtain ⟨a2, ha2⟩ : ∃ a, a = (decT s).2.1 := ⟨_, rfl⟩
  obtain ⟨n3, hn3⟩ : ∃ a, a = s.size - (decT s).2.2 := ⟨_, rfl⟩
  obtain ⟨e4, he4⟩ : ∃ a, a = decE s := ⟨_, rfl⟩
  rw [← ha1, ← ha2, ← hn3, ← he4]
  rw [← hn3] at HR1 HA1 HO1
  have HE := hide (And.intro ha1 (And.intro ha2 (And.intro hn3 he4)))
  clear ha1 ha2 hn3 he4
  go_wp2_with fail
  obtain ⟨WE, hWE⟩ : ∃ WE, WE = ((w1.setCell ⟨gb, 0, none⟩ (.int .i64 a1)).setCell ⟨gb, 1, none⟩ (.int .i64 a2)).setCell ⟨gb, 2, none⟩ (.slice ao n3 cap) := ⟨_, rfl⟩
  rw [← hWE]
  have gE : WE.rowIs gb 24 3 (grD a1 a2 (.slice ao n3 cap)) := by rw [hWE]; exact grD_set HG1.out _ _ _
  obtain ⟨k0, k1, k2⟩ := grD_cells gE
  have hBE : Below gb w1 WE := by rw [hWE]; exact (((Below.refl gb w1).setCell (p := ⟨gb, 0, none⟩) (Nat.le_refl _) _).setCell (p := ⟨gb, 1, none⟩) (Nat.le_refl _) _).setCell (p := ⟨gb, 2, none⟩) (Nat.le_refl _) _
  have hTE : Touch (fun q => q = gb) w1 WE := by rw [hWE]; exact (((Touch.refl (fun q => q = gb) w1).setCell (p := ⟨gb, 0, none⟩) (.inl rfl) _).setCell (p := ⟨gb, 1, none⟩) (.inl rfl) _).setCell (p := ⟨gb, 2, none⟩) (.inl rfl) _
  refine bodyPost_ret (v := .tuple #[.agg #[.int .i64 a1, .int .i64 a2, .slice ao n3 cap], .int .i64 e4]) (by simp [results, Tryd.results20, go_sem, k0, k1, k2]) rfl ?_
  obtain ⟨ha1, ha2, hn3, he4⟩ := HE.out
  refine ⟨ao, cap, ?_, ?_, ?_, ?_, ?_⟩
  · rw [ha1, ha2, hn3, he4]
  · exact (HB0.out.trans (HB1.out.mono (by have := HB0.out.size; omega))).trans (hBE.mono hwg)
  · rw [← hn3]; exact HR1.out.of_blocks fun b hb => hTE.block b (HR1.out.lt hb).1 (by have := HO1.out b hb; omega)
  · rw [← hn3]; exact byAt_touchO HA1.out hTE (fun b hb => by have := HO1.out b hb; omega)
  · rw [← hn3]; intro q hq; have := HO1.out q hq; have := HB0.out.size; omega
end Go.Proofs.YtkhcjkmifddlbabDoor
