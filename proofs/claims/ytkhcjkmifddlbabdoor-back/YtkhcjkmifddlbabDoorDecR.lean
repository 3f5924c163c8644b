/- The program's Decode. -/
import Derived.Test.YtkhcjkmifddlbabDoorDecQ
import Derived.Test.YtkhcjkmifddlbabDoorHeldY
import Derived.Laws.IdiomStrings
namespace Go.Proofs.YtkhcjkmifddlbabDoor
open Go.RowKit Go.Deep

/-- What Decode answers. -/
def decT (s : ByteArray) : Nat × Nat × Nat := (Num.decV s).getD (0, 0, s.size)
def decE (s : ByteArray) : Int := if (Num.decV s).isNone = true then 10 else 0
theorem decT_none {s : ByteArray} (h : Num.decV s = none) : decT s = (0, 0, s.size) ∧ decE s = 10 := by unfold decT decE; rw [h]; exact ⟨rfl, rfl⟩
theorem decT_some {s : ByteArray} {t : Nat × Nat × Nat} (h : Num.decV s = some t) : decT s = t ∧ decE s = 0 := by unfold decT decE; rw [h]; exact ⟨rfl, rfl⟩
def stepV {α : Type} (S : Option (α × Nat)) (f : Nat → Option Nat) : Option (α × Nat) := S.bind fun a => (f a.2).map fun q => (a.1, q)
def sideS {α : Type} (s : ByteArray) (S : Option (α × Nat)) : Option ((α × Nat) × Nat) := S.bind fun a => (Num.sideV s a.2).map fun y => ((a.1, y.1), y.2)
def decS (s : ByteArray) : Option (((Unit × Nat) × Nat) × Nat) :=
  stepV (stepV (stepV (sideS s (stepV (sideS s (stepV (stepV (some ((), 0)) (Num.wordV s [80, 53])) (Num.gapV s))) (Num.gapV s))) (Num.gapV s)) (Num.wordV s [50, 53, 53])) (Num.spV s)
theorem decV_eq {s : ByteArray} (hs : s.size ≤ 8192) : Num.decV s = (decS s).bind fun t => if s.size - t.2 = t.1.1.2 * t.1.2 then some (t.1.1.2, t.1.2, t.2) else none := by
  unfold Num.decV decS stepV sideS
  rw [if_neg (by omega)]
  cases h1 : Num.wordV s [80, 53] 0 with
  | none => simp [h1]
  | some p1 =>
    cases h2 : Num.gapV s p1 with
    | none => simp [h1, h2]
    | some p2 =>
      cases h3 : Num.sideV s p2 with
      | none => simp [h1, h2, h3]
      | some y3 =>
        cases h4 : Num.gapV s y3.2 with
        | none => simp [h1, h2, h3, h4]
        | some p4 =>
          cases h5 : Num.sideV s p4 with
          | none => simp [h1, h2, h3, h4, h5]
          | some y5 =>
            cases h6 : Num.gapV s y5.2 with
            | none => simp [h1, h2, h3, h4, h5, h6]
            | some p6 =>
              cases h7 : Num.wordV s [50, 53, 53] p6 with
              | none => simp [h1, h2, h3, h4, h5, h6, h7]
              | some p7 =>
                cases h8 : Num.spV s p7 with
                | none => simp [h1, h2, h3, h4, h5, h6, h7, h8]
                | some p8 => simp [h1, h2, h3, h4, h5, h6, h7, h8]

/-- How far the reading has come. -/
structure RdS {α : Type} (W wk : World) (rb : Nat) (s : ByteArray) (b : Bool) (p : Nat) (x : α) (S : Option (α × Nat)) : Prop where
  row : wk.rowIs rb 95 3 (rd3 s p b)
  le : p ≤ s.size
  touch : Touch (fun q => q = rb) W wk
  st : (b = false ∧ S = some (x, p)) ∨ (b = true ∧ S = none)
theorem RdS.step {α : Type} {W wk w' : World} {rb : Nat} {s : ByteArray} {b : Bool} {p : Nat} {x : α} {S : Option (α × Nat)} {f : Nat → Option Nat} (h : RdS W wk rb s b p x S) (t : RdTo wk w' rb s b (f p)) : ∃ b' p', RdS W w' rb s b' p' x (stepV S f) := by
  obtain ⟨hT, p', hrow, hp', hq⟩ := t
  refine ⟨_, p', hrow, hp', h.touch.trans hT, ?_⟩
  rcases h.st with ⟨e1, e2⟩ | ⟨e1, e2⟩
  · rw [e1, e2]
    cases hf : f p with
    | none => right; simp [stepV, hf]
    | some q => left; rw [hq q hf]; simp [stepV, hf]
  · right; rw [e1, e2]; simp [stepV]
theorem RdS.side {α : Type} {W wk w' : World} {rb v : Nat} {s : ByteArray} {b : Bool} {p : Nat} {x : α} {S : Option (α × Nat)} (h : RdS W wk rb s b p x S) (t : RdTo wk w' rb s b ((Num.sideV s p).map Prod.snd)) (hv : ∀ y, Num.sideV s p = some y → v = y.1) : ∃ b' p', RdS W w' rb s b' p' (x, v) (sideS s S) := by
  obtain ⟨hT, p', hrow, hp', hq⟩ := t
  refine ⟨_, p', hrow, hp', h.touch.trans hT, ?_⟩
  rcases h.st with ⟨e1, e2⟩ | ⟨e1, e2⟩
  · rw [e1, e2]
    cases hf : Num.sideV s p with
    | none => right; simp [sideS, hf]
    | some y => left; rw [hq y.2 (by rw [hf]; rfl), hv y hf]; simp [sideS, hf]
  · right; rw [e1, e2]; simp [sideS]

/-- Bytes out of a string, in memory. -/
def DecO (w w' : World) (s : ByteArray) (e : Ending) : Prop := ∃ ao cap, e = .returned (.tuple #[.agg #[.int .i64 (decT s).1, .int .i64 (decT s).2.1, .slice ao (s.size - (decT s).2.2) cap], .int .i64 (decE s)]) ∧ Below w.heap.size w w' ∧ ByRow w' (.slice ao (s.size - (decT s).2.2) cap) ∧ ByAt w' ao (s.size - (decT s).2.2) (fun k => Num.byt s ((decT s).2.2 + k)) ∧ ∀ q, (Value.slice ao (s.size - (decT s).2.2) cap).ownBlock = some q → w.heap.size ≤ q
def grD (a b : Int) (v : Value) (q : Nat) : Value := [Value.int .i64 a, .int .i64 b, v][q]?.getD undef
theorem grD_row (a b : Int) (v : Value) (w : World) (t : TypeId) : (w.alloc (.cells #[.int .i64 a, .int .i64 b, v] t)).rowIs w.heap.size t 3 (grD a b v) := by
  refine World.rowIs_alloc w #[.int .i64 a, .int .i64 b, v] t (grD a b v) (fun i hi => ?_)
  have hi : i < 3 := hi
  rcases (show i = 0 ∨ i = 1 ∨ i = 2 by omega) with rfl | rfl | rfl <;> rfl
theorem grD_cells {w : World} {p : Nat} {t : TypeId} {a b : Int} {v : Value} (h : w.rowIs p t 3 (grD a b v)) : w.cell? ⟨p, 0, none⟩ = some (.int .i64 a) ∧ w.cell? ⟨p, 1, none⟩ = some (.int .i64 b) ∧ w.cell? ⟨p, 2, none⟩ = some v :=
  ⟨h.cell (i := 0) (by omega), h.cell (i := 1) (by omega), h.cell (i := 2) (by omega)⟩
theorem grD_set {w : World} {p : Nat} {t : TypeId} {f : Nat → Value} (h : w.rowIs p t 3 f) (a b : Int) (v : Value) : (((w.setCell ⟨p, 0, none⟩ (.int .i64 a)).setCell ⟨p, 1, none⟩ (.int .i64 b)).setCell ⟨p, 2, none⟩ v).rowIs p t 3 (grD a b v) := by
  refine (((h.set 0 _).set 1 _).set 2 _).congr fun q hq => ?_
  rcases (show q = 0 ∨ q = 1 ∨ q = 2 by omega) with rfl | rfl | rfl <;> rfl
theorem byt_extract {s : ByteArray} {p k : Nat} (hp : p ≤ s.size) (hk : k < s.size - p) : ((s.extract p s.size).data[k]?).map (fun b => (b.toNat : Int)) = some (Num.byt s (p + k) : Int) := by
  have h2 : s.data.size = s.size := rfl
  have h3 : (s.data.extract p s.size)[k]? = s.data[p + k]? := by rw [Array.getElem?_extract, if_pos (by omega)]
  rw [Num.byt_lt (by omega), ByteArray.data_extract, h3, Array.getElem?_eq_getElem (by omega)]
  rfl
theorem rd0_row (s : ByteArray) (w : World) (t : TypeId) : (w.alloc (.cells #[.string s, .int .i64 0, .bool false] t)).rowIs w.heap.size t 3 (rd3 s 0 false) := by
  refine World.rowIs_alloc w #[.string s, .int .i64 0, .bool false] t (rd3 s 0 false) (fun i hi => ?_)
  have hi : i < 3 := hi
  rcases (show i = 0 ∨ i = 1 ∨ i = 2 by omega) with rfl | rfl | rfl <;> rfl
theorem cellD_of_heap {w w' : World} {p : Addr} (e : w'.heap[p.block]? = w.heap[p.block]?) : w'.cell? p = w.cell? p := by unfold World.cell?; rw [e]
theorem byAt_touch {w w' : World} {b n : Nat} {S : Nat → Prop} {X : Nat → Int} (h : ByAt w (some ⟨b, 0, none⟩) n X) (hT : Touch S w w') (hb : ¬ S b) : ByAt w' (some ⟨b, 0, none⟩) n X := by
  rcases h with h | ⟨b', off, e, h⟩
  · exact .inl h
  · refine .inr ⟨b', off, e, fun k hk => ?_⟩
    have e2 : b' = b := by simp at e; exact e.1.symm
    subst e2
    rw [← h k hk]
    exact cellD_of_heap (p := ⟨b', off + k, none⟩) (hT.block _ (World.block_lt_of_cell? w _ (h k hk)) hb)
/-- What '[]byte(s[p:])' lays. -/
theorem bytes_laid {w : World} {s : ByteArray} {p : Nat} (hp : p ≤ s.size) (cap : Nat) (hc : s.size - p ≤ cap) (hc2 : (cap : Int) ≤ 9223372036854775807) :
    let W := w.drew.alloc (.cells (bytesRow (s.extract p s.size) cap) 5 ((bytesRow (s.extract p s.size) cap).size, (bytesRow (s.extract p s.size) cap).size + 1))
    ByRow W (.slice (some ⟨w.heap.size, 0, none⟩) (s.size - p) cap) ∧ ByAt W (some ⟨w.heap.size, 0, none⟩) (s.size - p) (fun k => Num.byt s (p + k)) := by
  intro W
  have hsz : (s.extract p s.size).size = s.size - p := by simp [ByteArray.size_extract]
  have hrs : (bytesRow (s.extract p s.size) cap).size = cap := by
    have : (s.extract p s.size).data.size = s.size - p := hsz
    unfold bytesRow
    simp only [Array.size_append, Array.size_map, Array.size_replicate, this, hsz]
    omega
  have hb : W.heap[w.heap.size]? = some (.cells (bytesRow (s.extract p s.size) cap) 5 ((bytesRow (s.extract p s.size) cap).size, (bytesRow (s.extract p s.size) cap).size + 1)) := by
    show (w.heap.push _)[w.heap.size]? = _
    simp
  have hrow : rowIz W w.heap.size 5 cap (fun i => (bytesRow (s.extract p s.size) cap)[i]?.getD undef) := ⟨_, _, hb, hrs, .inr (by simp only; omega), fun i hi => by simp [show i < (bytesRow (s.extract p s.size) cap).size by omega]⟩
  refine ⟨⟨some w.heap.size, s.size - p, cap, rfl, hc, hc2, (fun e => by cases e), fun b hbb => ⟨_, by simp at hbb; subst hbb; exact hrow⟩⟩, ?_⟩
  rcases Nat.eq_zero_or_pos (s.size - p) with h0 | h0
  · exact .inl h0
  · refine .inr ⟨w.heap.size, 0, rfl, fun k hk => ?_⟩
    have hk2 : k < (s.extract p s.size).data.size := by have : (s.extract p s.size).data.size = s.size - p := hsz; omega
    rw [Nat.zero_add, hrow.cell (by omega), bytesRow_at _ _ _ hk2]
    have := byt_extract hp hk
    rw [Array.getElem?_eq_getElem hk2] at this
    simp only [Option.map_some, Option.some.injEq] at this
    simp only [Option.getD_some]
    rw [this]

set_option maxRecDepth 100000 in
set_option maxHeartbeats 4000000 in
theorem decode_any (s : ByteArray) (w : World) (hs2 : (s.size : Int) ≤ 9000000000000000000) : Calls Tryd.prog 32 #[.string s] w fun e w' => DecO w w' s e := by
  obtain ⟨gb, hgb⟩ : ∃ gb, gb = w.heap.size := ⟨_, rfl⟩
  obtain ⟨W0, hW0⟩ : ∃ W0, W0 = w.alloc (.cells #[.int .i64 0, .int .i64 0, .slice none 0 0] 24) := ⟨_, rfl⟩
  have hg0 : W0.rowIs gb 24 3 (grD 0 0 (.slice none 0 0)) := by rw [hW0, hgb]; exact grD_row _ _ _ _ _
  have hB0 : Below w.heap.size w W0 := by rw [hW0]; exact (Below.refl _ _).alloc (Nat.le_refl _) _
  have hs0 : W0.heap.size = gb + 1 := by rw [hW0, hgb]; simp
  have none_fin : ∀ wx : World, Num.decV s = none → Below w.heap.size w wx → DecO w wx s (.returned (.tuple #[.agg #[.int .i64 0, .int .i64 0, .slice none 0 0], .int .i64 10])) := fun wx hn hb => by
    obtain ⟨e1, e2⟩ := decT_none hn
    refine ⟨none, 0, ?_, hb, ?_, ?_, ?_⟩
    · rw [e1, e2]; simp
    · rw [e1]; simp; exact ByRow.nil
    · rw [e1]; simp; exact .inl rfl
    · intro q hq; simp [Value.ownBlock] at hq
  by_cases hs : s.size ≤ 8192
  · have hd : decide ((8192 : Int) < (s.size : Int)) = false := by simp; omega
    obtain ⟨W1, hW1⟩ : ∃ W1, W1 = W0.alloc (.cells #[.string s, .int .i64 0, .bool false] 95) := ⟨_, rfl⟩
    obtain ⟨rb, hrb⟩ : ∃ rb, rb = gb + 1 := ⟨_, rfl⟩
    have hr1 : W1.rowIs rb 95 3 (rd3 s 0 false) := by rw [hW1, hrb, ← hs0]; exact rd0_row _ _ _
    have hg1 : W1.rowIs gb 24 3 (grD 0 0 (.slice none 0 0)) := by rw [hW1]; exact hg0.alloc _
    have hB1 : Below w.heap.size w W1 := by rw [hW1]; exact hB0.alloc (by omega) _
    have R0 : RdS W1 W1 rb s false 0 () (some ((), 0)) := ⟨hr1, by omega, Touch.refl _ _, .inl ⟨rfl, rfl⟩⟩
    have HNone := hide none_fin
    have HG1 := hide hg1
    have HB1 := hide hB1
    have HD := hide (decV_eq hs)
    have hgr : gb ≠ rb := by omega
    have hwg : w.heap.size ≤ gb := by omega
    have hs1 : W1.heap.size = rb + 1 := by rw [hW1]; simp; omega
    have HR0 := hide R0
    clear none_fin hg1 hB1 hg0 hB0 R0 hr1
    go_enter Tryd.func32, Tryd.ntmps32
    go_wp2_with fail
    rw [← hW0, ← hW1]
    rw [← hgb]
    rw [← hrb]
    have HGb := hide hgb
    have HRb := hide hrb
    clear hgb hrb hW0 hW1 hs0
    refine (rdWord_any rb s ⟨#[80, 53]⟩ 0 false W1 hs (by decide) (by omega) HR0.out.row).mono ?_
    rintro e w1 ⟨rfl, t1⟩
    rw [show (ByteArray.mk #[80, 53]).toList = [80, 53] from ByteArray.toList_mk _] at t1
    obtain ⟨b1, p1, R1⟩ := HR0.out.step t1
    have HR1 := hide R1
    clear t1 R1 HR0
    go_wp2_with fail
    refine (rdGap_any rb s p1 b1 w1 hs HR1.out.le HR1.out.row).mono ?_
    rintro e w2 ⟨rfl, t2⟩
    obtain ⟨b2, p2, R2⟩ := HR1.out.step t2
    have HR2 := hide R2
    clear t2 R2 HR1
    go_wp2_with fail
    refine (rdSide_any rb s p2 b2 w2 hs HR2.out.le HR2.out.row).mono ?_
    rintro e w3 ⟨v1, rfl, hv1, t3, hx3⟩
    obtain ⟨b3, p3, R3⟩ := HR2.out.side t3 hx3
    have HR3 := hide R3
    clear t3 R3 HR2 hx3
    go_wp2_with fail
    refine (rdGap_any rb s p3 b3 w3 hs HR3.out.le HR3.out.row).mono ?_
    rintro e w4 ⟨rfl, t4⟩
    obtain ⟨b4, p4, R4⟩ := HR3.out.step t4
    have HR4 := hide R4
    clear t4 R4 HR3
    go_wp2_with fail
    refine (rdSide_any rb s p4 b4 w4 hs HR4.out.le HR4.out.row).mono ?_
    rintro e w5 ⟨v2, rfl, hv2, t5, hx5⟩
    obtain ⟨b5, p5, R5⟩ := HR4.out.side t5 hx5
    have HR5 := hide R5
    clear t5 R5 HR4 hx5
    go_wp2_with fail
    refine (rdGap_any rb s p5 b5 w5 hs HR5.out.le HR5.out.row).mono ?_
    rintro e w6 ⟨rfl, t6⟩
    obtain ⟨b6, p6, R6⟩ := HR5.out.step t6
    have HR6 := hide R6
    clear t6 R6 HR5
    go_wp2_with fail
    refine (rdWord_any rb s ⟨#[50, 53, 53]⟩ p6 b6 w6 hs (by decide) HR6.out.le HR6.out.row).mono ?_
    rintro e w7 ⟨rfl, t7⟩
    rw [show (ByteArray.mk #[50, 53, 53]).toList = [50, 53, 53] from ByteArray.toList_mk _] at t7
    obtain ⟨b7, p7, R7⟩ := HR6.out.step t7
    have HR7 := hide R7
    clear t7 R7 HR6
    go_wp2_with fail
    refine (rdSpace_any rb s p7 b7 w7 hs HR7.out.le HR7.out.row).mono ?_
    rintro e w8 ⟨rfl, t8⟩
    obtain ⟨b8, p8, R8⟩ := HR7.out.step t8
    have HR8 := hide R8
    clear t8 R8 HR7
    obtain ⟨c0, c1, c2, z0, z1, z2⟩ := rd_cells HR8.out.row
    have hp8 := HR8.out.le
    have hrl := HR8.out.row.lt
    have g8 : w8.rowIs gb 24 3 (grD 0 0 (.slice none 0 0)) := HG1.out.of_block (HR8.out.touch.block gb (by have := HRb.out; omega) hgr)
    have hB8 : Below w.heap.size w w8 := ⟨HR8.out.touch.os.trans HB1.out.os, HR8.out.touch.tape.trans HB1.out.tape, HR8.out.touch.output.trans HB1.out.output, by have := HB1.out.size; have := HR8.out.touch.size; omega, fun q hq => by rw [HR8.out.touch.block q (by have := HRb.out; omega) (by have := HRb.out; omega)]; exact HB1.out.block q hq⟩
    have HG8 := hide g8
    have HB8 := hide hB8
    have hgl := g8.lt
    obtain ⟨y0, y1, y2⟩ := grD_cells g8
    have x0 := g8.frozen 0
    have x1 := g8.frozen 1
    have x2 := g8.frozen 2
    have w1_ : IntKind.i64.wrap ((s.size : Int) - (p8 : Int)) = (s.size : Int) - (p8 : Int) := wrap_ok _ (by omega) (by omega)
    have hmul : v1 * v2 ≤ 4096 := Nat.le_trans (Nat.mul_le_mul hv1 hv2) (by omega)
    have w2_ : IntKind.i64.wrap ((v1 : Int) * (v2 : Int)) = (v1 : Int) * (v2 : Int) := wrap_ok _ (by rw [← Int.natCast_mul]; omega) (by rw [← Int.natCast_mul]; omega)
    clear g8 hB8 hmul
    cases b8
    · by_cases hq : s.size - p8 = v1 * v2
      · have hne : ((s.size : Int) - (p8 : Int) != (v1 : Int) * (v2 : Int)) = false := by simp; rw [← Int.natCast_mul]; omega
        have HQ := hide hq
        clear hq
        have HV : Hid (Num.decV s = some (v1, v2, p8)) := by
          unfold Hid; rw [HD.out]
          rcases HR8.out.st with ⟨_, e2⟩ | ⟨e1, _⟩
          · rw [show decS s = some ((((), v1), v2), p8) from e2]; simp [HQ.out]
          · cases e1
        obtain ⟨e1, e2⟩ := decT_some HV.out
        have hsz : (s.extract p8 s.size).size = s.size - p8 := by simp [ByteArray.size_extract]
        have hrun := run_bytes_of_string (P := Tryd.prog) w8 9 22 5 (s.extract p8 s.size) rfl rfl rfl
        rw [hsz] at hrun
        have hc1 := grownCap_ge w8 (s.size - p8) 0 5
        have hc2 := grownCap_le_maxLen w8 (s.size - p8) 0 5
        obtain ⟨cap, hcap⟩ : ∃ c, c = grownCap w8 (s.size - p8) 0 5 := ⟨_, rfl⟩
        rw [← hcap] at hrun hc1 hc2
        have hc3 : (cap : Int) ≤ 9223372036854775807 := by have := hc2 (by simp [maxLen]; omega); simp [maxLen] at this; omega
        have hl := bytes_laid (w := w8) hp8 cap hc1 hc3
        obtain ⟨W9, hW9⟩ : ∃ W9, W9 = w8.drew.alloc (.cells (bytesRow (s.extract p8 s.size) cap) 5 ((bytesRow (s.extract p8 s.size) cap).size, (bytesRow (s.extract p8 s.size) cap).size + 1)) := ⟨_, rfl⟩
        obtain ⟨nb, hnb⟩ : ∃ nb, nb = w8.heap.size := ⟨_, rfl⟩
        simp only at hl
        rw [← hW9, ← hnb] at hl
        rw [← hW9, ← hnb] at hrun
        have HB9 : Hid (Below w8.heap.size w8 W9) := by unfold Hid; rw [hW9]; exact ((Below.refl _ _).drew).alloc (Nat.le_refl _) _
        have g9 : W9.rowIs gb 24 3 (grD 0 0 (.slice none 0 0)) := HG8.out.of_block (HB9.out.block gb hgl)
        obtain ⟨q0, q1, q2⟩ := grD_cells g9
        have u0 := g9.frozen 0
        have u1 := g9.frozen 1
        have u2 := g9.frozen 2
        have hgl9 := g9.lt
        have hgn : gb ≠ nb := by omega
        have HL := hide hl
        have HE1 := hide e1
        have HE2 := hide e2
        have HNb := hide hnb
        have HG9 := hide g9
        have HC := hide (And.intro hc1 hc3)
        clear hl e1 e2 hnb g9 hcap hW9 hc1 hc2 hc3 hsz
        go_wp2_with fail
        obtain ⟨WE, hWE⟩ : ∃ WE, WE = ((W9.setCell ⟨gb, 0, none⟩ (.int .i64 v1)).setCell ⟨gb, 1, none⟩ (.int .i64 v2)).setCell ⟨gb, 2, none⟩ (.slice (some ⟨nb, 0, none⟩) (s.size - p8) cap) := ⟨_, rfl⟩
        rw [← hWE]
        have gE : WE.rowIs gb 24 3 (grD v1 v2 (.slice (some ⟨nb, 0, none⟩) (s.size - p8) cap)) := by rw [hWE]; exact grD_set HG9.out _ _ _
        obtain ⟨k0, k1, k2⟩ := grD_cells gE
        have hBE : Below gb W9 WE := by rw [hWE]; exact (((Below.refl gb W9).setCell (p := ⟨gb, 0, none⟩) (Nat.le_refl _) _).setCell (p := ⟨gb, 1, none⟩) (Nat.le_refl _) _).setCell (p := ⟨gb, 2, none⟩) (Nat.le_refl _) _
        have hTE : Touch (fun q => q = gb) W9 WE := by rw [hWE]; exact (((Touch.refl (fun q => q = gb) W9).setCell (p := ⟨gb, 0, none⟩) (.inl rfl) _).setCell (p := ⟨gb, 1, none⟩) (.inl rfl) _).setCell (p := ⟨gb, 2, none⟩) (.inl rfl) _
        refine bodyPost_ret (v := .tuple #[.agg #[.int .i64 v1, .int .i64 v2, .slice (some ⟨nb, 0, none⟩) (s.size - p8) cap], .int .i64 0]) (by simp [results, Tryd.results32, go_sem, k0, k1, k2]) rfl ?_
        refine ⟨some ⟨nb, 0, none⟩, cap, ?_, ?_, ?_, ?_, ?_⟩
        · rw [HE1.out, HE2.out]
        · exact (HB8.out.trans (HB9.out.mono (by have := HB8.out.size; omega))).trans (hBE.mono hwg)
        · rw [HE1.out]; exact HL.out.1.of_blocks fun b hb => hTE.block b (HL.out.1.lt hb).1 (by simp [Value.ownBlock] at hb; omega)
        · rw [HE1.out]; exact byAt_touch HL.out.2 hTE (fun e => hgn e.symm)
        · rw [HE1.out]; intro q hq; simp [Value.ownBlock] at hq; have := HNb.out; have := HB8.out.size; omega
      · have hne : ((s.size : Int) - (p8 : Int) != (v1 : Int) * (v2 : Int)) = true := by simp; intro e; rw [← Int.natCast_mul] at e; omega
        have HV : Hid (Num.decV s = none) := by
          unfold Hid; rw [HD.out]
          rcases HR8.out.st with ⟨_, e2⟩ | ⟨e1, _⟩
          · rw [show decS s = some ((((), v1), v2), p8) from e2]; simp [hq]
          · cases e1
        go_wp2_with fail
        obtain ⟨WE, hWE⟩ : ∃ WE, WE = ((w8.setCell ⟨gb, 0, none⟩ (.int .i64 0)).setCell ⟨gb, 1, none⟩ (.int .i64 0)).setCell ⟨gb, 2, none⟩ (.slice none 0 0) := ⟨_, rfl⟩
        rw [← hWE]
        have gE : WE.rowIs gb 24 3 (grD 0 0 (.slice none 0 0)) := by rw [hWE]; exact grD_set HG8.out _ _ _
        obtain ⟨k0, k1, k2⟩ := grD_cells gE
        exact bodyPost_ret (v := .tuple #[.agg #[.int .i64 0, .int .i64 0, .slice none 0 0], .int .i64 10]) (by simp [results, Tryd.results32, go_sem, k0, k1, k2]) rfl (HNone.out WE HV.out (by rw [hWE]; exact ((HB8.out.setCell hwg _).setCell hwg _).setCell hwg _))
    · have HV : Hid (Num.decV s = none) := by
        unfold Hid; rw [HD.out]
        rcases HR8.out.st with ⟨e1, _⟩ | ⟨_, e2⟩
        · cases e1
        · rw [show decS s = none from e2]; rfl
      go_wp2_with fail
      obtain ⟨WE, hWE⟩ : ∃ WE, WE = ((w8.setCell ⟨gb, 0, none⟩ (.int .i64 0)).setCell ⟨gb, 1, none⟩ (.int .i64 0)).setCell ⟨gb, 2, none⟩ (.slice none 0 0) := ⟨_, rfl⟩
      rw [← hWE]
      have gE : WE.rowIs gb 24 3 (grD 0 0 (.slice none 0 0)) := by rw [hWE]; exact grD_set HG8.out _ _ _
      obtain ⟨k0, k1, k2⟩ := grD_cells gE
      exact bodyPost_ret (v := .tuple #[.agg #[.int .i64 0, .int .i64 0, .slice none 0 0], .int .i64 10]) (by simp [results, Tryd.results32, go_sem, k0, k1, k2]) rfl (HNone.out WE HV.out (by rw [hWE]; exact ((HB8.out.setCell hwg _).setCell hwg _).setCell hwg _))
  · have hd : decide ((8192 : Int) < (s.size : Int)) = true := by simp; omega
    have HV : Hid (Num.decV s = none) := by unfold Hid Num.decV; rw [if_pos (by omega)]
    have HNone := hide none_fin
    have HG0 := hide hg0
    have HB0 := hide hB0
    have hwg : w.heap.size ≤ gb := by omega
    clear none_fin hg0 hB0
    go_enter Tryd.func32, Tryd.ntmps32
    go_wp2_with fail
    rw [← hW0]
    rw [← hgb]
    obtain ⟨y0, y1, y2⟩ := grD_cells HG0.out
    exact bodyPost_ret (v := .tuple #[.agg #[.int .i64 0, .int .i64 0, .slice none 0 0], .int .i64 10]) (by simp [results, Tryd.results32, go_sem, y0, y1, y2]) rfl (HNone.out W0 HV.out HB0.out)
end Go.Proofs.YtkhcjkmifddlbabDoor
