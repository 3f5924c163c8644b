/- The program's reader. -/
import Derived.Test.YtkhcjkmifddlbabDoorDecV
import Derived.Test.YtkhcjkmifddlbabDoorHeld
import Derived.Test.YtkhcjkmifddlbabDoorPlace
import Derived.Laws.DeepStrings4
namespace Go.Proofs.YtkhcjkmifddlbabDoor
open Go.RowKit Go.Deep

/-- The cells of a reader. -/
def rd3 (s : ByteArray) (p : Nat) (b : Bool) (q : Nat) : Value := if q = 0 then .string s else if q = 1 then .int .i64 p else .bool b
/-- What a step of the reading has made of a reader that stood at p: o is where the document's reading stands behind it. -/
def RdTo (w w' : World) (rb : Nat) (s : ByteArray) (b : Bool) (o : Option Nat) : Prop := Touch (fun q => q = rb) w w' ∧ ∃ p', w'.rowIs rb 95 3 (rd3 s p' (b || o.isNone)) ∧ p' ≤ s.size ∧ ∀ q, o = some q → p' = q

theorem rd_cells {w : World} {rb : Nat} {t : TypeId} {s : ByteArray} {p : Nat} {b : Bool} (h : w.rowIs rb t 3 (rd3 s p b)) : w.cell? ⟨rb, 0, none⟩ = some (.string s) ∧ w.cell? ⟨rb, 1, none⟩ = some (.int .i64 p) ∧ w.cell? ⟨rb, 2, none⟩ = some (.bool b) ∧ w.frozen? ⟨rb, 0, none⟩ = false ∧ w.frozen? ⟨rb, 1, none⟩ = false ∧ w.frozen? ⟨rb, 2, none⟩ = false :=
  ⟨h.cell (i := 0) (by omega), h.cell (i := 1) (by omega), h.cell (i := 2) (by omega), h.frozen 0, h.frozen 1, h.frozen 2⟩
theorem rd_at {w : World} {rb : Nat} {t : TypeId} {s : ByteArray} {p : Nat} {b : Bool} (h : w.rowIs rb t 3 (rd3 s p b)) (q : Nat) : (w.setCell ⟨rb, 1, none⟩ (.int .i64 q)).rowIs rb t 3 (rd3 s q b) := by
  refine (h.set 1 _).congr fun i hi => ?_
  rcases (show i = 0 ∨ i = 1 ∨ i = 2 by omega) with rfl | rfl | rfl <;> rfl
theorem rd_bad {w : World} {rb : Nat} {t : TypeId} {s : ByteArray} {p : Nat} {b : Bool} (h : w.rowIs rb t 3 (rd3 s p b)) : (w.setCell ⟨rb, 2, none⟩ (.bool true)).rowIs rb t 3 (rd3 s p true) := by
  refine (h.set 2 _).congr fun i hi => ?_
  rcases (show i = 0 ∨ i = 1 ∨ i = 2 by omega) with rfl | rfl | rfl <;> rfl

set_option maxHeartbeats 400000 in
theorem isSpace_any (c : Nat) (w : World) :
    Calls Tryd.prog 51 #[.int .u8 c] w fun e w' => e = .returned (.bool (Num.isSp c)) ∧ w' = w := by
  go_enter Tryd.func51, Tryd.ntmps51
  by_cases h1 : (c : Int) = 32
  · go_wp2
    go_ret
    exact ⟨ret_bool (by simp [Num.isSp]; omega), rfl⟩
  by_cases h2 : (c : Int) = 9
  · go_wp2
    go_ret
    exact ⟨ret_bool (by simp [Num.isSp]; omega), rfl⟩
  by_cases h3 : (c : Int) = 10
  · go_wp2
    go_ret
    exact ⟨ret_bool (by simp [Num.isSp]; omega), rfl⟩
  by_cases h4 : (c : Int) = 13
  · go_wp2
    go_ret
    exact ⟨ret_bool (by simp [Num.isSp]; omega), rfl⟩
  · have e : Num.isSp c = false := by simp [Num.isSp]; omega
    have a1 : ((c : Int) == 32) = false := by simp; omega
    have a2 : ((c : Int) == 9) = false := by simp; omega
    have a3 : ((c : Int) == 10) = false := by simp; omega
    have a4 : ((c : Int) == 13) = false := by simp; omega
    go_wp2
    go_ret
    exact ⟨ret_bool (by rw [e]), rfl⟩

set_option maxHeartbeats 400000 in
theorem isDigit_any (c : Nat) (w : World) :
    Calls Tryd.prog 52 #[.int .u8 c] w fun e w' => e = .returned (.bool (Num.isDg c)) ∧ w' = w := by
  go_enter Tryd.func52, Tryd.ntmps52
  by_cases h1 : (48 : Int) ≤ (c : Int)
  · by_cases h2 : (c : Int) ≤ 57
    · go_wp2
      go_ret
      exact ⟨ret_bool (by simp [Num.isDg]; omega), rfl⟩
    · go_wp2
      go_ret
      exact ⟨ret_bool (by simp [Num.isDg]; omega), rfl⟩
  · go_wp2
    go_ret
    exact ⟨ret_bool (by simp [Num.isDg]; omega), rfl⟩

theorem byt_ix {s : ByteArray} {p : Nat} (h : p < s.size) : (s[p].toNat : Int) = ((Num.byt s p : Nat) : Int) := by rw [Num.byt_lt h]

theorem row_drewN {w : World} {b k : Nat} {t : TypeId} {f : Nat → Value} (h : w.rowIs b t k f) (n : Nat) : (w.drewN n).rowIs b t k f := h.of_block rfl
/-- A reader that goes on to q. -/
theorem RdTo.go {w : World} {rb : Nat} {s : ByteArray} {p n : Nat} {z : Int} {b : Bool} {o : Option Nat} (q : Nat) (h : w.rowIs rb 95 3 (rd3 s p b)) (hq : q ≤ s.size) (ho : o = some q) (hz : z = (q : Int)) : RdTo w ((w.drewN n).setCell ⟨rb, 1, none⟩ (.int .i64 z)) rb s b o := by
  subst hz
  refine ⟨((Touch.refl (fun q => q = rb) w).drewN n).setCell (p := ⟨rb, 1, none⟩) (.inl rfl) _, q, ?_, hq, fun r hr => by rw [ho] at hr; simp at hr; exact hr⟩
  rw [ho]
  simp only [Option.isNone_some, Bool.or_false]
  exact rd_at (row_drewN h n) q
/-- A reader that becomes bad. -/
theorem RdTo.bad {w : World} {rb : Nat} {s : ByteArray} {p n : Nat} {b : Bool} {o : Option Nat} (h : w.rowIs rb 95 3 (rd3 s p b)) (hp : p ≤ s.size) (ho : o = none) : RdTo w ((w.drewN n).setCell ⟨rb, 2, none⟩ (.bool true)) rb s b o := by
  refine ⟨((Touch.refl (fun q => q = rb) w).drewN n).setCell (p := ⟨rb, 2, none⟩) (.inl rfl) _, p, ?_, hp, fun r hr => by rw [ho] at hr; cases hr⟩
  rw [ho]
  simp only [Option.isNone_none, Bool.or_true]
  exact rd_bad (row_drewN h n)

set_option maxRecDepth 100000 in
set_option maxHeartbeats 1000000 in
theorem rdSpace_any (rb : Nat) (s : ByteArray) (p : Nat) (b : Bool) (w : World) (hs : s.size ≤ 8192) (hp : p ≤ s.size) (h : w.rowIs rb 95 3 (rd3 s p b)) :
    Calls Tryd.prog 45 #[.pointer (some ⟨rb, 0, none⟩)] w fun e w' => e = .returned (.tuple #[]) ∧ RdTo w w' rb s b (Num.spV s p) := by
  obtain ⟨c0, c1, c2, z0, z1, z2⟩ := rd_cells h
  have hrl := h.lt
  have HH := hide h
  clear h
  by_cases h1 : p < s.size
  · have g0 : (0 : Int) ≤ (p : Int) := by omega
    have g1 : (p : Int) < (s.size : Int) := by omega
    have hd : decide ((s.size : Int) ≤ (p : Int)) = false := by simp; omega
    have HSp := hide (fun w' => isSpace_any (Num.byt s p) w')
    have hbx := byt_ix h1
    cases hsp : Num.isSp (Num.byt s p)
    · have HV : Hid (Num.spV s p = none) := by unfold Hid Num.spV; rw [if_neg (by simp [hsp])]
      rw [hsp] at HSp
      go_enter Tryd.func45, Tryd.ntmps45
      go_wp2_with fail
      go_quiet ((go_at_call 51; refine Calls.quiet_of_same (HSp.out _)))
      go_wp2
      exact bodyPost_ret (results_none rfl _ _ _) rfl ⟨rfl, RdTo.bad HH.out hp HV.out⟩
    · have HV : Hid (Num.spV s p = some (p + 1)) := by unfold Hid Num.spV; rw [if_pos ⟨h1, hsp⟩]
      rw [hsp] at HSp
      go_enter Tryd.func45, Tryd.ntmps45
      go_wp2_with fail
      go_quiet ((go_at_call 51; refine Calls.quiet_of_same (HSp.out _)))
      go_wp2
      go_end0
      exact ⟨rfl, RdTo.go _ HH.out (by omega) HV.out (by push_cast; rfl)⟩
  · have hd : decide ((s.size : Int) ≤ (p : Int)) = true := by simp; omega
    have HV : Hid (Num.spV s p = none) := by unfold Hid Num.spV; rw [if_neg (by omega)]
    go_enter Tryd.func45, Tryd.ntmps45
    go_wp2_with fail
    go_quiet (fail)
    go_wp2
    exact bodyPost_ret (results_none rfl _ _ _) rfl ⟨rfl, RdTo.bad HH.out hp HV.out⟩

set_option maxRecDepth 100000 in
set_option maxHeartbeats 1000000 in
theorem rdWord_any (rb : Nat) (s t : ByteArray) (p : Nat) (b : Bool) (w : World) (hs : s.size ≤ 8192) (ht : t.size ≤ 10) (hp : p ≤ s.size) (h : w.rowIs rb 95 3 (rd3 s p b)) :
    Calls Tryd.prog 42 #[.pointer (some ⟨rb, 0, none⟩), .string t] w fun e w' => e = .returned (.tuple #[]) ∧ RdTo w w' rb s b (Num.wordV s t.toList p) := by
  obtain ⟨c0, c1, c2, z0, z1, z2⟩ := rd_cells h
  have hrl := h.lt
  have htl : t.toList.length = t.size := by rw [ByteArray.toList_eq]; rfl
  have HTl := hide htl
  have HH := hide h
  have w1 : IntKind.i64.wrap ((s.size : Int) - (p : Int)) = (s.size : Int) - (p : Int) := wrap_ok _ (by omega) (by omega)
  have w2 : IntKind.i64.wrap ((p : Int) + (t.size : Int)) = (p : Int) + (t.size : Int) := wrap_ok _ (by omega) (by omega)
  clear h htl
  by_cases h1 : p + t.size ≤ s.size
  · have hd : decide ((s.size : Int) - (p : Int) < (t.size : Int)) = false := by simp; omega
    have g0 : (0 : Int) ≤ (p : Int) := by omega
    have g1 : (0 : Int) ≤ (p : Int) + (t.size : Int) := by omega
    have g2 : (p : Int) + (t.size : Int) ≤ (s.size : Int) := by omega
    have g3 : (p : Int) ≤ (p : Int) + (t.size : Int) := by omega
    have hn : ((p : Int) + (t.size : Int)).toNat = p + t.size := by omega
    cases hq : ((s.extract p (p + t.size)).toList == t.toList)
    · have HV : Hid (Num.wordV s t.toList p = none) := by unfold Hid Num.wordV; rw [HTl.out, if_neg (by simp at hq; intro e; exact hq e.2)]
      go_enter Tryd.func42, Tryd.ntmps42
      go_wp2_with fail
      go_quiet (fail)
      go_wp2
      exact bodyPost_ret (results_none rfl _ _ _) rfl ⟨rfl, RdTo.bad HH.out hp HV.out⟩
    · have HV : Hid (Num.wordV s t.toList p = some (p + t.size)) := by unfold Hid Num.wordV; rw [HTl.out, if_pos ⟨h1, by simpa using hq⟩]
      go_enter Tryd.func42, Tryd.ntmps42
      go_wp2_with fail
      go_quiet (fail)
      go_wp2
      go_end0
      exact ⟨rfl, RdTo.go _ HH.out (by omega) HV.out (by push_cast; rfl)⟩
  · have hd : decide ((s.size : Int) - (p : Int) < (t.size : Int)) = true := by simp; omega
    have HV : Hid (Num.wordV s t.toList p = none) := by unfold Hid Num.wordV; rw [HTl.out, if_neg (by omega)]
    go_enter Tryd.func42, Tryd.ntmps42
    go_wp2_with fail
    go_quiet (fail)
    go_wp2
    exact bodyPost_ret (results_none rfl _ _ _) rfl ⟨rfl, RdTo.bad HH.out hp HV.out⟩

/-- Where a reader stands. -/
def rdAt (w : World) (rb : Nat) : Nat := match w.cell? ⟨rb, 1, none⟩ with
  | some v => (intOf v).toNat
  | none => 0
theorem rdAt_row {w : World} {rb : Nat} {t : TypeId} {s : ByteArray} {p : Nat} {b : Bool} (h : w.rowIs rb t 3 (rd3 s p b)) : rdAt w rb = p := by
  unfold rdAt
  rw [(rd_cells h).2.1]
  simp [intOf]
theorem RdTo.touch {w wr w' : World} {rb : Nat} {s : ByteArray} {b : Bool} {o : Option Nat} (h : RdTo wr w' rb s b o) (hT : Touch (fun q => q = rb) w wr) : RdTo w w' rb s b o := ⟨hT.trans h.1, h.2⟩
theorem rd_goN {w : World} {rb : Nat} {t : TypeId} {s : ByteArray} {p q n : Nat} {z : Int} {b : Bool} (h : w.rowIs rb t 3 (rd3 s p b)) (hz : z = (q : Int)) : ((w.drewN n).setCell ⟨rb, 1, none⟩ (.int .i64 z)).rowIs rb t 3 (rd3 s q b) := by
  subst hz; exact rd_at (row_drewN h n) q
theorem touch_goN {w wr : World} {rb n : Nat} {v : Value} (h : Touch (fun q => q = rb) w wr) : Touch (fun q => q = rb) w ((wr.drewN n).setCell ⟨rb, 1, none⟩ v) := (h.drewN n).setCell (p := ⟨rb, 1, none⟩) (.inl rfl) _

set_option maxRecDepth 100000 in
set_option maxHeartbeats 1000000 in
theorem rdRemark_any (rb : Nat) (s : ByteArray) (p : Nat) (b : Bool) (w : World) (hs : s.size ≤ 8192) (hp : p ≤ s.size) (h : w.rowIs rb 95 3 (rd3 s p b)) :
    Calls Tryd.prog 50 #[.pointer (some ⟨rb, 0, none⟩)] w fun e w' => e = .returned (.tuple #[]) ∧ RdTo w w' rb s b (Num.remV s p) ∧ (Num.remV s p = none → rdAt w' rb = s.size) := by
  have HH := hide h
  clear h
  go_enter Tryd.func50, Tryd.ntmps50
  go_wp2_with fail
  go_loopw [] (fun wr => ∃ q : Nat, q ≤ s.size ∧ wr.rowIs rb 95 3 (rd3 s q b) ∧ Touch (fun q => q = rb) w wr ∧ Num.remV s p = Num.remV s q) (fun wr => s.size - rdAt wr rb)
  case atStart => exact ⟨p, hp, HH.out, Touch.refl _ _, rfl⟩
  case round =>
    obtain ⟨q, hq, hrow, hT, hV⟩ := hrel
    obtain ⟨c0, c1, c2, z0, z1, z2⟩ := rd_cells hrow
    have hrl := hrow.lt
    have HRow := hide hrow
    have HT := hide hT
    have HAt := hide (rdAt_row hrow)
    have HV := hide hV
    clear hrow hT hV
    by_cases h1 : q < s.size
    · have g0 : (0 : Int) ≤ (q : Int) := by omega
      have g1 : (q : Int) < (s.size : Int) := by omega
      have hd : decide ((q : Int) < (s.size : Int)) = true := by simp; omega
      have hbx := byt_ix h1
      have w1 : IntKind.i64.wrap ((q : Int) + 1) = (q : Int) + 1 := wrap_ok _ (by omega) (by omega)
      by_cases h10 : Num.byt s q = 10
      · have HR : Hid (Num.remV s p = some (q + 1)) := by unfold Hid; rw [HV.out, Num.remV, if_pos h1, if_pos h10]
        have e1 : ((Num.byt s q : Nat) : Int) = 10 := by omega
        rw [e1] at hbx
        go_wp2_with fail
        go_quiet (fail)
        go_wp2_with fail
        go_quiet (fail)
        go_wp2
        exact bodyPost_ret (results_none rfl _ _ _) rfl ⟨rfl, (RdTo.go (q + 1) HRow.out (by omega) HR.out (by push_cast; rfl)).touch HT.out, fun e => by rw [HR.out] at e; cases e⟩
      · have HR : Hid (Num.remV s p = Num.remV s (q + 1)) := by unfold Hid; rw [HV.out]; conv => lhs; rw [Num.remV, if_pos h1, if_neg h10]
        have e1 : (((Num.byt s q : Nat) : Int) == 10) = false := by simp; omega
        have e2 : ¬ ((Num.byt s q : Nat) : Int) = 10 := by omega
        go_wp2_with fail
        go_quiet (fail)
        go_wp2_with fail
        go_quiet (fail)
        go_wp2
        go_roundw
        case rel => exact ⟨q + 1, by omega, rd_goN HRow.out (by push_cast; rfl), touch_goN HT.out, HR.out⟩
        case measure => rw [HAt.out, rdAt_row (rd_goN (q := q + 1) HRow.out (by push_cast; rfl))]; omega
    · have hd : decide ((q : Int) < (s.size : Int)) = false := by simp; omega
      have HR : Hid (Num.remV s p = none) := by unfold Hid; rw [HV.out, Num.remV, if_neg h1]
      go_wp2_with fail
      go_quiet (fail)
      go_wp2
      go_end0
      exact ⟨rfl, (RdTo.bad HRow.out hq HR.out).touch HT.out, fun _ => by rw [rdAt_row (rd_bad (row_drewN HRow.out _))]; omega⟩

set_option maxRecDepth 100000 in
set_option maxHeartbeats 1000000 in
theorem rdGap_any (rb : Nat) (s : ByteArray) (p : Nat) (b : Bool) (w : World) (hs : s.size ≤ 8192) (hp : p ≤ s.size) (h : w.rowIs rb 95 3 (rd3 s p b)) :
    Calls Tryd.prog 43 #[.pointer (some ⟨rb, 0, none⟩)] w fun e w' => e = .returned (.tuple #[]) ∧ RdTo w w' rb s b (Num.gapV s p) := by
  have HSp := hide (rdSpace_any rb s p b w hs hp h)
  have HRem := hide (fun q b w' (hq : q ≤ s.size) (h : w'.rowIs rb 95 3 (rd3 s q b)) => rdRemark_any rb s q b w' hs hq h)
  clear h
  go_enter Tryd.func43, Tryd.ntmps43
  go_wp2_with fail
  refine HSp.out.mono ?_
  rintro e w1 ⟨rfl, hT1, p1, hrow1, hp1, hq1⟩
  have HT1 := hide hT1
  have HRow1 := hide hrow1
  -- where the gap goes on from
  have HG : Hid (∃ b1, b1 = (b || (Num.spV s p).isNone) ∧ ((b1 = b ∧ Num.gapV s p = Num.skipV s p1) ∨ (b1 = true ∧ Num.gapV s p = none))) := by
    refine ⟨_, rfl, ?_⟩
    unfold Num.gapV
    cases hsp : Num.spV s p with
    | none => right; simp
    | some r => left; rw [hq1 r hsp]; simp
  obtain ⟨b1, hb1, hG⟩ := HG.out
  rw [← hb1] at HRow1
  have HG1 := hide hG
  clear hT1 hrow1 hq1 hb1 hG HG HSp
  go_wp2_with fail
  go_loopw [] (fun wr => ∃ (q : Nat) (b2 : Bool), q ≤ s.size ∧ wr.rowIs rb 95 3 (rd3 s q b2) ∧ Touch (fun q => q = rb) w wr ∧ ((b2 = b ∧ Num.gapV s p = Num.skipV s q) ∨ (b2 = true ∧ Num.gapV s p = none))) (fun wr => s.size - rdAt wr rb)
  case atStart => exact ⟨p1, b1, hp1, HRow1.out, HT1.out, HG1.out⟩
  case round =>
    clear HG1 HRow1 HT1
    obtain ⟨q, b2, hq, hrow, hT, hV⟩ := hrel
    obtain ⟨c0, c1, c2, z0, z1, z2⟩ := rd_cells hrow
    have hrl := hrow.lt
    have HRow := hide hrow
    have HT := hide hT
    have HAt := hide (rdAt_row hrow)
    have HV := hide hV
    clear hrow hT hV
    have fin : Hid (∀ n, Num.skipV s q = some q → RdTo w (wr.drewN n) rb s b (Num.gapV s p)) := fun n hsk => by
      refine ⟨HT.out.drewN n, q, ?_, hq, ?_⟩
      · rcases HV.out with ⟨e1, e2⟩ | ⟨e1, e2⟩
        · rw [e2, hsk]; simp only [Option.isNone_some, Bool.or_false]; rw [← e1]; exact row_drewN HRow.out n
        · rw [e2]; simp only [Option.isNone_none, Bool.or_true]; rw [← e1]; exact row_drewN HRow.out n
      · intro r hr
        rcases HV.out with ⟨e1, e2⟩ | ⟨e1, e2⟩
        · rw [e2, hsk] at hr; simp at hr; exact hr
        · rw [e2] at hr; cases hr
    by_cases h1 : q < s.size
    · have g0 : (0 : Int) ≤ (q : Int) := by omega
      have g1 : (q : Int) < (s.size : Int) := by omega
      have hd : decide ((q : Int) < (s.size : Int)) = true := by simp; omega
      have hbx := byt_ix h1
      have w1 : IntKind.i64.wrap ((q : Int) + 1) = (q : Int) + 1 := wrap_ok _ (by omega) (by omega)
      by_cases h35 : Num.byt s q = 35
      · have e1 : ((Num.byt s q : Nat) : Int) = 35 := by omega
        rw [e1] at hbx
        go_wp2_with fail
        go_quiet (fail)
        go_wp2_with fail
        go_quiet (fail)
        go_wp2_with fail
        refine (HRem.out q b2 _ hq (row_drewN HRow.out _)).mono ?_
        rintro e w2 ⟨rfl, ⟨hT2, q2, hrow2, hq2, hq3⟩, hend0⟩
        have HT2 : Hid (Touch (fun q => q = rb) w w2) := (HT.out.drewN _).trans hT2
        have HRow2 := hide hrow2
        have HV2 : Hid (((b2 || (Num.remV s q).isNone) = b ∧ Num.gapV s p = Num.skipV s q2) ∨ ((b2 || (Num.remV s q).isNone) = true ∧ Num.gapV s p = none)) := by
          unfold Hid
          cases hr : Num.remV s q with
          | none =>
            right
            refine ⟨by simp, ?_⟩
            rcases HV.out with ⟨e1, e2⟩ | ⟨e1, e2⟩
            · rw [e2, Num.skipV_bad h1 h35 hr]
            · exact e2
          | some r =>
            rcases HV.out with ⟨e1, e2⟩ | ⟨e1, e2⟩
            · left; exact ⟨by simp [e1], by rw [e2, Num.skipV_rem h1 h35 hr, hq3 r hr]⟩
            · right; exact ⟨by simp [e1], e2⟩
        have hend : Num.remV s q = none → q2 = s.size := fun e => by have := hend0 e; rw [rdAt_row hrow2] at this; exact this
        have HM : Hid (s.size - q2 < s.size - q) := by
          unfold Hid
          cases hr : Num.remV s q with
          | none => rw [hend hr]; omega
          | some r => have := Num.remV_gt s _ q r (Nat.le_refl _) hr; rw [hq3 r hr]; omega
        clear hT2 hrow2 hq3 hend hend0
        go_wp2
        go_roundw
        case rel => exact ⟨q2, _, hq2, HRow2.out, HT2.out, HV2.out⟩
        case measure => rw [HAt.out, rdAt_row HRow2.out]; exact HM.out
      · have e1 : (((Num.byt s q : Nat) : Int) == 35) = false := by simp; omega
        have e2 : ¬ ((Num.byt s q : Nat) : Int) = 35 := by omega
        have HSp := hide (fun w' => isSpace_any (Num.byt s q) w')
        cases hsp : Num.isSp (Num.byt s q)
        · rw [hsp] at HSp
          have HSk := hide (Num.skipV_stop h1 h35 hsp)
          go_wp2_with fail
          go_quiet (fail)
          go_wp2_with fail
          obtain ⟨n1, rfl⟩ : ∃ n1, n1 = nq := ⟨_, rfl⟩
          go_quiet (fail)
          go_wp2_with fail
          obtain ⟨W2, hW2⟩ : ∃ W2, W2 = (wr.drewN n1).drewN nq := ⟨_, rfl⟩
          have hrow2 : W2.rowIs rb 95 3 (rd3 s q b2) := by rw [hW2]; exact row_drewN (row_drewN HRow.out _) _
          have HT2 : Hid (Touch (fun q => q = rb) w W2) := by unfold Hid; rw [hW2]; exact (HT.out.drewN _).drewN _
          have HRow2 := hide hrow2
          have fin2 : Hid (∀ n, Num.skipV s q = some q → RdTo w (W2.drewN n) rb s b (Num.gapV s p)) := fun n hsk => by rw [hW2]; have := fin.out (n1 + nq + n) hsk; simpa [World.drewN_drewN, Nat.add_assoc] using this
          try rw [← hW2]
          clear c0 c1 c2 z0 z1 z2 hrl hW2
          obtain ⟨c0, c1, c2, z0, z1, z2⟩ := rd_cells hrow2
          have hrl := hrow2.lt
          clear hrow2
          go_quiet ((go_at_call 51; refine Calls.quiet_of_same (HSp.out _)))
          go_wp2
          exact bodyPost_ret (results_none rfl _ _ _) rfl ⟨rfl, fin2.out _ HSk.out⟩
        · rw [hsp] at HSp
          have HSk := hide (Num.skipV_sp h1 h35 hsp)
          have HV2 : Hid ((b2 = b ∧ Num.gapV s p = Num.skipV s (q + 1)) ∨ (b2 = true ∧ Num.gapV s p = none)) := by
            rcases HV.out with ⟨e1, e2⟩ | ⟨e1, e2⟩
            · exact .inl ⟨e1, by rw [e2, HSk.out]⟩
            · exact .inr ⟨e1, e2⟩
          go_wp2_with fail
          go_quiet (fail)
          go_wp2_with fail
          obtain ⟨n1, rfl⟩ : ∃ n1, n1 = nq := ⟨_, rfl⟩
          go_quiet (fail)
          go_wp2_with fail
          obtain ⟨W2, hW2⟩ : ∃ W2, W2 = (wr.drewN n1).drewN nq := ⟨_, rfl⟩
          have hrow2 : W2.rowIs rb 95 3 (rd3 s q b2) := by rw [hW2]; exact row_drewN (row_drewN HRow.out _) _
          have HT2 : Hid (Touch (fun q => q = rb) w W2) := by unfold Hid; rw [hW2]; exact (HT.out.drewN _).drewN _
          have HRow2 := hide hrow2
          have fin2 : Hid (∀ n, Num.skipV s q = some q → RdTo w (W2.drewN n) rb s b (Num.gapV s p)) := fun n hsk => by rw [hW2]; have := fin.out (n1 + nq + n) hsk; simpa [World.drewN_drewN, Nat.add_assoc] using this
          try rw [← hW2]
          clear c0 c1 c2 z0 z1 z2 hrl hW2
          obtain ⟨c0, c1, c2, z0, z1, z2⟩ := rd_cells hrow2
          have hrl := hrow2.lt
          clear hrow2
          go_quiet ((go_at_call 51; refine Calls.quiet_of_same (HSp.out _)))
          go_wp2
          go_roundw
          case rel => exact ⟨q + 1, b2, by omega, rd_goN HRow2.out (by push_cast; rfl), touch_goN HT2.out, HV2.out⟩
          case measure => rw [HAt.out, rdAt_row (rd_goN (q := q + 1) HRow2.out (by push_cast; rfl))]; omega
    · have hd : decide ((q : Int) < (s.size : Int)) = false := by simp; omega
      have HSk := hide (Num.skipV_end (s := s) (p := q) (by omega))
      go_wp2_with fail
      go_quiet (fail)
      go_wp2
      go_end0
      exact ⟨rfl, fin.out _ HSk.out⟩
end Go.Proofs.YtkhcjkmifddlbabDoor
