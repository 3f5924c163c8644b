/- The document's cursor: remark, gap. -/
import Derived.Test.YtkhcjkmifddlbabDoorDecS
namespace Go.Proofs.YtkhcjkmifddlbabDoor
open Go.RowKit Go.Deep

/-- How much is left ahead of a cursor. -/
def cuLeft (w : World) (cb : Nat) : Nat := match w.cell? ⟨cb, 0, none⟩ with
  | some (.string t) => t.size
  | _ => 0
theorem cuLeft_row {w : World} {cb : Nat} {t : TypeId} {s : ByteArray} {p : Nat} {b : Bool} (h : w.rowIs cb t 2 (cu2 s p b)) : cuLeft w cb = s.size - p := by
  unfold cuLeft
  rw [(cu_cells h).1]
  exact tl_size s p
theorem CuTo.touch {w wr w' : World} {cb : Nat} {s : ByteArray} {b : Bool} {o : Option Nat} (h : CuTo wr w' cb s b o) (hT : Touch (fun q => q = cb) w wr) : CuTo w w' cb s b o := ⟨hT.trans h.1, h.2⟩
theorem touch_cu {w wr : World} {cb k : Nat} {v : Value} (h : Touch (fun q => q = cb) w wr) : Touch (fun q => q = cb) w (wr.setCell ⟨cb, k, none⟩ v) := h.setCell (p := ⟨cb, k, none⟩) (.inl rfl) _

set_option maxRecDepth 100000 in
set_option maxHeartbeats 1000000 in
theorem cuRemark_any (cb : Nat) (s : ByteArray) (p : Nat) (b : Bool) (w : World) (_hs : s.size ≤ 8192) (hp : p ≤ s.size) (h : w.rowIs cb 76 2 (cu2 s p b)) :
    Calls Tryd.prog 46 #[.pointer (some ⟨cb, 0, none⟩)] w fun e w' => e = .returned (.tuple #[]) ∧ CuTo w w' cb s b (Num.remV s p) ∧ (Num.remV s p = none → cuLeft w' cb = 0) := by
  have HH := hide h
  clear h
  go_enter Tryd.func46, Tryd.ntmps46
  go_wp2_with fail
  go_loopw [] (fun wr => ∃ q : Nat, q ≤ s.size ∧ wr.rowIs cb 76 2 (cu2 s q b) ∧ Touch (fun q => q = cb) w wr ∧ Num.remV s p = Num.remV s q) (fun wr => cuLeft wr cb)
  case atStart => exact ⟨p, hp, HH.out, Touch.refl _ _, rfl⟩
  case round =>
    obtain ⟨q, hq, hrow, hT, hV⟩ := hrel
    obtain ⟨c0, c1, z0, z1⟩ := cu_cells hrow
    have hrl := hrow.lt
    have HRow := hide hrow
    have HT := hide hT
    have HAt := hide (cuLeft_row hrow)
    have HV := hide hV
    have hnl := tl_nil hq
    have hts := tl_size s q
    clear hrow hT hV
    by_cases h1 : q < s.size
    · rw [show decide (q = s.size) = false by simp; omega] at hnl
      have g2 : (1 : Int) ≤ ((tl s q).size : Int) := by omega
      have g3 : 0 < (tl s q).size := by omega
      have htd := tl_drop' (s := s) (p := q) (k := 1) (by omega)
      have hix := tl_ix (s := s) (p := q) (k := 0) g3
      rw [Nat.add_zero] at hix
      by_cases h10 : Num.byt s q = 10
      · have HR : Hid (Num.remV s p = some (q + 1)) := by unfold Hid; rw [HV.out, Num.remV, if_pos h1, if_pos h10]
        have e1 : ((Num.byt s q : Nat) : Int) = 10 := by omega
        rw [e1] at hix
        go_wp2
        exact bodyPost_ret (results_none rfl _ _ _) rfl ⟨rfl, (CuTo.go (q + 1) (Touch.refl _ _) HRow.out (by omega) HR.out).touch HT.out, fun e => by rw [HR.out] at e; cases e⟩
      · have HR : Hid (Num.remV s p = Num.remV s (q + 1)) := by unfold Hid; rw [HV.out]; conv => lhs; rw [Num.remV, if_pos h1, if_neg h10]
        have e1 : (((Num.byt s q : Nat) : Int) == 10) = false := by simp; omega
        have e2 : ¬ ((Num.byt s q : Nat) : Int) = 10 := by omega
        go_wp2
        go_roundw
        case rel => exact ⟨q + 1, by omega, cu_at HRow.out (q + 1), touch_cu HT.out, HR.out⟩
        case measure => rw [HAt.out, cuLeft_row (cu_at HRow.out (q + 1))]; omega
    · rw [show decide (q = s.size) = true by simp; omega] at hnl
      have HR : Hid (Num.remV s p = none) := by unfold Hid; rw [HV.out, Num.remV, if_neg h1]
      go_wp2
      go_end0
      exact ⟨rfl, (CuTo.bad (Touch.refl _ _) HRow.out hq (.inl HR.out)).touch HT.out, fun _ => by rw [cuLeft_row (cu_bad HRow.out)]; omega⟩

set_option maxRecDepth 100000 in
set_option maxHeartbeats 2000000 in
theorem cuGap_any (cb : Nat) (s : ByteArray) (p : Nat) (b : Bool) (w : World) (hs : s.size ≤ 8192) (hp : p ≤ s.size) (h : w.rowIs cb 76 2 (cu2 s p b)) :
    Calls Tryd.prog 34 #[.pointer (some ⟨cb, 0, none⟩)] w fun e w' => e = .returned (.tuple #[]) ∧ CuTo w w' cb s b (Num.gapV s p) := by
  have HSp := hide (cuBlank_any cb s p b w hs hp h)
  have HRem := hide (fun q b w' (hq : q ≤ s.size) (h : w'.rowIs cb 76 2 (cu2 s q b)) => cuRemark_any cb s q b w' hs hq h)
  have HBl := hide (fun q b w' (hq : q ≤ s.size) (h : w'.rowIs cb 76 2 (cu2 s q b)) => cuBlank_any cb s q b w' hs hq h)
  clear h
  go_enter Tryd.func34, Tryd.ntmps34
  go_wp2_with fail
  refine HSp.out.mono ?_
  rintro e w1 ⟨rfl, hT1, p1, hrow1, hp1, hq1⟩
  have HT1 := hide hT1
  have HRow1 := hide hrow1
  have HG : Hid (∃ b1, b1 = (b || (Num.spV s p).isNone) ∧ ((b1 = false ∧ b = false ∧ Num.gapV s p = Num.skipV s p1) ∨ (b1 = true ∧ (b = true ∨ Num.gapV s p = none)))) := by
    refine ⟨_, rfl, ?_⟩
    unfold Num.gapV
    cases b with
    | true => right; simp
    | false =>
      cases hsp : Num.spV s p with
      | none => right; simp
      | some r => left; rw [hq1 r rfl hsp]; simp
  obtain ⟨b1, hb1, hG⟩ := HG.out
  rw [← hb1] at HRow1
  have HG1 := hide hG
  clear hT1 hrow1 hq1 hb1 hG HG HSp
  go_wp2_with fail
  go_loopw [] (fun wr => ∃ (q : Nat) (b2 : Bool), q ≤ s.size ∧ wr.rowIs cb 76 2 (cu2 s q b2) ∧ Touch (fun q => q = cb) w wr ∧ ((b2 = false ∧ b = false ∧ Num.gapV s p = Num.skipV s q) ∨ (b2 = true ∧ (b = true ∨ Num.gapV s p = none)))) (fun wr => cuLeft wr cb)
  case atStart => exact ⟨p1, b1, hp1, HRow1.out, HT1.out, HG1.out⟩
  case round =>
    clear HG1 HRow1 HT1
    obtain ⟨q, b2, hq, hrow, hT, hV⟩ := hrel
    obtain ⟨c0, c1, z0, z1⟩ := cu_cells hrow
    have hrl := hrow.lt
    have HRow := hide hrow
    have HT := hide hT
    have HAt := hide (cuLeft_row hrow)
    have HV := hide hV
    have hnl := tl_nil hq
    have hts := tl_size s q
    clear hrow hT hV
    cases b2
    · have hV2 : b = false ∧ Num.gapV s p = Num.skipV s q := by
        rcases HV.out with ⟨_, e1, e2⟩ | ⟨e1, _⟩
        · exact ⟨e1, e2⟩
        · cases e1
      obtain ⟨hbf, hG⟩ := hV2
      have HGf := hide hG
      have HBf := hide hbf
      clear hG hbf HV
      have fin : Hid (Num.skipV s q = some q → CuTo w wr cb s b (Num.gapV s p)) := fun hsk => by
        refine ⟨HT.out, q, ?_, hq, fun r _ hr => by rw [HGf.out, hsk] at hr; simp at hr; exact hr⟩
        rw [HGf.out, hsk, HBf.out]
        exact HRow.out
      by_cases h1 : q < s.size
      · rw [show decide (q = s.size) = false by simp; omega] at hnl
        have g3 : 0 < (tl s q).size := by omega
        have hix := tl_ix (s := s) (p := q) (k := 0) g3
        rw [Nat.add_zero] at hix
        by_cases h35 : Num.byt s q = 35
        · have e1 : ((Num.byt s q : Nat) : Int) = 35 := by omega
          rw [e1] at hix
          have HSk := hide (fun r (hr : Num.remV s q = some r) => Num.skipV_rem h1 h35 hr)
          have HSb := hide (fun (hr : Num.remV s q = none) => Num.skipV_bad h1 h35 hr)
          go_wp2_with fail
          refine (HRem.out q false _ hq HRow.out).mono ?_
          rintro e w2 ⟨rfl, ⟨hT2, q2, hrow2, hq2, hq3⟩, hend0⟩
          have HT2 : Hid (Touch (fun q => q = cb) w w2) := HT.out.trans hT2
          have HRow2 := hide hrow2
          have HV2 : Hid (((false || (Num.remV s q).isNone) = false ∧ b = false ∧ Num.gapV s p = Num.skipV s q2) ∨ ((false || (Num.remV s q).isNone) = true ∧ (b = true ∨ Num.gapV s p = none))) := by
            unfold Hid
            cases hr : Num.remV s q with
            | none => right; exact ⟨rfl, .inr (by rw [HGf.out, HSb.out hr])⟩
            | some r => left; exact ⟨rfl, HBf.out, by rw [HGf.out, HSk.out r hr, hq3 r rfl hr]⟩
          have HM : Hid (s.size - q2 < s.size - q) := by
            unfold Hid
            cases hr : Num.remV s q with
            | none => have := hend0 hr; rw [cuLeft_row hrow2] at this; omega
            | some r => have := Num.remV_gt s _ q r (Nat.le_refl _) hr; rw [hq3 r rfl hr]; omega
          clear hT2 hrow2 hq3 hend0
          go_wp2
          go_roundw
          case rel => exact ⟨q2, _, hq2, HRow2.out, HT2.out, HV2.out⟩
          case measure => rw [HAt.out, cuLeft_row HRow2.out]; exact HM.out
        · have e1 : (((Num.byt s q : Nat) : Int) == 35) = false := by simp; omega
          have e2 : ¬ ((Num.byt s q : Nat) : Int) = 35 := by omega
          have HWh := hide (fun w' => white_any (Num.byt s q) w')
          cases hsp : Num.isSp (Num.byt s q)
          · rw [hsp] at HWh
            have HSk := hide (Num.skipV_stop h1 h35 hsp)
            go_wp2_with (go_at_call 47; refine (HWh.out _).mono ?_; rintro e w' ⟨rfl, hw'⟩; rw [hw']; clear hw')
            exact bodyPost_ret (results_none rfl _ _ _) rfl ⟨rfl, fin.out HSk.out⟩
          · rw [hsp] at HWh
            have HSk := hide (Num.skipV_sp h1 h35 hsp)
            have hsv : Num.spV s q = some (q + 1) := by unfold Num.spV; rw [if_pos ⟨h1, hsp⟩]
            have HSv := hide hsv
            clear hsv
            go_wp2_with (go_at_call 47; refine (HWh.out _).mono ?_; rintro e w' ⟨rfl, hw'⟩; rw [hw']; clear hw')
            refine (HBl.out q false _ hq HRow.out).mono ?_
            rintro e w2 ⟨rfl, hT2, q2, hrow2, hq2, hq3⟩
            have hq4 := hq3 _ rfl HSv.out
            subst hq4
            rw [HSv.out] at hrow2
            have HT2 : Hid (Touch (fun q => q = cb) w w2) := HT.out.trans hT2
            have HRow2 := hide hrow2
            clear hT2 hrow2 hq3
            go_wp2
            go_roundw
            case rel => exact ⟨q + 1, _, hq2, HRow2.out, HT2.out, .inl ⟨rfl, HBf.out, by rw [HGf.out, HSk.out]⟩⟩
            case measure => rw [HAt.out, cuLeft_row HRow2.out]; omega
      · rw [show decide (q = s.size) = true by simp; omega] at hnl
        have HSk := hide (Num.skipV_end (s := s) (p := q) (by omega))
        go_wp2
        go_end0
        exact ⟨rfl, fin.out HSk.out⟩
    · have hV2 : b = true ∨ Num.gapV s p = none := by
        rcases HV.out with ⟨e1, _⟩ | ⟨_, e2⟩
        · cases e1
        · exact e2
      have HE := hide hV2
      clear hV2 HV
      go_wp2
      go_end0
      refine ⟨rfl, HT.out, q, ?_, hq, fun r hb hr => by rcases HE.out with e | e <;> simp_all⟩
      rw [show (b || (Num.gapV s p).isNone) = true by rcases HE.out with e | e <;> simp [e]]
      exact HRow.out
end Go.Proofs.YtkhcjkmifddlbabDoor
