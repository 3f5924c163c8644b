/- The program's reader: side. -/
import Derived.Test.YtkhcjkmifddlbabDoorDecP
namespace Go.Proofs.YtkhcjkmifddlbabDoor
open Go.RowKit Go.Deep

def sdB (n : Int) : Bool := decide (1 ≤ n) && decide (n ≤ 64)
set_option maxHeartbeats 400000 in
theorem isSideD_any (n : Int) (w : World) : Calls Tryd.prog 48 #[.int .i64 n] w fun e w' => e = .returned (.bool (sdB n)) ∧ w' = w := by
  by_cases h1 : 1 ≤ n
  · by_cases h2 : n ≤ 64
    · go_enter Tryd.func48, Tryd.ntmps48
      go_wp2
      go_ret
      exact ⟨ret_bool (by simp [sdB]; omega), rfl⟩
    · go_enter Tryd.func48, Tryd.ntmps48
      go_wp2
      go_ret
      exact ⟨ret_bool (by simp [sdB]; omega), rfl⟩
  · go_enter Tryd.func48, Tryd.ntmps48
    go_wp2
    go_ret
    exact ⟨ret_bool (by simp [sdB]; omega), rfl⟩
theorem sdB_yes {n : Nat} (h1 : 1 ≤ n) (h2 : n ≤ 64) : sdB (n : Int) = true := by simp [sdB]; omega
theorem sdB_no {n : Nat} (h : n = 0 ∨ 64 < n) : sdB (n : Int) = false := by simp [sdB]; omega
theorem RdTo.stay {w wx : World} {rb : Nat} {s : ByteArray} {q : Nat} {b : Bool} {o : Option Nat} (hT : Touch (fun q => q = rb) w wx) (h : wx.rowIs rb 95 3 (rd3 s q b)) (hq : q ≤ s.size) (ho : o = some q) : RdTo w wx rb s b o := by
  refine ⟨hT, q, ?_, hq, fun r hr => by rw [ho] at hr; simp at hr; exact hr⟩
  rw [ho]; simp only [Option.isNone_some, Bool.or_false]; exact h
theorem RdTo.bad0 {w wx : World} {rb : Nat} {s : ByteArray} {q : Nat} {b : Bool} {o : Option Nat} (hT : Touch (fun q => q = rb) w wx) (h : wx.rowIs rb 95 3 (rd3 s q b)) (hq : q ≤ s.size) (ho : o = none) : RdTo w (wx.setCell ⟨rb, 2, none⟩ (.bool true)) rb s b o := by
  refine ⟨hT.setCell (p := ⟨rb, 2, none⟩) (.inl rfl) _, q, ?_, hq, fun r hr => by rw [ho] at hr; cases hr⟩
  rw [ho]; simp only [Option.isNone_none, Bool.or_true]; exact rd_bad h

/-- How far the digits of a side are read. -/
def SideAt (s : ByteArray) (p q n : Nat) : Prop := (q = p ∧ n = 0) ∨ (q = p + 1 ∧ Num.isDg (Num.byt s p) = true ∧ Num.byt s p ≠ 48 ∧ n = Num.byt s p - 48) ∨
  (q = p + 2 ∧ Num.isDg (Num.byt s p) = true ∧ Num.byt s p ≠ 48 ∧ Num.isDg (Num.byt s (p + 1)) = true ∧ n = 10 * (Num.byt s p - 48) + (Num.byt s (p + 1) - 48) ∧ n ≤ 64)
theorem SideAt.le {s : ByteArray} {p q n : Nat} (h : SideAt s p q n) : n ≤ 64 := by
  rcases h with ⟨_, rfl⟩ | ⟨_, h1, _, rfl⟩ | ⟨_, _, _, _, _, h⟩
  · omega
  · simp [Num.isDg] at h1; omega
  · exact h
/-- No further digit. -/
theorem SideAt.stop {s : ByteArray} {p q n : Nat} (h : SideAt s p q n) (hd : Num.isDg (Num.byt s q) = false) : (n = 0 ∧ Num.sideV s p = none) ∨ (1 ≤ n ∧ Num.sideV s p = some (n, q)) := by
  rcases h with ⟨rfl, rfl⟩ | ⟨rfl, h1, h2, rfl⟩ | ⟨rfl, h1, h2, h3, rfl, h4⟩
  · left; exact ⟨rfl, by unfold Num.sideV; rw [if_neg (by simp [hd])]⟩
  · right
    have := h1
    simp [Num.isDg] at this
    exact ⟨by omega, by unfold Num.sideV; rw [if_pos ⟨h1, h2⟩, if_neg (by simp [hd])]⟩
  · right
    have := h1
    simp [Num.isDg] at this
    exact ⟨by omega, by unfold Num.sideV; rw [if_pos ⟨h1, h2⟩, if_pos h3, if_pos ⟨h4, hd⟩]⟩
/-- One digit more. -/
theorem SideAt.next {s : ByteArray} {p q n : Nat} (h : SideAt s p q n) (hd : Num.isDg (Num.byt s q) = true) : (1 ≤ 10 * n + (Num.byt s q - 48) ∧ 10 * n + (Num.byt s q - 48) ≤ 64 ∧ SideAt s p (q + 1) (10 * n + (Num.byt s q - 48))) ∨ ((10 * n + (Num.byt s q - 48) = 0 ∨ 64 < 10 * n + (Num.byt s q - 48)) ∧ Num.sideV s p = none) := by
  have hdd := hd
  simp [Num.isDg] at hdd
  rcases h with ⟨rfl, rfl⟩ | ⟨rfl, h1, h2, rfl⟩ | ⟨rfl, h1, h2, h3, rfl, h4⟩
  · by_cases e : Num.byt s q = 48
    · right; exact ⟨by omega, by unfold Num.sideV; rw [if_neg (by simp [e])]⟩
    · left; exact ⟨by omega, by omega, .inr (.inl ⟨rfl, hd, e, by omega⟩)⟩
  · have h1' := h1
    simp [Num.isDg] at h1'
    by_cases e : 10 * (Num.byt s p - 48) + (Num.byt s (p + 1) - 48) ≤ 64
    · left; exact ⟨by omega, e, .inr (.inr ⟨by omega, h1, h2, hd, rfl, e⟩)⟩
    · right; exact ⟨by omega, by unfold Num.sideV; rw [if_pos ⟨h1, h2⟩, if_pos hd, if_neg (by intro h; exact e h.1)]⟩
  · have h1' := h1
    simp [Num.isDg] at h1'
    right; exact ⟨by omega, by unfold Num.sideV; rw [if_pos ⟨h1, h2⟩, if_pos h3, if_neg (by simp [hd])]⟩

set_option maxRecDepth 100000 in
set_option maxHeartbeats 2000000 in
theorem rdSide_any (rb : Nat) (s : ByteArray) (p : Nat) (b : Bool) (w : World) (hs : s.size ≤ 8192) (hp : p ≤ s.size) (h : w.rowIs rb 95 3 (rd3 s p b)) :
    Calls Tryd.prog 44 #[.pointer (some ⟨rb, 0, none⟩)] w fun e w' => ∃ v : Nat, e = .returned (.int .i64 v) ∧ v ≤ 64 ∧ RdTo w w' rb s b ((Num.sideV s p).map Prod.snd) ∧ ∀ x, Num.sideV s p = some x → v = x.1 := by
  have HH := hide h
  clear h
  go_enter Tryd.func44, Tryd.ntmps44
  go_wp2_with fail
  go_loopw [3] (fun t3 wr => ∃ q n : Nat, q ≤ s.size ∧ t3 = .int .i64 n ∧ wr.rowIs rb 95 3 (rd3 s q b) ∧ Touch (fun q => q = rb) w wr ∧ SideAt s p q n) (fun _ wr => s.size - rdAt wr rb)
  case atStart => exact ⟨p, 0, hp, rfl, HH.out, Touch.refl _ _, .inl ⟨rfl, rfl⟩⟩
  case round =>
    obtain ⟨q, n, hq, rfl, hrow, hT, hA⟩ := hrel
    obtain ⟨c0, c1, c2, z0, z1, z2⟩ := rd_cells hrow
    have hrl := hrow.lt
    have hn64 := hA.le
    have HRow := hide hrow
    have HT := hide hT
    have HAt := hide (rdAt_row hrow)
    have HA := hide hA
    have HSd0 := hide (fun w' => isSideD_any (n : Int) w')
    clear hrow hT hA
    by_cases h1 : q < s.size
    · have g0 : (0 : Int) ≤ (q : Int) := by omega
      have g1 : (q : Int) < (s.size : Int) := by omega
      have hd : decide ((q : Int) < (s.size : Int)) = true := by simp; omega
      have hbx := byt_ix h1
      have HDg := hide (fun w' => isDigit_any (Num.byt s q) w')
      cases hdg : Num.isDg (Num.byt s q)
      · rw [hdg] at HDg
        rcases HA.out.stop hdg with ⟨e1, e2⟩ | ⟨e1, e2⟩
        · have HE := hide e2
          rw [sdB_no (.inl e1)] at HSd0
          clear e1 e2
          go_wp2_with fail
          go_quiet ((go_at_call 52; refine Calls.quiet_of_same (HDg.out _)))
          go_wp2_with (go_at_call 48; refine (HSd0.out _).mono ?_; rintro e w' ⟨rfl, hw'⟩; rw [hw']; clear hw')
          go_ret
          exact ⟨0, rfl, by omega, RdTo.bad0 (HT.out.drewN _) (row_drewN HRow.out _) hq (by rw [HE.out]; rfl), fun x hx => by rw [HE.out] at hx; cases hx⟩
        · have HE := hide e2
          rw [sdB_yes e1 hn64] at HSd0
          clear e2
          go_wp2_with fail
          go_quiet ((go_at_call 52; refine Calls.quiet_of_same (HDg.out _)))
          go_wp2_with (go_at_call 48; refine (HSd0.out _).mono ?_; rintro e w' ⟨rfl, hw'⟩; rw [hw']; clear hw')
          go_ret
          exact ⟨n, rfl, hn64, RdTo.stay (HT.out.drewN _) (row_drewN HRow.out _) hq (by rw [HE.out]; rfl), fun x hx => by rw [HE.out] at hx; simp at hx; rw [← hx]⟩
      · rw [hdg] at HDg
        have hdd := hdg
        simp [Num.isDg] at hdd
        have w1 : IntKind.i64.wrap ((q : Int) + 1) = (q : Int) + 1 := wrap_ok _ (by omega) (by omega)
        have w2 : IntKind.i64.wrap (10 * (n : Int)) = 10 * (n : Int) := wrap_ok _ (by omega) (by omega)
        have w3 : IntKind.u8.wrap (((Num.byt s q : Nat) : Int) - 48) = ((Num.byt s q : Nat) : Int) - 48 := by simp [IntKind.wrap, IntKind.bits, IntKind.signed]; omega
        have w4 : IntKind.i64.wrap (((Num.byt s q : Nat) : Int) - 48) = ((Num.byt s q : Nat) : Int) - 48 := wrap_ok _ (by omega) (by omega)
        obtain ⟨n', hn'⟩ : ∃ m, m = 10 * n + (Num.byt s q - 48) := ⟨_, rfl⟩
        have w5 : IntKind.i64.wrap (10 * (n : Int) + (((Num.byt s q : Nat) : Int) - 48)) = (n' : Int) := by rw [wrap_ok _ (by omega) (by omega)]; omega
        have HSd := hide (fun w' => isSideD_any (n' : Int) w')
        have hnx := HA.out.next hdg
        rw [← hn'] at hnx
        clear hn'
        rcases hnx with ⟨f1, f2, f3⟩ | ⟨f1, f2⟩
        · rw [sdB_yes f1 f2] at HSd
          have HN := hide f3
          clear f3
          go_wp2_with fail
          go_quiet ((go_at_call 52; refine Calls.quiet_of_same (HDg.out _)))
          go_wp2_with fail
          obtain ⟨n1, rfl⟩ : ∃ n1, n1 = nq := ⟨_, rfl⟩
          go_quiet (fail)
          go_wp2_with (go_at_call 48; refine (HSd.out _).mono ?_; rintro e w' ⟨rfl, hw'⟩; rw [hw']; clear hw')
          go_roundw
          case rel => exact ⟨q + 1, n', by omega, rfl, rd_goN HRow.out (by push_cast; rfl), touch_goN HT.out, HN.out⟩
          case measure => rw [HAt.out, rdAt_row (rd_goN (q := q + 1) HRow.out (by push_cast; rfl))]; omega
        · rw [sdB_no f1] at HSd
          have HE := hide f2
          clear f2
          go_wp2_with fail
          go_quiet ((go_at_call 52; refine Calls.quiet_of_same (HDg.out _)))
          go_wp2_with fail
          obtain ⟨n1, rfl⟩ : ∃ n1, n1 = nq := ⟨_, rfl⟩
          go_quiet (fail)
          go_wp2_with (go_at_call 48; refine (HSd.out _).mono ?_; rintro e w' ⟨rfl, hw'⟩; rw [hw']; clear hw')
          go_ret
          exact ⟨0, rfl, by omega, RdTo.bad0 (touch_goN HT.out) (rd_goN (q := q + 1) HRow.out (by push_cast; rfl)) (by omega) (by rw [HE.out]; rfl), fun x hx => by rw [HE.out] at hx; cases hx⟩
    · have hd : decide ((q : Int) < (s.size : Int)) = false := by simp; omega
      have hb0 : Num.isDg (Num.byt s q) = false := by rw [Num.byt_ge (by omega)]; decide
      rcases HA.out.stop hb0 with ⟨e1, e2⟩ | ⟨e1, e2⟩
      · have HE := hide e2
        rw [sdB_no (.inl e1)] at HSd0
        clear e1 e2 hb0
        go_wp2_with fail
        go_quiet (fail)
        go_wp2_with (go_at_call 48; refine (HSd0.out _).mono ?_; rintro e w' ⟨rfl, hw'⟩; rw [hw']; clear hw')
        go_ret
        exact ⟨0, rfl, by omega, RdTo.bad0 (HT.out.drewN _) (row_drewN HRow.out _) hq (by rw [HE.out]; rfl), fun x hx => by rw [HE.out] at hx; cases hx⟩
      · have HE := hide e2
        rw [sdB_yes e1 hn64] at HSd0
        clear e2 hb0
        go_wp2_with fail
        go_quiet (fail)
        go_wp2_with (go_at_call 48; refine (HSd0.out _).mono ?_; rintro e w' ⟨rfl, hw'⟩; rw [hw']; clear hw')
        go_ret
        exact ⟨n, rfl, hn64, RdTo.stay (HT.out.drewN _) (row_drewN HRow.out _) hq (by rw [HE.out]; rfl), fun x hx => by rw [HE.out] at hx; simp at hx; rw [← hx]⟩
end Go.Proofs.YtkhcjkmifddlbabDoor
