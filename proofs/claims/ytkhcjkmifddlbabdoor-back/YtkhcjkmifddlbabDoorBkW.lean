/- The keeping law Back: its small functions, read, none. -/
import Derived.Test.YtkhcjkmifddlbabDoorBkV
import Derived.Test.YtkhcjkmifddlbabDoorEncQ
import Derived.Test.YtkhcjkmifddlbabDoorDecW
namespace Go.Proofs.YtkhcjkmifddlbabDoor
open Go.RowKit Go.Deep

def bpickV (c n : Int) : Int := (if c < 0 then -(c + 1) else c).tmod n
theorem bpickV_rng (c n : Int) (hn : 0 < n) : 0 ≤ bpickV c n ∧ bpickV c n < n := by
  unfold bpickV
  split
  · exact ⟨Int.tmod_nonneg _ (by omega), Int.tmod_lt_of_pos _ hn⟩
  · exact ⟨Int.tmod_nonneg _ (by omega), Int.tmod_lt_of_pos _ hn⟩
set_option maxHeartbeats 400000 in
theorem bpick_any (c n : Int) (w : World) (h1 : -9223372036854775808 ≤ c) (h2 : c ≤ 9223372036854775807) (hn : 1 ≤ n ∧ n ≤ 4294967296) :
    Calls Tryd.prog 13 #[.int .i64 c, .int .i64 n] w fun e w' => e = .returned (.int .i64 (bpickV c n)) ∧ w' = w := by
  by_cases h : c < 0
  · have HE : Hid (bpickV c n = (-(c + 1)).tmod n) := by unfold Hid bpickV; rw [if_pos h]
    have r := bpickV_rng c n (by omega)
    rw [HE.out] at r
    go_enter Tryd.func13, Tryd.ntmps13
    go_wp2
    go_ret
    exact ⟨ret_int (by rw [HE.out]; first | rfl | rw [Int.neg_tmod] | (rw [Int.tmod_eq_emod_of_nonneg (by omega)])), rfl⟩
  · have HE : Hid (bpickV c n = c.tmod n) := by unfold Hid bpickV; rw [if_neg h]
    have r := bpickV_rng c n (by omega)
    rw [HE.out] at r
    go_enter Tryd.func13, Tryd.ntmps13
    go_wp2
    go_ret
    exact ⟨ret_int (by rw [HE.out]; first | rfl | rw [Int.neg_tmod] | (rw [Int.tmod_eq_emod_of_nonneg (by omega)])), rfl⟩
def bwindowN (c : Int) : Nat := (bpickV c 64 + 1).toNat
theorem bwindowN_rng (c : Int) : (1 ≤ bwindowN c ∧ bwindowN c ≤ 64) ∧ ((bwindowN c : Nat) : Int) = bpickV c 64 + 1 := by
  have := bpickV_rng c 64 (by omega)
  unfold bwindowN
  omega
set_option maxHeartbeats 400000 in
theorem bwindow_any (c : Int) (w : World) (h1 : -9223372036854775808 ≤ c) (h2 : c ≤ 9223372036854775807) :
    Calls Tryd.prog 8 #[.int .i64 c] w fun e w' => e = .returned (.int .i64 (bwindowN c)) ∧ w' = w := by
  have r := bpickV_rng c 64 (by omega)
  have HE := hide (bwindowN_rng c).2
  go_enter Tryd.func8, Tryd.ntmps8
  go_wp2_with (go_at_call 13; refine (bpick_any _ _ _ (by omega) (by omega) (by omega)).mono ?_; rintro e w' ⟨rfl, rfl⟩)
  go_ret
  exact ⟨ret_int (by rw [HE.out]), rfl⟩
set_option maxRecDepth 100000 in
set_option maxHeartbeats 1000000 in
theorem decimal_any (v : Nat) (w : World) (h2 : v ≤ 99) : Calls Tryd.prog 12 #[.int .i64 v] w fun e w' => e = .returned (.string (digS v)) ∧ Below w.heap.size w w' := by
  by_cases h : v < 10
  · have hd : decide ((v : Int) < 10) = true := by simp; omega
    have w1 : IntKind.i64.wrap (48 + (v : Int)) = 48 + (v : Int) := wrap_ok _ (by omega) (by omega)
    have w2 : IntKind.u8.wrap (48 + (v : Int)) = 48 + (v : Int) := by simp [IntKind.wrap, IntKind.bits, IntKind.signed]; omega
    have hrun : (convert 22 9 (.slice (some ⟨w.heap.size, 0, none⟩) 1 1)).run Tryd.prog (w.alloc (.cells #[.int .u8 (48 + (v : Int))] 5)) = .ok (.string (digS v)) (w.alloc (.cells #[.int .u8 (48 + (v : Int))] 5)) := by
      have := run_convert_bytes_back (P := Tryd.prog) (w.alloc (.cells #[.int .u8 (48 + (v : Int))] 5)) 22 9 5 ⟨w.heap.size, 0, none⟩ 1 [UInt8.ofNat (48 + v)] rfl rfl rfl (by
        intro j hj
        have : j = 0 := by simp at hj; omega
        subst this
        have e1 := u8_nat (n := 48 + v) (by omega)
        simp only [List.getElem_cons_zero, e1]
        exact (alloc_cellD w #[.int .u8 (48 + (v : Int))] _ (j := 0) (by simp)).trans (by simp))
      unfold digS digL
      rw [if_pos h]
      exact this
    go_enter Tryd.func12, Tryd.ntmps12
    go_wp2
    go_ret
    exact ⟨rfl, (Below.refl _ _).alloc (Nat.le_refl _) _⟩
  · have hd : decide ((v : Int) < 10) = false := by simp; omega
    obtain ⟨a, ha⟩ : ∃ a, a = v / 10 := ⟨_, rfl⟩
    obtain ⟨c, hc⟩ : ∃ c, c = v % 10 := ⟨_, rfl⟩
    have d1 : (v : Int).tdiv 10 = (a : Int) := by rw [ha, Int.tdiv_eq_ediv_of_nonneg (by omega)]; omega
    have d2 : (v : Int).tmod 10 = (c : Int) := by rw [hc, Int.tmod_eq_emod_of_nonneg (by omega)]; omega
    have b1 : a ≤ 9 := by omega
    have b2 : c ≤ 9 := by omega
    have w1 : IntKind.i64.wrap (48 + (a : Int)) = 48 + (a : Int) := wrap_ok _ (by omega) (by omega)
    have w2 : IntKind.u8.wrap (48 + (a : Int)) = 48 + (a : Int) := by simp [IntKind.wrap, IntKind.bits, IntKind.signed]; omega
    have w3 : IntKind.i64.wrap (48 + (c : Int)) = 48 + (c : Int) := wrap_ok _ (by omega) (by omega)
    have w4 : IntKind.u8.wrap (48 + (c : Int)) = 48 + (c : Int) := by simp [IntKind.wrap, IntKind.bits, IntKind.signed]; omega
    have w5 : IntKind.i64.wrap (a : Int) = (a : Int) := wrap_ok _ (by omega) (by omega)
    have w6 : IntKind.i64.wrap (c : Int) = (c : Int) := wrap_ok _ (by omega) (by omega)
    have hrun : (convert 22 9 (.slice (some ⟨w.heap.size, 0, none⟩) 2 2)).run Tryd.prog (w.alloc (.cells #[.int .u8 (48 + (a : Int)), .int .u8 (48 + (c : Int))] 5)) = .ok (.string (digS v)) (w.alloc (.cells #[.int .u8 (48 + (a : Int)), .int .u8 (48 + (c : Int))] 5)) := by
      have := run_convert_bytes_back (P := Tryd.prog) (w.alloc (.cells #[.int .u8 (48 + (a : Int)), .int .u8 (48 + (c : Int))] 5)) 22 9 5 ⟨w.heap.size, 0, none⟩ 2 [UInt8.ofNat (48 + a), UInt8.ofNat (48 + c)] rfl rfl rfl (by
        intro j hj
        have e1 := u8_nat (n := 48 + a) (by omega)
        have e2 := u8_nat (n := 48 + c) (by omega)
        rcases (show j = 0 ∨ j = 1 by simp at hj; omega) with rfl | rfl
        · simp only [List.getElem_cons_zero, e1]
          exact (alloc_cellD w #[.int .u8 (48 + (a : Int)), .int .u8 (48 + (c : Int))] _ (j := 0) (by simp)).trans (by simp)
        · simp only [List.getElem_cons_succ, List.getElem_cons_zero, e2]
          exact (alloc_cellD w #[.int .u8 (48 + (a : Int)), .int .u8 (48 + (c : Int))] _ (j := 1) (by simp)).trans (by simp))
      unfold digS digL
      rw [if_neg h, ← ha, ← hc]
      exact this
    clear ha hc
    go_enter Tryd.func12, Tryd.ntmps12
    go_wp2
    go_ret
    exact ⟨rfl, (Below.refl _ _).alloc (Nat.le_refl _) _⟩

set_option maxRecDepth 100000 in
set_option maxHeartbeats 1000000 in
theorem bsamePix_any (a a' : Option Addr) (n c c' : Nat) (X : Nat → Int) (w : World) (hn : n ≤ 8192) (h1 : ByAt w a n X) (h2 : ByAt w a' n X) :
    Calls Tryd.prog 28 #[.slice a n c, .slice a' n c'] w fun e w' => e = .returned (.bool true) ∧ ∃ nd, w' = w.drewN nd := by
  have H1 := hide h1
  have H2 := hide h2
  clear h1 h2
  go_enter Tryd.func28, Tryd.ntmps28
  go_wp2_with fail
  go_loopw [5] (fun i wr => ∃ k nd : Nat, k ≤ n ∧ i = .int .i64 k ∧ wr = w.drewN nd) (fun i _ => n - (intOf i).toNat)
  case atStart => exact ⟨0, 0, by omega, rfl, rfl⟩
  case round =>
    obtain ⟨k, nd, hk, rfl, rfl⟩ := hrel
    by_cases hlt : k < n
    · obtain h0 | ⟨b, off, rfl, hc⟩ := H1.out
      · omega
      obtain h0 | ⟨b', off', rfl, hc'⟩ := H2.out
      · omega
      have q0 := hc k hlt
      have q1 := hc' k hlt
      obtain ⟨z, hz⟩ : ∃ z, z = X k := ⟨_, rfl⟩
      rw [← hz] at q0 q1
      clear hc hc' hz
      have g0 : (0 : Int) ≤ (k : Int) := by omega
      have g1 : (k : Int) < (n : Int) := by omega
      have hd1 : decide ((k : Int) < (n : Int)) = true := by simp; omega
      go_wp2
      go_quiet (fail)
      go_wp2
      go_roundw
      case rel => exact ⟨k + 1, nd + nq, by omega, by go_num, rfl⟩
      case measure => simp [intOf]; omega
    · have hd0 : decide ((k : Int) < (n : Int)) = false := by simp; omega
      go_wp2
      go_ret
      exact ⟨rfl, nd, rfl⟩

/-- One of the space bytes. -/
def spc (k : Nat) : UInt8 := if k = 0 then 32 else if k = 1 then 9 else if k = 2 then 10 else 13
theorem spc_sp (k : Nat) : Num.isSp (spc k).toNat = true := by
  unfold spc
  split
  · decide
  · split
    · decide
    · split <;> decide
theorem spc_ext : ∀ k, k < 4 → (([32, 9, 10, 13] : List UInt8).drop k).take (k + 1 - k) = [spc k] := by decide
set_option maxRecDepth 100000 in
set_option maxHeartbeats 1000000 in
theorem space_any (k : Nat) (w : World) (h : k < 4) : Calls Tryd.prog 14 #[.int .i64 k] w fun e w' => e = .returned (.string ⟨#[spc k]⟩) ∧ w' = w := by
  have w1 : IntKind.i64.wrap ((k : Int) + 1) = (k : Int) + 1 := wrap_ok _ (by omega) (by omega)
  have g1 : (0 : Int) ≤ (k : Int) := by omega
  have g2 : (k : Int) ≤ (k : Int) + 1 := by omega
  have g3 : (k : Int) + 1 ≤ 4 := by omega
  have g4 : ((k : Int) + 1).toNat = k + 1 := by omega
  have g5 : k + 1 ≤ 4 := by omega
  have g6 : (0 : Int) ≤ (k : Int) + 1 := by omega
  go_enter Tryd.func14, Tryd.ntmps14
  go_wp2
  go_ret
  exact ⟨congrArg (fun t => Ending.returned (Value.string t)) ((ext_mk _ _ _).trans (congrArg (fun l => ByteArray.mk l.toArray) (spc_ext k h))), rfl⟩

set_option maxRecDepth 100000 in
set_option maxHeartbeats 2000000 in
/-- A text that gives the picture. -/
theorem read_any (t : ByteArray) (a : Option Addr) (n c W H off : Nat) (X : Nat → Int) (w : World) (ht : (t.size : Int) ≤ 9000000000000000000) (hv : Num.decV t = some (W, H, off)) (hn : t.size - off = n) (hn2 : n ≤ 8192) (hX : ByAt w a n X) (hb : ∀ k, k < n → X k = (Num.byt t (off + k) : Int)) :
    Calls Tryd.prog 10 #[.string t, .agg #[.int .i64 W, .int .i64 H, .slice a n c]] w fun e w' => e = .returned (.bool true) ∧ Below w.heap.size w w' := by
  obtain ⟨W1, hW1⟩ : ∃ W1, W1 = w.alloc (.cells #[.int .i64 W, .int .i64 H, .slice a n c] 24) := ⟨_, rfl⟩
  have hb1 : Below w.heap.size w W1 := by rw [hW1]; exact (Below.refl _ _).alloc (Nat.le_refl _) _
  have hs1 : W1.heap.size = w.heap.size + 1 := by rw [hW1]; simp
  obtain ⟨gb, hgb⟩ : ∃ gb, gb = w.heap.size := ⟨_, rfl⟩
  have hr1 : W1.rowIs gb 24 3 (gz W H (.slice a n c)) := by rw [hW1, hgb]; exact gz_row _ _ _ _ _
  have hC := glyphDecode_any t W1 ht
  unfold DecO at hC
  obtain ⟨e1, e2⟩ := decT_some hv
  rw [e1, e2] at hC
  simp only [hn] at hC
  have HC := hide hC
  have HB1 := hide hb1
  have HR1 := hide hr1
  have HX := hide (hX.below hb1)
  have HBd := hide hb
  have hwl : w.heap.size ≤ W1.heap.size := by omega
  clear hC hb1 hr1 hX hb hv hn e1 e2
  go_enter Tryd.func10, Tryd.ntmps10
  go_wp2_with fail
  rw [← hW1]
  rw [← hgb]
  have HGb := hide hgb
  clear hgb hW1
  refine HC.out.mono ?_
  rintro e w2 ⟨ao, cap, rfl, hb2, _, hy2, _⟩
  obtain ⟨pb, hpb⟩ : ∃ pb, pb = w2.heap.size := ⟨_, rfl⟩
  obtain ⟨W2, hW2⟩ : ∃ W2, W2 = w2.alloc (.cells #[.int .i64 W, .int .i64 H, .slice ao n cap] 24) := ⟨_, rfl⟩
  have hbb2 : Below w2.heap.size w2 W2 := by rw [hW2]; exact (Below.refl _ _).alloc (Nat.le_refl _) _
  have hs2 := hb2.size
  have hb2' : Below W1.heap.size W1 W2 := hb2.trans (hbb2.mono hs2)
  have hrp : W2.rowIs pb 24 3 (gz W H (.slice ao n cap)) := by rw [hW2, hpb]; exact gz_row _ _ _ _ _
  have hrg : W2.rowIs gb 24 3 (gz W H (.slice a n c)) := row_below HR1.out hb2' HR1.out.lt
  have HY : Hid (ByAt W2 ao n X) := by
    unfold Hid
    rcases hy2.below hbb2 with h0 | ⟨b, o, e, h⟩
    · exact .inl h0
    · exact .inr ⟨b, o, e, fun k hk => by rw [h k hk, HBd.out k hk]⟩
  have HX2 := hide (HX.out.below hb2')
  have HB2 := hide hb2'
  have hrg2 := row_below HR1.out hb2 HR1.out.lt
  obtain ⟨q0, q1, q2⟩ := gz_cells hrg2
  have hq1 := hrg2.lt
  have HRp := hide hrp
  have HRg := hide hrg
  have HW2 := hide hW2
  have HPb := hide hpb
  clear hb2 hy2 hbb2 hb2' hrp hrg hrg2 hW2 hpb
  go_wp2_with fail
  rw [← HW2.out]
  try rw [← HPb.out]
  refine (bsamePix_any ao a n cap c X W2 hn2 HY.out HX2.out).mono ?_
  rintro e w3 ⟨rfl, nd, hw3⟩
  have hrp3 : w3.rowIs pb 24 3 (gz W H (.slice ao n cap)) := by rw [hw3]; exact row_drewN HRp.out nd
  have hrg3 : w3.rowIs gb 24 3 (gz W H (.slice a n c)) := by rw [hw3]; exact row_drewN HRg.out nd
  have HB3 : Hid (Below w.heap.size w w3) := by unfold Hid; rw [hw3]; exact (HB1.out.trans (HB2.out.mono hwl)).trans (below_drewN (Below.refl _ _) nd)
  clear q0 q1 q2 hw3
  obtain ⟨p0, p1, p2⟩ := gz_cells hrp3
  obtain ⟨q0, q1, q2⟩ := gz_cells hrg3
  go_wp2
  go_ret
  exact ⟨rfl, HB3.out⟩

set_option maxRecDepth 100000 in
set_option maxHeartbeats 2000000 in
/-- A text that is refused. -/
theorem none_any (t : ByteArray) (w : World) (ht : (t.size : Int) ≤ 9000000000000000000) (hv : Num.decV t = none) :
    Calls Tryd.prog 11 #[.string t] w fun e w' => e = .returned (.bool true) ∧ Below w.heap.size w w' := by
  have hC := glyphDecode_any t w ht
  unfold DecO at hC
  obtain ⟨e1, e2⟩ := decT_none hv
  rw [e1, e2] at hC
  simp only [Nat.sub_self, Int.ofNat_zero] at hC
  have HC := hide hC
  clear hC e1 e2 hv
  go_enter Tryd.func11, Tryd.ntmps11
  go_wp2_with fail
  refine HC.out.mono ?_
  rintro e w2 ⟨ao, cap, rfl, hb2, _, _, _⟩
  have HB2 := hide hb2
  have hs2 := hb2.size
  clear hb2
  go_wp2
  go_ret
  exact ⟨rfl, HB2.out.alloc hs2 _⟩
end Go.Proofs.YtkhcjkmifddlbabDoor
