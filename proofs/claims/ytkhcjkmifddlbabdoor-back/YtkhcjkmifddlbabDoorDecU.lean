/- The document's digits, and its cursor's side. -/
import Derived.Test.YtkhcjkmifddlbabDoorDecT
namespace Go.Proofs.YtkhcjkmifddlbabDoor
open Go.RowKit Go.Deep

/-- The digits of a number from 1 to 99. -/
def digL (v : Nat) : List UInt8 := if v < 10 then [UInt8.ofNat (48 + v)] else [UInt8.ofNat (48 + v / 10), UInt8.ofNat (48 + v % 10)]
def digS (v : Nat) : ByteArray := ⟨(digL v).toArray⟩
theorem digS_list (v : Nat) : (digS v).toList = digL v := ByteArray.toList_mk _
theorem u8_nat {n : Nat} (h : n < 256) : (UInt8.ofNat n).toNat = n := by simp [UInt8.toNat_ofNat']; omega
theorem alloc_cellD (w : World) (C : Array Value) (t : TypeId) {j : Nat} (hj : j < C.size) : (w.alloc (.cells C t)).cell? ⟨w.heap.size, j, none⟩ = some C[j] :=
  (World.rowIs_alloc w C t (fun i => C[i]?.getD undef) (fun i hi => by simp [hi])).cell hj |>.trans (by simp [hj])

set_option maxRecDepth 100000 in
set_option maxHeartbeats 1000000 in
theorem digits_any (v : Nat) (w : World) (h2 : v ≤ 99) : Calls Tryd.prog 30 #[.int .i64 v] w fun e w' => e = .returned (.string (digS v)) ∧ Below w.heap.size w w' := by
  by_cases h : v < 10
  · have hd : decide ((v : Int) < 10) = true := by simp; omega
    have w1 : IntKind.i64.wrap (48 + (v : Int)) = 48 + (v : Int) := wrap_ok _ (by omega) (by omega)
    have w2 : IntKind.u8.wrap (48 + (v : Int)) = 48 + (v : Int) := by simp [IntKind.wrap, IntKind.bits, IntKind.signed]; omega
    have hrun : (convert 22 9 (.slice (some ⟨w.heap.size, 0, none⟩) 1 1)).run Tryd.prog (w.alloc (.cells #[.int .u8 (48 + (v : Int))] 5)) = .ok (.string (digS v)) (w.alloc (.cells #[.int .u8 (48 + (v : Int))] 5)) := by
      have := run_convert_bytes_back (P := Tryd.prog) (w.alloc (.cells #[.int .u8 (48 + (v : Int))] 5)) 22 9 5 ⟨w.heap.size, 0, none⟩ 1 [UInt8.ofNat (48 + v)] rfl rfl rfl (by
        intro j hj
        have : j = 0 := by simp at hj; omega
        subst this
        have e1 := u8_nat (n := 48 + v) (by omega)
        simp only [List.getElem_cons_zero, e1]
        exact (alloc_cellD w #[.int .u8 (48 + (v : Int))] _ (j := 0) (by simp)).trans (by simp))
      unfold digS digL
      rw [if_pos h]
      exact this
    go_enter Tryd.func30, Tryd.ntmps30
    go_wp2
    go_ret
    exact ⟨rfl, (Below.refl _ _).alloc (Nat.le_refl _) _⟩
  · have hd : decide ((v : Int) < 10) = false := by simp; omega
    obtain ⟨a, ha⟩ : ∃ a, a = v / 10 := ⟨_, rfl⟩
    obtain ⟨c, hc⟩ : ∃ c, c = v % 10 := ⟨_, rfl⟩
    have d1 : (v : Int).tdiv 10 = (a : Int) := by rw [ha, Int.tdiv_eq_ediv_of_nonneg (by omega)]; omega
    have d2 : (v : Int).tmod 10 = (c : Int) := by rw [hc, Int.tmod_eq_emod_of_nonneg (by omega)]; omega
    have b1 : a ≤ 9 := by omega
    have b2 : c ≤ 9 := by omega
    have w1 : IntKind.i64.wrap (48 + (a : Int)) = 48 + (a : Int) := wrap_ok _ (by omega) (by omega)
    have w2 : IntKind.u8.wrap (48 + (a : Int)) = 48 + (a : Int) := by simp [IntKind.wrap, IntKind.bits, IntKind.signed]; omega
    have w3 : IntKind.i64.wrap (48 + (c : Int)) = 48 + (c : Int) := wrap_ok _ (by omega) (by omega)
    have w4 : IntKind.u8.wrap (48 + (c : Int)) = 48 + (c : Int) := by simp [IntKind.wrap, IntKind.bits, IntKind.signed]; omega
    have w5 : IntKind.i64.wrap (a : Int) = (a : Int) := wrap_ok _ (by omega) (by omega)
    have w6 : IntKind.i64.wrap (c : Int) = (c : Int) := wrap_ok _ (by omega) (by omega)
    have hrun : (convert 22 9 (.slice (some ⟨w.heap.size, 0, none⟩) 2 2)).run Tryd.prog (w.alloc (.cells #[.int .u8 (48 + (a : Int)), .int .u8 (48 + (c : Int))] 5)) = .ok (.string (digS v)) (w.alloc (.cells #[.int .u8 (48 + (a : Int)), .int .u8 (48 + (c : Int))] 5)) := by
      have := run_convert_bytes_back (P := Tryd.prog) (w.alloc (.cells #[.int .u8 (48 + (a : Int)), .int .u8 (48 + (c : Int))] 5)) 22 9 5 ⟨w.heap.size, 0, none⟩ 2 [UInt8.ofNat (48 + a), UInt8.ofNat (48 + c)] rfl rfl rfl (by
        intro j hj
        have e1 := u8_nat (n := 48 + a) (by omega)
        have e2 := u8_nat (n := 48 + c) (by omega)
        rcases (show j = 0 ∨ j = 1 by simp at hj; omega) with rfl | rfl
        · simp only [List.getElem_cons_zero, e1]
          exact (alloc_cellD w #[.int .u8 (48 + (a : Int)), .int .u8 (48 + (c : Int))] _ (j := 0) (by simp)).trans (by simp)
        · simp only [List.getElem_cons_succ, List.getElem_cons_zero, e2]
          exact (alloc_cellD w #[.int .u8 (48 + (a : Int)), .int .u8 (48 + (c : Int))] _ (j := 1) (by simp)).trans (by simp))
      unfold digS digL
      rw [if_neg h, ← ha, ← hc]
      exact this
    clear ha hc
    go_enter Tryd.func30, Tryd.ntmps30
    go_wp2
    go_ret
    exact ⟨rfl, (Below.refl _ _).alloc (Nat.le_refl _) _⟩

/-- A run of n digits, and no more. -/
def DgRun (s : ByteArray) (p n : Nat) : Prop := (∀ k, k < n → Num.isDg (Num.byt s (p + k)) = true) ∧ Num.isDg (Num.byt s (p + n)) = false
theorem ext_list {s : ByteArray} {p n : Nat} (h : p + n ≤ s.size) : (s.extract p (p + n)).toList.length = n ∧ ∀ k (hk : k < (s.extract p (p + n)).toList.length), ((s.extract p (p + n)).toList[k]).toNat = Num.byt s (p + k) := by
  have hl : (s.extract p (p + n)).toList.length = n := by
    rw [ByteArray.toList_eq]; show (s.extract p (p + n)).size = n; simp [ByteArray.size_extract]; omega
  refine ⟨hl, fun k hk => ?_⟩
  rw [hl] at hk
  rw [Num.byt_lt (by omega)]
  have : (s.extract p (p + n)).toList[k]? = some s[p + k] := by
    rw [ByteArray.toList_eq]
    have h2 : s.data.size = s.size := rfl
    rw [Array.getElem?_toList, ByteArray.data_extract, Array.getElem?_extract, if_pos (by omega), Array.getElem?_eq_getElem (by omega)]
    rfl
  rw [List.getElem?_eq_getElem (by omega)] at this
  simp only [Option.some.injEq] at this
  rw [this]
theorem side_match {s : ByteArray} {p n v : Nat} (h : p + n ≤ s.size) (hr : DgRun s p n) (h1 : 1 ≤ v) (h2 : v ≤ 64) : ((s.extract p (p + n)).toList == digL v) = decide (Num.sideV s p = some (v, p + n)) := by
  obtain ⟨hl, hg⟩ := ext_list h
  obtain ⟨hd, hn⟩ := hr
  generalize (s.extract p (p + n)).toList = L at hl hg
  rw [Bool.eq_iff_iff]
  simp only [beq_iff_eq, decide_eq_true_eq]
  constructor
  · intro e
    subst e
    by_cases h10 : v < 10
    · have hl2 := hl
      simp [digL, h10] at hl2
      have g0 := hg 0 (by omega)
      simp [digL, h10] at g0
      have e0 : Num.byt s p = 48 + v := by omega
      have d0 := hd 0 (by omega)
      rw [Nat.add_zero] at d0
      subst hl2
      unfold Num.sideV
      rw [if_pos ⟨d0, by omega⟩, if_neg (by simp [hn])]
      simp; omega
    · have hl2 := hl
      simp [digL, h10] at hl2
      have g0 := hg 0 (by omega)
      have g1 := hg 1 (by omega)
      simp [digL, h10] at g0 g1
      have e0 : Num.byt s p = 48 + v / 10 := by omega
      have e1 : Num.byt s (p + 1) = 48 + v % 10 := by omega
      have d0 := hd 0 (by omega)
      have d1 := hd 1 (by omega)
      rw [Nat.add_zero] at d0
      subst hl2
      unfold Num.sideV
      rw [if_pos ⟨d0, by omega⟩, if_pos d1, if_pos ⟨by omega, hn⟩]
      simp; omega
  · intro e
    unfold Num.sideV at e
    split at e
    · rename_i c0
      have c1 := c0.1
      simp [Num.isDg] at c1
      split at e
      · rename_i c2
        have c3 := c2
        simp [Num.isDg] at c3
        split at e
        · simp at e
          obtain ⟨e1, e2⟩ := e
          have hn2 : n = 2 := by omega
          have g0 := hg 0 (by omega)
          have g1 := hg 1 (by omega)
          rw [Nat.add_zero] at g0
          have : L = [L[0]'(by omega), L[1]'(by omega)] := by
            apply List.ext_getElem
            · simp; omega
            · intro i hi _
              rcases (show i = 0 ∨ i = 1 by omega) with rfl | rfl <;> simp
          rw [this, digL, if_neg (by omega)]
          congr 1
          · apply UInt8.toNat_inj.1; rw [g0, u8_nat (by omega)]; omega
          · congr 1; apply UInt8.toNat_inj.1; rw [g1, u8_nat (by omega)]; omega
        · cases e
      · simp at e
        obtain ⟨e1, e2⟩ := e
        have hn2 : n = 1 := by omega
        have g0 := hg 0 (by omega)
        rw [Nat.add_zero] at g0
        have : L = [L[0]'(by omega)] := by
          apply List.ext_getElem
          · simp; omega
          · intro i hi _
            rcases (show i = 0 by omega) with rfl; simp
        rw [this, digL, if_pos (by omega)]
        congr 1
        apply UInt8.toNat_inj.1; rw [g0, u8_nat (by omega)]; omega
    · cases e
theorem side_end {s : ByteArray} {p n v q : Nat} (hr : DgRun s p n) (e : Num.sideV s p = some (v, q)) : q = p + n := by
  obtain ⟨hd, hn⟩ := hr
  have key : ∀ k, Num.isDg (Num.byt s (p + k)) = false → n ≤ k := fun k hk => by
    rcases Nat.lt_or_ge k n with h | h
    · rw [hd k h] at hk; cases hk
    · exact h
  have key2 : ∀ k, Num.isDg (Num.byt s (p + k)) = true → k ≠ n := fun k hk e => by rw [e, hn] at hk; cases hk
  unfold Num.sideV at e
  split at e
  · rename_i c0
    have k0 := key2 0 c0.1
    split at e
    · rename_i c2
      have k1 := key2 1 c2
      split at e
      · rename_i c4
        have := key 2 c4.2
        simp at e; omega
      · cases e
    · rename_i c2
      have := key 1 (by simpa using c2)
      simp at e; omega
  · cases e

set_option maxRecDepth 100000 in
set_option maxHeartbeats 2000000 in
theorem cuSide_any (cb : Nat) (s : ByteArray) (p : Nat) (b : Bool) (w : World) (hs : s.size ≤ 8192) (hp : p ≤ s.size) (h : w.rowIs cb 76 2 (cu2 s p b)) :
    Calls Tryd.prog 35 #[.pointer (some ⟨cb, 0, none⟩)] w fun e w' => ∃ v : Nat, e = .returned (.int .i64 v) ∧ v ≤ 64 ∧ CuTo w w' cb s b ((Num.sideV s p).map Prod.snd) ∧ ∀ x, b = false → Num.sideV s p = some x → v = x.1 := by
  obtain ⟨c0, c1, z0, z1⟩ := cu_cells h
  have hrl := h.lt
  have hts := tl_size s p
  have HH := hide h
  clear h
  go_enter Tryd.func35, Tryd.ntmps35
  go_wp2_with fail
  go_loopw [3] (fun t3 wr => wr = w ∧ ∃ n : Nat, p + n ≤ s.size ∧ t3 = .int .i64 n ∧ ∀ k, k < n → Num.isDg (Num.byt s (p + k)) = true) (fun t3 _ => s.size - (intOf t3).toNat)
  case atStart => exact ⟨rfl, 0, by omega, rfl, fun k hk => by omega⟩
  case round =>
    obtain ⟨hw, n, hn, rfl, hdg⟩ := hrel
    have hw2 := hw.symm
    clear hw
    subst hw2
    have HDg := hide hdg
    clear hdg
    by_cases hn1 : p + n < s.size
    · have g1 : (0 : Int) ≤ (n : Int) := by omega
      have g3 : n < (tl s p).size := by omega
      have g2 : (n : Int) < ((s.size - p : Nat) : Int) := by omega
      have hd : decide ((n : Int) < ((s.size - p : Nat) : Int)) = true := by simp; omega
      have hix := tl_ix (s := s) (p := p) (k := n) g3
      have w0 : IntKind.i64.wrap ((n : Int) + 1) = (n : Int) + 1 := wrap_ok _ (by omega) (by omega)
      by_cases e1 : 48 ≤ Num.byt s (p + n)
      · have d1 : decide ((48 : Int) ≤ (Num.byt s (p + n) : Int)) = true := by simp; omega
        by_cases e2 : Num.byt s (p + n) ≤ 57
        · have d2 : decide ((Num.byt s (p + n) : Int) ≤ 57) = true := by simp; omega
          go_wp2_with fail
          go_roundw
          case rel => exact ⟨trivial, n + 1, by omega, by push_cast; rfl, fun k hk => (Nat.lt_or_eq_of_le (Nat.le_of_lt_succ hk)).elim (HDg.out k) (fun h => by subst h; simp [Num.isDg]; omega)⟩
          case measure => simp [intOf]; omega
        · have d2 : decide ((Num.byt s (p + n) : Int) ≤ 57) = false := by simp; omega
          have hnd : Num.isDg (Num.byt s (p + n)) = false := by simp [Num.isDg]; omega
          have HRun : Hid (DgRun s p n) := ⟨HDg.out, hnd⟩
          clear HDg hnd
          go_wp2_with fail
          go_loopw [4] (fun t4 wx => ∃ v : Nat, 1 ≤ v ∧ v ≤ 65 ∧ t4 = .int .i64 v ∧ wx.rowIs cb 76 2 (cu2 s p b) ∧ Touch (fun q => q = cb) w wx ∧ (∀ u, 1 ≤ u → u < v → Num.sideV s p ≠ some (u, p + n)) ∧ (b = true → v = 1)) (fun t4 _ => 65 - (intOf t4).toNat)
          case atStart => exact ⟨1, by omega, by omega, rfl, HH.out, Touch.refl _ _, fun u a b => by omega, fun _ => rfl⟩
          case round =>
            obtain ⟨v, hv1, hv2, rfl, hrow, hT, hno, hb1⟩ := hrel
            clear c0 c1 z0 z1 hrl
            obtain ⟨c0, c1, z0, z1⟩ := cu_cells hrow
            have hrl := hrow.lt
            have HRow := hide hrow
            have HT := hide hT
            have HNo := hide hno
            clear hrow hT hno
            cases b
            · clear hb1
              by_cases hv : v ≤ 64
              · have hdv : decide ((v : Int) ≤ 64) = true := by simp; omega
                have w1 : IntKind.i64.wrap ((v : Int) + 1) = (v : Int) + 1 := wrap_ok _ (by omega) (by omega)
                have HC := hide (fun w' => digits_any v w' (by omega))
                have HM := hide (side_match hn HRun.out hv1 hv)
                go_wp2_with fail
                go_at_call 30
                refine (HC.out _).mono ?_
                rintro e w2 ⟨rfl, hB2⟩
                have hrow2 := row_below HRow.out hB2 hrl
                have HT2 : Hid (Touch (fun q => q = cb) w w2) := HT.out.of_below hB2
                have HRow2 := hide hrow2
                clear c0 c1 z0 z1 hB2
                obtain ⟨c0, c1, z0, z1⟩ := cu_cells hrow2
                have hrl2 := hrow2.lt
                clear hrow2
                have hdl := digS_list v
                have htk := tl_take hn
                have htd := tl_drop' hn
                have g1 : (0 : Int) ≤ (n : Int) := by omega
                have g2 : (n : Int) ≤ ((s.size - p : Nat) : Int) := by omega
                have g3 : n ≤ s.size - p := by omega
                by_cases hsd : Num.sideV s p = some (v, p + n)
                · have hm : ((s.extract p (p + n)).toList == digL v) = true := by rw [HM.out]; simp [hsd]
                  have HSd := hide hsd
                  clear hsd
                  go_wp2_with fail
                  go_ret
                  exact ⟨v, rfl, hv, CuTo.go (p + n) HT2.out HRow2.out hn (by rw [HSd.out]; rfl), fun x _ hx => by rw [HSd.out] at hx; exact congrArg Prod.fst (Option.some.inj hx)⟩
                · have hm : ((s.extract p (p + n)).toList == digL v) = false := by rw [HM.out]; simp [hsd]
                  have HSd := hide hsd
                  clear hsd
                  go_wp2_with fail
                  go_roundw
                  case rel => exact ⟨v + 1, by omega, by omega, by push_cast; rfl, HRow2.out, HT2.out, fun u h1 h2 => (Nat.lt_or_eq_of_le (Nat.le_of_lt_succ h2)).elim (HNo.out u h1) (fun h => by subst h; exact HSd.out), fun e => by cases e⟩
                  case measure => simp [intOf]; omega
              · have hdv : decide ((v : Int) ≤ 64) = false := by simp; omega
                have HSn : Hid (Num.sideV s p = none) := by
                  unfold Hid
                  cases hx : Num.sideV s p with
                  | none => rfl
                  | some y => exact absurd (by rw [hx, ← side_end HRun.out hx]) (HNo.out y.1 (Num.sideV_le hx).2.2.1 (by have := (Num.sideV_le hx).2.2.2; omega))
                go_wp2_with fail
                go_ret
                exact ⟨0, rfl, by omega, CuTo.bad HT.out HRow.out hp (.inl (by rw [HSn.out]; rfl)), fun x _ hx => by rw [HSn.out] at hx; cases hx⟩
            · have hv' := hb1 rfl
              subst hv'
              clear hb1
              go_wp2_with fail
              go_ret
              exact ⟨0, rfl, by omega, CuTo.bad HT.out HRow.out hp (.inr rfl), fun x e _ => by cases e⟩
      · have d1 : decide ((48 : Int) ≤ (Num.byt s (p + n) : Int)) = false := by simp; omega
        have hnd : Num.isDg (Num.byt s (p + n)) = false := by simp [Num.isDg]; omega
        have HRun : Hid (DgRun s p n) := ⟨HDg.out, hnd⟩
        clear HDg hnd
        go_wp2_with fail
        go_loopw [4] (fun t4 wx => ∃ v : Nat, 1 ≤ v ∧ v ≤ 65 ∧ t4 = .int .i64 v ∧ wx.rowIs cb 76 2 (cu2 s p b) ∧ Touch (fun q => q = cb) w wx ∧ (∀ u, 1 ≤ u → u < v → Num.sideV s p ≠ some (u, p + n)) ∧ (b = true → v = 1)) (fun t4 _ => 65 - (intOf t4).toNat)
        case atStart => exact ⟨1, by omega, by omega, rfl, HH.out, Touch.refl _ _, fun u a b => by omega, fun _ => rfl⟩
        case round =>
          obtain ⟨v, hv1, hv2, rfl, hrow, hT, hno, hb1⟩ := hrel
          clear c0 c1 z0 z1 hrl
          obtain ⟨c0, c1, z0, z1⟩ := cu_cells hrow
          have hrl := hrow.lt
          have HRow := hide hrow
          have HT := hide hT
          have HNo := hide hno
          clear hrow hT hno
          cases b
          · clear hb1
            by_cases hv : v ≤ 64
            · have hdv : decide ((v : Int) ≤ 64) = true := by simp; omega
              have w1 : IntKind.i64.wrap ((v : Int) + 1) = (v : Int) + 1 := wrap_ok _ (by omega) (by omega)
              have HC := hide (fun w' => digits_any v w' (by omega))
              have HM := hide (side_match hn HRun.out hv1 hv)
              go_wp2_with fail
              go_at_call 30
              refine (HC.out _).mono ?_
              rintro e w2 ⟨rfl, hB2⟩
              have hrow2 := row_below HRow.out hB2 hrl
              have HT2 : Hid (Touch (fun q => q = cb) w w2) := HT.out.of_below hB2
              have HRow2 := hide hrow2
              clear c0 c1 z0 z1 hB2
              obtain ⟨c0, c1, z0, z1⟩ := cu_cells hrow2
              have hrl2 := hrow2.lt
              clear hrow2
              have hdl := digS_list v
              have htk := tl_take hn
              have htd := tl_drop' hn
              have g1 : (0 : Int) ≤ (n : Int) := by omega
              have g2 : (n : Int) ≤ ((s.size - p : Nat) : Int) := by omega
              have g3 : n ≤ s.size - p := by omega
              by_cases hsd : Num.sideV s p = some (v, p + n)
              · have hm : ((s.extract p (p + n)).toList == digL v) = true := by rw [HM.out]; simp [hsd]
                have HSd := hide hsd
                clear hsd
                go_wp2_with fail
                go_ret
                exact ⟨v, rfl, hv, CuTo.go (p + n) HT2.out HRow2.out hn (by rw [HSd.out]; rfl), fun x _ hx => by rw [HSd.out] at hx; exact congrArg Prod.fst (Option.some.inj hx)⟩
              · have hm : ((s.extract p (p + n)).toList == digL v) = false := by rw [HM.out]; simp [hsd]
                have HSd := hide hsd
                clear hsd
                go_wp2_with fail
                go_roundw
                case rel => exact ⟨v + 1, by omega, by omega, by push_cast; rfl, HRow2.out, HT2.out, fun u h1 h2 => (Nat.lt_or_eq_of_le (Nat.le_of_lt_succ h2)).elim (HNo.out u h1) (fun h => by subst h; exact HSd.out), fun e => by cases e⟩
                case measure => simp [intOf]; omega
            · have hdv : decide ((v : Int) ≤ 64) = false := by simp; omega
              have HSn : Hid (Num.sideV s p = none) := by
                unfold Hid
                cases hx : Num.sideV s p with
                | none => rfl
                | some y => exact absurd (by rw [hx, ← side_end HRun.out hx]) (HNo.out y.1 (Num.sideV_le hx).2.2.1 (by have := (Num.sideV_le hx).2.2.2; omega))
              go_wp2_with fail
              go_ret
              exact ⟨0, rfl, by omega, CuTo.bad HT.out HRow.out hp (.inl (by rw [HSn.out]; rfl)), fun x _ hx => by rw [HSn.out] at hx; cases hx⟩
          · have hv' := hb1 rfl
            subst hv'
            clear hb1
            go_wp2_with fail
            go_ret
            exact ⟨0, rfl, by omega, CuTo.bad HT.out HRow.out hp (.inr rfl), fun x e _ => by cases e⟩
    · have hd : decide ((n : Int) < ((s.size - p : Nat) : Int)) = false := by simp; omega
      have hnd : Num.isDg (Num.byt s (p + n)) = false := by rw [Num.byt_ge (by omega)]; decide
      have HRun : Hid (DgRun s p n) := ⟨HDg.out, hnd⟩
      clear HDg hnd
      go_wp2_with fail
      go_loopw [4] (fun t4 wx => ∃ v : Nat, 1 ≤ v ∧ v ≤ 65 ∧ t4 = .int .i64 v ∧ wx.rowIs cb 76 2 (cu2 s p b) ∧ Touch (fun q => q = cb) w wx ∧ (∀ u, 1 ≤ u → u < v → Num.sideV s p ≠ some (u, p + n)) ∧ (b = true → v = 1)) (fun t4 _ => 65 - (intOf t4).toNat)
      case atStart => exact ⟨1, by omega, by omega, rfl, HH.out, Touch.refl _ _, fun u a b => by omega, fun _ => rfl⟩
      case round =>
        obtain ⟨v, hv1, hv2, rfl, hrow, hT, hno, hb1⟩ := hrel
        clear c0 c1 z0 z1 hrl
        obtain ⟨c0, c1, z0, z1⟩ := cu_cells hrow
        have hrl := hrow.lt
        have HRow := hide hrow
        have HT := hide hT
        have HNo := hide hno
        clear hrow hT hno
        cases b
        · clear hb1
          by_cases hv : v ≤ 64
          · have hdv : decide ((v : Int) ≤ 64) = true := by simp; omega
            have w1 : IntKind.i64.wrap ((v : Int) + 1) = (v : Int) + 1 := wrap_ok _ (by omega) (by omega)
            have HC := hide (fun w' => digits_any v w' (by omega))
            have HM := hide (side_match hn HRun.out hv1 hv)
            go_wp2_with fail
            go_at_call 30
            refine (HC.out _).mono ?_
            rintro e w2 ⟨rfl, hB2⟩
            have hrow2 := row_below HRow.out hB2 hrl
            have HT2 : Hid (Touch (fun q => q = cb) w w2) := HT.out.of_below hB2
            have HRow2 := hide hrow2
            clear c0 c1 z0 z1 hB2
            obtain ⟨c0, c1, z0, z1⟩ := cu_cells hrow2
            have hrl2 := hrow2.lt
            clear hrow2
            have hdl := digS_list v
            have htk := tl_take hn
            have htd := tl_drop' hn
            have g1 : (0 : Int) ≤ (n : Int) := by omega
            have g2 : (n : Int) ≤ ((s.size - p : Nat) : Int) := by omega
            have g3 : n ≤ s.size - p := by omega
            by_cases hsd : Num.sideV s p = some (v, p + n)
            · have hm : ((s.extract p (p + n)).toList == digL v) = true := by rw [HM.out]; simp [hsd]
              have HSd := hide hsd
              clear hsd
              go_wp2_with fail
              go_ret
              exact ⟨v, rfl, hv, CuTo.go (p + n) HT2.out HRow2.out hn (by rw [HSd.out]; rfl), fun x _ hx => by rw [HSd.out] at hx; exact congrArg Prod.fst (Option.some.inj hx)⟩
            · have hm : ((s.extract p (p + n)).toList == digL v) = false := by rw [HM.out]; simp [hsd]
              have HSd := hide hsd
              clear hsd
              go_wp2_with fail
              go_roundw
              case rel => exact ⟨v + 1, by omega, by omega, by push_cast; rfl, HRow2.out, HT2.out, fun u h1 h2 => (Nat.lt_or_eq_of_le (Nat.le_of_lt_succ h2)).elim (HNo.out u h1) (fun h => by subst h; exact HSd.out), fun e => by cases e⟩
              case measure => simp [intOf]; omega
          · have hdv : decide ((v : Int) ≤ 64) = false := by simp; omega
            have HSn : Hid (Num.sideV s p = none) := by
              unfold Hid
              cases hx : Num.sideV s p with
              | none => rfl
              | some y => exact absurd (by rw [hx, ← side_end HRun.out hx]) (HNo.out y.1 (Num.sideV_le hx).2.2.1 (by have := (Num.sideV_le hx).2.2.2; omega))
            go_wp2_with fail
            go_ret
            exact ⟨0, rfl, by omega, CuTo.bad HT.out HRow.out hp (.inl (by rw [HSn.out]; rfl)), fun x _ hx => by rw [HSn.out] at hx; cases hx⟩
        · have hv' := hb1 rfl
          subst hv'
          clear hb1
          go_wp2_with fail
          go_ret
          exact ⟨0, rfl, by omega, CuTo.bad HT.out HRow.out hp (.inr rfl), fun x e _ => by cases e⟩
end Go.Proofs.YtkhcjkmifddlbabDoor
