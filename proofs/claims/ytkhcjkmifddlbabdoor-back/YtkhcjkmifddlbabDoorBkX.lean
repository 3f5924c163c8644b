/- The keeping law Back. -/
import Derived.Test.YtkhcjkmifddlbabDoorBkW
import Derived.Test.YtkhcjkmifddlbabDoorLayW
namespace Go.Proofs.YtkhcjkmifddlbabDoor
open Go.RowKit Go.Deep

theorem u8w_bd (x : Int) : 0 ≤ IntKind.u8.wrap x ∧ IntKind.u8.wrap x ≤ 255 := by simp [IntKind.wrap, IntKind.bits, IntKind.signed]; omega
theorem getD_bd {l : List Int} (h : ∀ x ∈ l, 0 ≤ x ∧ x ≤ 255) (k : Nat) (hk : k < l.length) : 0 ≤ l.getD k 0 ∧ l.getD k 0 ≤ 255 := by
  rw [show l.getD k 0 = l[k] by simp [hk]]; exact h _ (List.getElem_mem hk)
/-- What stands behind the head of a text. -/
theorem byt_behind {s : ByteArray} {A : List UInt8} {n off : Nat} {X : Nat → Int} (hX : ∀ k, k < n → 0 ≤ X k ∧ X k ≤ 255) (h : s.toList = A ++ bytL n X) (ho : off = A.length) : s.size - off = n ∧ ∀ k, k < n → X k = (Num.byt s (off + k) : Int) := by
  have a : At s off (bytL n X) := At.mk (A := A) (C := []) (by rw [h]; simp) ho
  refine ⟨by rw [size_toL, h, List.length_append, bytL_len]; omega, fun k hk => ?_⟩
  have hk2 : k < (bytL n X).length := by rw [bytL_len]; exact hk
  rw [a.2 k hk2, bytL_at hX hk2]

/-- The pixels that Back makes. -/
structure BkP (w wr : World) (gb W H i : Nat) (v : Value) (l : List Int) : Prop where
  bel : Below w.heap.size w wr
  row : wr.rowIs gb 24 3 (gz W H v)
  own : wr.ownsRow (gb + 1) 5 1 v i (byC l)
  len : l.length = i
  bd : ∀ x ∈ l, 0 ≤ x ∧ x ≤ 255
theorem BkP.next {w wr w4 : World} {gb W H i g cap : Nat} {v : Value} {l : List Int} {z : Int} (h : BkP w wr gb W H i v l) (hgb : gb = w.heap.size) (hz : 0 ≤ z ∧ z ≤ 255)
    (hown4 : w4.ownsRow (gb + 1) 5 1 (.slice (some ⟨g, 0, none⟩) (i + 1) cap) (i + 1) (byC l ++ [.int .u8 z]))
    (hg4 : w4.rowIs gb 24 3 (gz W H v)) (hgge : gb + 1 ≤ g) (hb4 : Below w.heap.size w w4) :
    BkP w (w4.setCell ⟨gb, 2, none⟩ (.slice (some ⟨g, 0, none⟩) (i + 1) cap)) gb W H (i + 1) (.slice (some ⟨g, 0, none⟩) (i + 1) cap) (l ++ [z]) where
  bel := hb4.setCell (p := ⟨gb, 2, none⟩) (by show w.heap.size ≤ gb; omega) _
  row := gz_pix hg4 _
  own := by rw [byC_snoc]; exact owns_of_block hown4 (fun q hq => set_other (by simp [Value.ownBlock] at hq; omega))
  len := by rw [List.length_append, h.len]; rfl
  bd := fun x hx => by
    rcases List.mem_append.1 hx with h1 | h1
    · exact h.bd x h1
    · rw [List.mem_singleton.1 h1]; exact hz

set_option maxRecDepth 100000 in
set_option maxHeartbeats 4000000 in
theorem back_any (wi hi : Int) (t : ByteArray) (ka kb : Int) (w : World) (w1 : -9223372036854775808 ≤ wi ∧ wi ≤ 9223372036854775807) (w2 : -9223372036854775808 ≤ hi ∧ hi ≤ 9223372036854775807) (ht : (t.size : Int) ≤ 9000000000000000000)
    (w3 : -9223372036854775808 ≤ ka ∧ ka ≤ 9223372036854775807) (w4 : -9223372036854775808 ≤ kb ∧ kb ≤ 9223372036854775807) :
    Calls Tryd.prog 4 #[.int .i64 wi, .int .i64 hi, .string t, .int .i64 ka, .int .i64 kb] w fun e w' => e = .returned (.bool true) ∧ Below w.heap.size w w' := by
  obtain ⟨i0, hi0, hz0, hz1, hz2⟩ := info_parts info_by
  have HWi := hide (fun w' => bwindow_any wi w' w1.1 w1.2)
  have HHi := hide (fun w' => bwindow_any hi w' w2.1 w2.2)
  obtain ⟨W, hW⟩ : ∃ W, W = bwindowN wi := ⟨_, rfl⟩
  obtain ⟨H, hH⟩ : ∃ H, H = bwindowN hi := ⟨_, rfl⟩
  have hWr : 1 ≤ W ∧ W ≤ 64 := by rw [hW]; exact (bwindowN_rng wi).1
  have hHr : 1 ≤ H ∧ H ≤ 64 := by rw [hH]; exact (bwindowN_rng hi).1
  rw [← hW] at HWi
  rw [← hH] at HHi
  clear hW hH
  obtain ⟨n, hn⟩ : ∃ n, n = W * H := ⟨_, rfl⟩
  have hnb : 1 ≤ n ∧ n ≤ 4096 := by rw [hn]; exact ⟨Nat.mul_le_mul hWr.1 hHr.1, Nat.mul_le_mul hWr.2 hHr.2⟩
  have hmul : (W : Int) * (H : Int) = (n : Int) := by rw [hn]; simp
  have wmul : IntKind.i64.wrap ((n : Nat) : Int) = (n : Int) := wrap_ok _ (by omega) (by omega)
  have HN := hide hn
  obtain ⟨ik, hik⟩ : ∃ k : Nat, bpickV ka 4 = (k : Int) := ⟨(bpickV ka 4).toNat, by have := bpickV_rng ka 4 (by omega); omega⟩
  obtain ⟨jk, hjk⟩ : ∃ k : Nat, bpickV kb 4 = (k : Int) := ⟨(bpickV kb 4).toNat, by have := bpickV_rng kb 4 (by omega); omega⟩
  have hik4 : ik < 4 := by have := bpickV_rng ka 4 (by omega); omega
  have hjk4 : jk < 4 := by have := bpickV_rng kb 4 (by omega); omega
  have HPk := hide (fun w' => bpick_any ka 4 w' w3.1 w3.2 (by omega))
  have HPn := hide (fun w' => bpick_any kb 4 w' w4.1 w4.2 (by omega))
  rw [hik] at HPk
  rw [hjk] at HPn
  clear hn hik hjk w1 w2 w3 w4
  obtain ⟨W1, hW1⟩ : ∃ W1, W1 = w.alloc (.cells #[.int .i64 W, .int .i64 H, .slice none 0 0] 24) := ⟨_, rfl⟩
  obtain ⟨gb, hgb⟩ : ∃ gb, gb = w.heap.size := ⟨_, rfl⟩
  have hP0 : BkP w W1 gb W H 0 (.slice none 0 0) [] := ⟨by rw [hW1]; exact (Below.refl _ _).alloc (Nat.le_refl _) _, by rw [hW1, hgb]; exact gz_row _ _ _ _ _, World.ownsRow_nil _ _ _ _, rfl, fun x hx => by cases hx⟩
  have HP0 := hide hP0
  clear hP0
  go_enter Tryd.func4, Tryd.ntmps4
  go_wp2_with fail
  go_at_call 8
  refine (HWi.out _).mono ?_
  rintro e w' ⟨rfl, hw'⟩
  rw [hw']
  clear hw'
  go_wp2_with fail
  go_at_call 8
  refine (HHi.out _).mono ?_
  rintro e w' ⟨rfl, hw'⟩
  rw [hw']
  clear hw'
  go_wp2_with fail
  rw [← hW1]
  rw [← hgb]
  have HGb := hide hgb
  clear hgb hW1
  go_loopw [12] (fun t wr => ∃ (i : Nat) (v : Value) (l : List Int), i ≤ n ∧ t = .int .i64 i ∧ BkP w wr gb W H i v l) (fun t _ => n - (intOf t).toNat)
  case atStart => exact ⟨0, .slice none 0 0, [], by omega, rfl, HP0.out⟩
  case round =>
    obtain ⟨i, v, l, hin, rfl, hP⟩ := hrel
    obtain ⟨g0, g1, g2⟩ := gz_cells hP.row
    have f2 := hP.row.frozen 2
    have hgl := hP.row.lt
    have HP := hide hP
    have HOw := hide hP.own
    obtain ⟨L, hL⟩ : ∃ L, L = byC l := ⟨_, rfl⟩
    rw [← hL] at HOw
    have HL := hide hL
    clear hP hL
    by_cases hlt : i < n
    · have hd : decide ((i : Int) < (n : Int)) = true := by simp; omega
      obtain ⟨ib, hib⟩ : ∃ z, IntKind.u8.wrap (i : Int) = z := ⟨_, rfl⟩
      have hibb : 0 ≤ ib ∧ ib ≤ 255 := by rw [← hib]; exact u8w_bd _
      by_cases ht0 : t.size = 0
      · have hd2 : decide ((0 : Int) < (t.size : Int)) = false := decide_eq_false (by omega)
        have hd3 : decide (0 < t.size) = false := decide_eq_false (by omega)
        have hd4 : ¬ 0 < t.size := by omega
        clear ht0
        go_wp2_with (at_builtin; refine wpList_append_lies _ rfl _ _ 22 rfl (gb + 1) 5 i0 (.int .u8 0) 1 1 Tryd.underlying22 hi0 hz0 hz1 hz2 rfl (by omega) v i L rfl (HOw.out.alloc _) ⟨wr.heap.size, 0, none⟩ 1 1 [.int .u8 ib] rfl rfl ?a1 ?a2 (by omega) ?a3 ?a4 ?a5 (wr.heap.size + 1) (by simp) ?_)
        try (case a1 => exact news_sp wr [.int .u8 ib] _ _ rfl)
        case a2 => first | rfl | (intro u hu; simp at hu; subst hu; rfl)
        case a3 => unfold maxLen; omega
        case a4 => omega
        case a5 => first | omega | (simp; omega)
        intro g cap w4 hown4 hgrow hat hlt4
        have hnbk : ∀ q, v.ownBlock = some q → gb + 1 ≤ q := fun q hq => (HOw.out.lt q hq).1
        have hgw : w.heap.size = gb := HGb.out.symm
        have hszx := HP.out.bel.size
        have hb4 : Below w.heap.size w w4 := (HP.out.bel.alloc (by omega) _).grown hgrow (by simp; omega) (fun q hq => by have := hnbk q hq; omega)
        have hg4 := HP.out.row.of_block (show w4.heap[gb]? = wr.heap[gb]? by rw [hgrow.block _ (by rw [nblk_alloc]; have := HP.out.row.lt; omega) (fun e => by have := hnbk _ e.symm; omega), blk_alloc_lt _ _ _ HP.out.row.lt])
        have hgge : gb + 1 ≤ g := by
          rcases hat with h | h
          · exact hnbk g h
          · omega
        rw [HL.out] at hown4
        have HP4 := hide (HP.out.next HGb.out hibb hown4 hg4 hgge hb4)
        have k4 := (gz_cells hg4).2.2
        have f4 := hg4.frozen 2
        have hgl4 := hg4.lt
        clear hown4 hgrow hat hnbk hb4 hg4 hgw g0 g1 g2 f2
        go_wp2
        go_roundw
        case rel => exact ⟨i + 1, _, _, by omega, by go_num, HP4.out⟩
        case measure => simp [intOf]; omega
      · have hd2 : decide ((0 : Int) < (t.size : Int)) = true := decide_eq_true (by omega)
        have hd3 : decide (0 < t.size) = true := decide_eq_true (by omega)
        have htn : (t.size : Int) ≠ 0 := by omega
        obtain ⟨r, hr⟩ : ∃ r, r = i % t.size := ⟨_, rfl⟩
        obtain ⟨q, hq⟩ : ∃ q, q = i / t.size := ⟨_, rfl⟩
        have hrl : r < t.size := by rw [hr]; exact Nat.mod_lt _ (by omega)
        have hql : q ≤ i := by rw [hq]; exact Nat.div_le_self _ _
        have m1 : (i : Int).tmod (t.size : Int) = (r : Int) := by rw [hr, Int.tmod_eq_emod_of_nonneg (by omega)]; simp
        have m2 : (i : Int).tdiv (t.size : Int) = (q : Int) := by rw [hq, Int.tdiv_eq_ediv_of_nonneg (by omega)]; simp
        have x1 : IntKind.i64.wrap (r : Int) = (r : Int) := wrap_ok _ (by omega) (by omega)
        have x2 : IntKind.i64.wrap (q : Int) = (q : Int) := wrap_ok _ (by omega) (by omega)
        have y0 : (0 : Int) ≤ (r : Int) := by omega
        have y1 : (r : Int) < (t.size : Int) := by omega
        have hbx := byt_ix hrl
        obtain ⟨qb, hqb⟩ : ∃ z, IntKind.u8.wrap (q : Int) = z := ⟨_, rfl⟩
        obtain ⟨zz, hzz⟩ : ∃ z, IntKind.u8.wrap ((Num.byt t r : Int) + qb) = z := ⟨_, rfl⟩
        have hzb : 0 ≤ zz ∧ zz ≤ 255 := by rw [← hzz]; exact u8w_bd _
        clear hr hq ht0
        go_wp2_with fail
        go_quiet (fail)
        obtain ⟨wx, hwx⟩ : ∃ wx, wx = wr.drewN nq := ⟨_, rfl⟩
        rw [← hwx]
        have HPx : Hid (BkP w wx gb W H i v l) := by unfold Hid; rw [hwx]; exact ⟨below_drewN HP.out.bel nq, row_drewN HP.out.row nq, owns_of_block HP.out.own (fun _ _ => rfl), HP.out.len, HP.out.bd⟩
        clear HP HOw hwx g0 g1 g2 f2 hgl
        obtain ⟨g0, g1, g2⟩ := gz_cells HPx.out.row
        have f2 := HPx.out.row.frozen 2
        have hgl := HPx.out.row.lt
        have HOw := hide HPx.out.own
        rw [← HL.out] at HOw
        have HP := HPx
        clear HPx
        go_wp2_with (at_builtin; refine wpList_append_lies _ rfl _ _ 22 rfl (gb + 1) 5 i0 (.int .u8 0) 1 1 Tryd.underlying22 hi0 hz0 hz1 hz2 rfl (by omega) v i L rfl (HOw.out.alloc _) ⟨wx.heap.size, 0, none⟩ 1 1 [.int .u8 zz] rfl rfl ?a1 ?a2 (by omega) ?a3 ?a4 ?a5 (wx.heap.size + 1) (by simp) ?_)
        try (case a1 => exact news_sp wx [.int .u8 zz] _ _ rfl)
        case a2 => first | rfl | (intro u hu; simp at hu; subst hu; rfl)
        case a3 => unfold maxLen; omega
        case a4 => omega
        case a5 => first | omega | (simp; omega)
        intro g cap w4 hown4 hgrow hat hlt4
        have hnbk : ∀ q, v.ownBlock = some q → gb + 1 ≤ q := fun q hq => (HOw.out.lt q hq).1
        have hgw : w.heap.size = gb := HGb.out.symm
        have hszx := HP.out.bel.size
        have hb4 : Below w.heap.size w w4 := (HP.out.bel.alloc (by omega) _).grown hgrow (by simp; omega) (fun q hq => by have := hnbk q hq; omega)
        have hg4 := HP.out.row.of_block (show w4.heap[gb]? = wx.heap[gb]? by rw [hgrow.block _ (by rw [nblk_alloc]; have := HP.out.row.lt; omega) (fun e => by have := hnbk _ e.symm; omega), blk_alloc_lt _ _ _ HP.out.row.lt])
        have hgge : gb + 1 ≤ g := by
          rcases hat with h | h
          · exact hnbk g h
          · omega
        rw [HL.out] at hown4
        have HP4 := hide (HP.out.next HGb.out hzb hown4 hg4 hgge hb4)
        have k4 := (gz_cells hg4).2.2
        have f4 := hg4.frozen 2
        have hgl4 := hg4.lt
        clear hown4 hgrow hat hnbk hb4 hg4 hgw g0 g1 g2 f2
        go_wp2
        go_roundw
        case rel => exact ⟨i + 1, _, _, by omega, by go_num, HP4.out⟩
        case measure => simp [intOf]; omega
    · have hie : i = n := by omega
      subst hie
      clear hlt hin
      obtain ⟨ao, cap, hvf, hby⟩ := owns_byC (l := l) (by rw [HP.out.len]; exact HP.out.own)
      rw [HP.out.len] at hvf hby
      subst hvf
      obtain ⟨X, hX⟩ : ∃ X : Nat → Int, X = fun k => l.getD k 0 := ⟨_, rfl⟩
      rw [← hX] at hby
      have hXb : ∀ k, k < i → 0 ≤ X k ∧ X k ≤ 255 := fun k hk => by rw [hX]; exact getD_bd HP.out.bd k (by rw [HP.out.len]; exact hk)
      have HXb := hide hXb
      have HBy := hide hby
      have HR := hide HP.out.row
      have HB := hide HP.out.bel
      have HHw := hide (show w.heap.size ≤ gb by rw [← HGb.out]; exact Nat.le_refl _)
      have hd : decide ((i : Int) < (i : Int)) = false := by simp
      have hpic : Num.picB W H i = true := by simp [Num.picB]; have := HN.out; omega
      have hTe : encE W H i = 0 := by unfold encE; rw [if_pos hpic]
      have hTt : encT W H i X = ByteArray.mk #[80, 53, 10] ++ digS W ++ ByteArray.mk #[32] ++ digS H ++ ByteArray.mk #[10, 50, 53, 53, 10] ++ ByteArray.mk (bytL i X).toArray := by unfold encT; rw [if_pos hpic]; rfl
      have HC := hide (glyphEncode_any ao i cap W H X wr hby hXb)
      rw [hTe] at HC
      obtain ⟨T, hT⟩ : ∃ T, T = encT W H i X := ⟨_, rfl⟩
      rw [← hT] at HC
      have hTl : T.toList = [80, 53, 10] ++ digL W ++ [32] ++ digL H ++ [10, 50, 53, 53, 10] ++ bytL i X := by
        rw [hT, hTt, toL_app, toL_app, toL_app, toL_app, toL_app, digS_list, digS_list, toL_mk, ByteArray.toList_mk, ByteArray.toList_mk, ByteArray.toList_mk]
      have HTl := hide hTl
      obtain ⟨ts, hts⟩ : ∃ m, T.size = m := ⟨_, rfl⟩
      have hdl := And.intro (digL_len W) (digL_len H)
      have HTs : Hid (ts = 9 + (digL W).length + (digL H).length + i) := by unfold Hid; rw [← hts, size_toL, hTl]; simp [bytL_len]; omega
      have htb : i < ts ∧ ts ≤ 5000 := by have := HTs.out; omega
      clear hby hXb hX hpic hTe hTt hT hTl
      go_wp2_with fail
      refine HC.out.mono ?_
      rintro e w2 ⟨rfl, hb2⟩
      have hr2 := row_below HR.out hb2 HR.out.lt
      have HR2 := hide hr2
      have HBy2 := hide (HBy.out.below hb2)
      have HB2 := hide (HB.out.trans (hb2.mono HB.out.size))
      clear hb2 g0 g1 g2 f2 hgl
      obtain ⟨g0, g1, g2⟩ := gz_cells hr2
      have hgl := hr2.lt
      have htn : decide ((ts : Int) < (i : Int)) = false := by simp; omega
      have HV1 : Hid (Num.decV T = some (W, H, 9 + (digL W).length + (digL H).length)) := by
        unfold Hid
        rw [dec_head (Q := bytL i X) hWr.1 hWr.2 hHr.1 hHr.2 (by omega) HTl.out, if_pos (by rw [bytL_len]; exact HN.out)]
      have HX1 := hide (byt_behind (s := T) (A := [80, 53, 10] ++ digL W ++ [32] ++ digL H ++ [10, 50, 53, 53, 10]) (off := 9 + (digL W).length + (digL H).length) HXb.out HTl.out (by simp; omega))
      clear hr2
      go_wp2_with fail
      go_at_call 10
      refine (read_any T ao i cap W H (9 + (digL W).length + (digL H).length) X w2 (by omega) HV1.out HX1.out.1 (by omega) HBy2.out HX1.out.2).mono ?_
      rintro e w3 ⟨rfl, hb3⟩
      have hr3 := row_below HR2.out hb3 HR2.out.lt
      have HR3 := hide hr3
      have HBy3 := hide (HBy2.out.below hb3)
      have HB3 := hide (HB2.out.trans (hb3.mono HB2.out.size))
      clear hb3 g0 g1 g2 hgl HV1 HX1 hr3
      obtain ⟨TP, hTP⟩ : ∃ S, T ++ ByteArray.mk #[80] = S := ⟨_, rfl⟩
      have hTPs : TP.size = ts + 1 := by rw [← hTP, ByteArray.size_append, hts]; rfl
      have kTP : ¬ 9223372036854775807 < ts + 1 := by omega
      have HV2 : Hid (Num.decV TP = none) := by
        unfold Hid
        rw [dec_head (s := TP) (Q := bytL i X ++ [80]) hWr.1 hWr.2 hHr.1 hHr.2 (by omega) (by rw [← hTP, toL_app, HTl.out, ByteArray.toList_mk]; simp), if_neg (by rw [List.length_append, bytL_len]; have := HN.out; simp; omega)]
      have HTPs := hide hTPs
      clear hTPs
      go_wp2_with fail
      go_at_call 11
      refine (none_any TP w3 (by rw [HTPs.out]; omega) HV2.out).mono ?_
      rintro e w4 ⟨rfl, hb4⟩
      have hr4 := row_below HR3.out hb4 HR3.out.lt
      have HR4 := hide hr4
      have HBy4 := hide (HBy3.out.below hb4)
      have HB4 := hide (HB3.out.trans (hb4.mono HB3.out.size))
      clear hb4 hr4 HV2 HTPs hTP kTP
      obtain ⟨tm, htm⟩ : ∃ m : Nat, m = ts - 1 := ⟨_, rfl⟩
      have xt : IntKind.i64.wrap ((ts : Int) - 1) = (tm : Int) := by rw [wrap_ok _ (by omega) (by omega)]; omega
      have yt0 : (0 : Int) ≤ (tm : Int) := by omega
      have yt1 : (tm : Int) ≤ (ts : Int) := by omega
      have yt2 : tm ≤ ts := by omega
      obtain ⟨TM, hTM⟩ : ∃ S, T.extract 0 tm = S := ⟨_, rfl⟩
      have hTMl : TM.toList = [80, 53, 10] ++ digL W ++ [32] ++ digL H ++ [10, 50, 53, 53, 10] ++ (bytL i X).take (i - 1) := by
        have e1 : TM.toList = T.toList.take tm := by
          rw [← hTM, ByteArray.toList_eq, ByteArray.toList_eq, ByteArray.data_extract, Array.toList_extract]; simp
        have hh : ([80, 53, 10] ++ digL W ++ [32] ++ digL H ++ [10, 50, 53, 53, 10] : List UInt8).length = 9 + (digL W).length + (digL H).length := by simp; omega
        rw [e1, HTl.out, List.take_append, hh, List.take_of_length_le (by rw [hh]; have := HTs.out; omega), show tm - (9 + (digL W).length + (digL H).length) = i - 1 by have := HTs.out; omega]
      have HV3 : Hid (Num.decV TM = none ∧ TM.size ≤ 8192) := by
        have hz : TM.size ≤ 8192 := by rw [← hTM]; simp [ByteArray.size_extract]; omega
        refine ⟨?_, hz⟩
        rw [dec_head (s := TM) (Q := (bytL i X).take (i - 1)) hWr.1 hWr.2 hHr.1 hHr.2 hz hTMl, if_neg (by rw [List.length_take, bytL_len]; have := HN.out; omega)]
      clear hTMl htm
      go_wp2_with fail
      go_at_call 11
      refine (none_any TM w4 (by have := HV3.out.2; omega) HV3.out.1).mono ?_
      rintro e w5 ⟨rfl, hb5⟩
      have hr5 := row_below HR4.out hb5 HR4.out.lt
      have HR5 := hide hr5
      have HBy5 := hide (HBy4.out.below hb5)
      have HB5 := hide (HB4.out.trans (hb5.mono HB4.out.size))
      obtain ⟨g0, g1, g2⟩ := gz_cells hr5
      have hgl := hr5.lt
      clear hb5 hr5 HV3 hTM xt yt0 yt1 yt2
      obtain ⟨DW, hDW⟩ : ∃ D, D = digS W := ⟨_, rfl⟩
      obtain ⟨DH, hDH⟩ : ∃ D, D = digS H := ⟨_, rfl⟩
      have HDc := hide (fun w' => decimal_any W w' (by omega))
      have HDd := hide (fun w' => decimal_any H w' (by omega))
      rw [← hDW] at HDc
      rw [← hDH] at HDd
      have HDW := hide (And.intro hDW hDH)
      clear hDW hDH
      go_wp2_with fail
      go_at_call 12
      refine (HDc.out _).mono ?_
      rintro e w6 ⟨rfl, hb6⟩
      have hr6 := row_below HR5.out hb6 HR5.out.lt
      have HR6 := hide hr6
      have HBy6 := hide (HBy5.out.below hb6)
      have HB6 := hide (HB5.out.trans (hb6.mono HB5.out.size))
      clear hb6 g0 g1 g2 hgl
      obtain ⟨g0, g1, g2⟩ := gz_cells hr6
      have hgl := hr6.lt
      clear hr6
      go_wp2_with fail
      go_at_call 12
      refine (HDd.out _).mono ?_
      rintro e w7 ⟨rfl, hb7⟩
      have hr7 := row_below HR6.out hb7 HR6.out.lt
      have HR7 := hide hr7
      have HBy7 := hide (HBy6.out.below hb7)
      have HB7 := hide (HB6.out.trans (hb7.mono HB6.out.size))
      clear hb7 g0 g1 g2 hgl
      obtain ⟨g0, g1, g2⟩ := gz_cells hr7
      have hgl := hr7.lt
      clear hr7
      go_wp2_with fail
      go_at_call 13
      refine (HPk.out _).mono ?_
      rintro e w' ⟨rfl, hw'⟩
      rw [hw']
      clear hw'
      go_wp2_with fail
      go_at_call 13
      refine (HPn.out _).mono ?_
      rintro e w' ⟨rfl, hw'⟩
      rw [hw']
      clear hw'
      obtain ⟨SK, hSK⟩ : ∃ D, D = ByteArray.mk #[spc ik] := ⟨_, rfl⟩
      obtain ⟨SN, hSN⟩ : ∃ D, D = ByteArray.mk #[spc jk] := ⟨_, rfl⟩
      obtain ⟨PP, hPP⟩ : ∃ D, D = ByteArray.mk (bytL i X).toArray := ⟨_, rfl⟩
      have HSk := hide (fun w' => space_any ik w' hik4)
      have HSn := hide (fun w' => space_any jk w' hjk4)
      rw [← hSK] at HSk
      rw [← hSN] at HSn
      have hrun : ∀ m, (convert 22 9 (.slice ao i cap)).run Tryd.prog (w7.drewN m) = .ok (.string PP) (w7.drewN m) := fun m => by
        rw [hPP]; exact by_string (HBy7.out.below (below_drewN (Below.refl _ _) m)) (by omega) HXb.out
      have hzK : SK.size = 1 := by rw [hSK]; rfl
      have hzN : SN.size = 1 := by rw [hSN]; rfl
      obtain ⟨dw, hzW⟩ : ∃ m, DW.size = m := ⟨_, rfl⟩
      obtain ⟨dh, hzH⟩ : ∃ m, DH.size = m := ⟨_, rfl⟩
      have hdw : dw ≤ 2 := by rw [← hzW, HDW.out.1]; exact digS_size W
      have hdh : dh ≤ 2 := by rw [← hzH, HDW.out.2]; exact digS_size H
      have hzP : PP.size = i := by rw [hPP]; show (bytL i X).toArray.size = i; simp [bytL]
      obtain ⟨S1, hS1⟩ : ∃ S, ByteArray.mk #[80, 53] ++ SK = S := ⟨_, rfl⟩
      obtain ⟨s1, hs1⟩ : ∃ m, S1.size = m := ⟨_, rfl⟩
      have hsz1 : s1 = 2 + 1 := by rw [← hs1, ← hS1, ByteArray.size_append, hzK] <;> rfl
      have kk1 : ¬ 9223372036854775807 < 2 + 1 := by omega
      obtain ⟨S2, hS2⟩ : ∃ S, S1 ++ ByteArray.mk #[35] = S := ⟨_, rfl⟩
      obtain ⟨s2, hs2⟩ : ∃ m, S2.size = m := ⟨_, rfl⟩
      have hsz2 : s2 = s1 + 1 := by rw [← hs2, ← hS2, ByteArray.size_append, hs1] <;> rfl
      have kk2 : ¬ 9223372036854775807 < s1 + 1 := by omega
      obtain ⟨S3, hS3⟩ : ∃ S, S2 ++ DW = S := ⟨_, rfl⟩
      obtain ⟨s3, hs3⟩ : ∃ m, S3.size = m := ⟨_, rfl⟩
      have hsz3 : s3 = s2 + dw := by rw [← hs3, ← hS3, ByteArray.size_append, hs2, hzW] <;> rfl
      have kk3 : ¬ 9223372036854775807 < s2 + dw := by omega
      obtain ⟨S4, hS4⟩ : ∃ S, S3 ++ ByteArray.mk #[10] = S := ⟨_, rfl⟩
      obtain ⟨s4, hs4⟩ : ∃ m, S4.size = m := ⟨_, rfl⟩
      have hsz4 : s4 = s3 + 1 := by rw [← hs4, ← hS4, ByteArray.size_append, hs3] <;> rfl
      have kk4 : ¬ 9223372036854775807 < s3 + 1 := by omega
      obtain ⟨S5, hS5⟩ : ∃ S, S4 ++ DW = S := ⟨_, rfl⟩
      obtain ⟨s5, hs5⟩ : ∃ m, S5.size = m := ⟨_, rfl⟩
      have hsz5 : s5 = s4 + dw := by rw [← hs5, ← hS5, ByteArray.size_append, hs4, hzW] <;> rfl
      have kk5 : ¬ 9223372036854775807 < s4 + dw := by omega
      obtain ⟨S6, hS6⟩ : ∃ S, S5 ++ SN = S := ⟨_, rfl⟩
      obtain ⟨s6, hs6⟩ : ∃ m, S6.size = m := ⟨_, rfl⟩
      have hsz6 : s6 = s5 + 1 := by rw [← hs6, ← hS6, ByteArray.size_append, hs5, hzN] <;> rfl
      have kk6 : ¬ 9223372036854775807 < s5 + 1 := by omega
      obtain ⟨S7, hS7⟩ : ∃ S, S6 ++ SK = S := ⟨_, rfl⟩
      obtain ⟨s7, hs7⟩ : ∃ m, S7.size = m := ⟨_, rfl⟩
      have hsz7 : s7 = s6 + 1 := by rw [← hs7, ← hS7, ByteArray.size_append, hs6, hzK] <;> rfl
      have kk7 : ¬ 9223372036854775807 < s6 + 1 := by omega
      obtain ⟨S8, hS8⟩ : ∃ S, S7 ++ DH = S := ⟨_, rfl⟩
      obtain ⟨s8, hs8⟩ : ∃ m, S8.size = m := ⟨_, rfl⟩
      have hsz8 : s8 = s7 + dh := by rw [← hs8, ← hS8, ByteArray.size_append, hs7, hzH] <;> rfl
      have kk8 : ¬ 9223372036854775807 < s7 + dh := by omega
      obtain ⟨S9, hS9⟩ : ∃ S, S8 ++ SK = S := ⟨_, rfl⟩
      obtain ⟨s9, hs9⟩ : ∃ m, S9.size = m := ⟨_, rfl⟩
      have hsz9 : s9 = s8 + 1 := by rw [← hs9, ← hS9, ByteArray.size_append, hs8, hzK] <;> rfl
      have kk9 : ¬ 9223372036854775807 < s8 + 1 := by omega
      obtain ⟨S10, hS10⟩ : ∃ S, S9 ++ ByteArray.mk #[35, 35, 10, 35, 50, 53, 53, 10, 50, 53, 53] = S := ⟨_, rfl⟩
      obtain ⟨s10, hs10⟩ : ∃ m, S10.size = m := ⟨_, rfl⟩
      have hsz10 : s10 = s9 + 11 := by rw [← hs10, ← hS10, ByteArray.size_append, hs9] <;> rfl
      have kk10 : ¬ 9223372036854775807 < s9 + 11 := by omega
      obtain ⟨S11, hS11⟩ : ∃ S, S10 ++ SN = S := ⟨_, rfl⟩
      obtain ⟨s11, hs11⟩ : ∃ m, S11.size = m := ⟨_, rfl⟩
      have hsz11 : s11 = s10 + 1 := by rw [← hs11, ← hS11, ByteArray.size_append, hs10, hzN] <;> rfl
      have kk11 : ¬ 9223372036854775807 < s10 + 1 := by omega
      obtain ⟨S12, hS12⟩ : ∃ S, S11 ++ PP = S := ⟨_, rfl⟩
      obtain ⟨s12, hs12⟩ : ∃ m, S12.size = m := ⟨_, rfl⟩
      have hsz12 : s12 = s11 + i := by rw [← hs12, ← hS12, ByteArray.size_append, hs11, hzP] <;> rfl
      have kk12 : ¬ 9223372036854775807 < s11 + i := by omega
      have HSS := hide (And.intro hsz1 (And.intro hsz2 (And.intro hsz3 (And.intro hsz4 (And.intro hsz5 (And.intro hsz6 (And.intro hsz7 (And.intro hsz8 (And.intro hsz9 (And.intro hsz10 (And.intro hsz11 hsz12)))))))))))
      have hRl : S12.toList = [80, 53] ++ [spc ik] ++ [35] ++ digL W ++ [10] ++ digL W ++ [spc jk] ++ [spc ik] ++ digL H ++ [spc ik] ++ [35, 35, 10, 35, 50, 53, 53, 10, 50, 53, 53] ++ [spc jk] ++ bytL i X := by
        rw [← hS12, ← hS11, ← hS10, ← hS9, ← hS8, ← hS7, ← hS6, ← hS5, ← hS4, ← hS3, ← hS2, ← hS1, hSK, hSN, hPP, HDW.out.1, HDW.out.2]
        simp only [toL_app, digS_list, ByteArray.toList_mk]
      have HRl := hide hRl
      have HRz : Hid (S12.size ≤ 8192) := by unfold Hid; rw [hs12]; omega
      have HV4 : Hid (Num.decV S12 = some (W, H, 20 + 2 * (digL W).length + (digL H).length)) := by
        unfold Hid
        rw [dec_other (Q := bytL i X) hWr.1 hWr.2 hHr.1 hHr.2 HRz.out (spc_sp ik) (spc_sp jk) hRl, if_pos (by rw [bytL_len]; exact HN.out)]
      have HX4 := hide (byt_behind (s := S12) (A := [80, 53] ++ [spc ik] ++ [35] ++ digL W ++ [10] ++ digL W ++ [spc jk] ++ [spc ik] ++ digL H ++ [spc ik] ++ [35, 35, 10, 35, 50, 53, 53, 10, 50, 53, 53] ++ [spc jk]) (off := 20 + 2 * (digL W).length + (digL H).length) HXb.out hRl (by simp; omega))
      clear hRl hSK hSN hPP hsz1 hsz2 hsz3 hsz4 hsz5 hsz6 hsz7 hsz8 hsz9 hsz10 hsz11 hsz12
      go_wp2_with fail
      go_quiet ((go_at_call 14; first | refine Calls.quiet_of_same (HSk.out _) | refine Calls.quiet_of_same (HSn.out _)))
      obtain ⟨w8, hw8⟩ : ∃ w8, w8 = w7.drewN nq := ⟨_, rfl⟩
      rw [← hw8]
      have hr8 : w8.rowIs gb 24 3 (gz W H (.slice ao i cap)) := by rw [hw8]; exact row_drewN HR7.out nq
      have HBy8 : Hid (ByAt w8 ao i X) := by unfold Hid; rw [hw8]; exact HBy7.out.below (below_drewN (Below.refl _ _) nq)
      have HB8 : Hid (Below w.heap.size w w8) := by unfold Hid; rw [hw8]; exact below_drewN HB7.out nq
      clear g0 g1 g2 hgl hw8 hrun
      obtain ⟨g0, g1, g2⟩ := gz_cells hr8
      have hgl := hr8.lt
      clear hr8
      go_wp2_with fail
      go_at_call 10
      refine (read_any S12 ao i cap W H (20 + 2 * (digL W).length + (digL H).length) X w8 (by have := HRz.out; omega) HV4.out HX4.out.1 (by omega) HBy8.out HX4.out.2).mono ?_
      rintro e w9 ⟨rfl, hb9⟩
      have HB9 := hide (HB8.out.trans (hb9.mono HB8.out.size))
      clear hb9 g0 g1 g2 hgl
      go_wp2
      go_ret
      exact ⟨rfl, HB9.out⟩
end Go.Proofs.YtkhcjkmifddlbabDoor
