/- The document's Lay. -/
import Derived.Test.YtkhcjkmifddlbabLyG
import Derived.Test.YtkhcjkmifddlbabRefLy
namespace Go.Proofs.Ytkhcjkmifddlbab
open Go.RowKit Go.Deep

theorem gz_pix {w : World} {p : Nat} {t : TypeId} {a b : Int} {v : Value} (h : w.rowIs p t 3 (gz a b v)) (u : Value) : (w.setCell ⟨p, 2, none⟩ u).rowIs p t 3 (gz a b u) := by
  refine (h.set 2 _).congr fun q hq => ?_
  rcases (show q = 0 ∨ q = 1 ∨ q = 2 by omega) with rfl | rfl | rfl <;> rfl

set_option maxRecDepth 100000 in
set_option maxHeartbeats 4000000 in
theorem refLay_no (a a' : Option Addr) (n m c c' : Nat) (UW UH OW OH x y way : Int) (w : World) (hE : Num.layE UW UH n OW OH m way 8 9 ≠ 0) :
    Calls Try.prog 38 #[.agg #[.int .i64 UW, .int .i64 UH, .slice a n c], .agg #[.int .i64 OW, .int .i64 OH, .slice a' m c'], .int .i64 x, .int .i64 y, .int .i64 way] w fun e w' => e = .returned (.tuple #[.agg #[.int .i64 0, .int .i64 0, .slice none 0 0], .int .i64 (Num.layE UW UH n OW OH m way 8 9)]) ∧ Below w.heap.size w w' := by
  unfold Num.layE at hE ⊢
  cases h1 : Num.picB UW UH n
  · simp only [h1, Bool.false_eq_true, false_and, if_false] at hE ⊢
    go_enter Try.func38, Try.ntmps38
    go_wp2_with (go_at_call 57; refine (isGray_any _ _ _ _ _ _).mono ?_; rintro e w' ⟨rfl, rfl⟩)
    exact bodyPost_ret (v := .tuple #[.agg #[.int .i64 0, .int .i64 0, .slice none 0 0], .int .i64 8]) (by simp [results, Try.results38, go_sem]) rfl ⟨rfl, by (repeat (any_goals (first | exact Below.refl _ _ | assumption | refine Below.drew ?_ | refine below_drewN ?_ _ | refine Below.setCell ?_ ?_ _ | refine Below.alloc ?_ ?_ _ | omega | (simp; done) | (simp; omega))))⟩
  · cases h2 : Num.picB OW OH m
    · simp only [h1, h2, Bool.false_eq_true, and_false, if_false] at hE ⊢
      go_enter Try.func38, Try.ntmps38
      go_wp2_with (go_at_call 57; refine (isGray_any _ _ _ _ _ _).mono ?_; rintro e w' ⟨rfl, rfl⟩)
      exact bodyPost_ret (v := .tuple #[.agg #[.int .i64 0, .int .i64 0, .slice none 0 0], .int .i64 8]) (by simp [results, Try.results38, go_sem]) rfl ⟨rfl, by (repeat (any_goals (first | exact Below.refl _ _ | assumption | refine Below.drew ?_ | refine below_drewN ?_ _ | refine Below.setCell ?_ ?_ _ | refine Below.alloc ?_ ?_ _ | omega | (simp; done) | (simp; omega))))⟩
    · simp only [h1, h2, and_self, if_true] at hE ⊢
      have hw : ¬ (0 ≤ way ∧ way ≤ 3) := fun h => by rw [if_pos h] at hE; exact hE rfl
      rw [if_neg hw]
      clear hE
      by_cases w0 : way < 0
      · clear hw
        go_enter Try.func38, Try.ntmps38
        go_wp2_with (go_at_call 57; refine (isGray_any _ _ _ _ _ _).mono ?_; rintro e w' ⟨rfl, rfl⟩)
        exact bodyPost_ret (v := .tuple #[.agg #[.int .i64 0, .int .i64 0, .slice none 0 0], .int .i64 9]) (by simp [results, Try.results38, go_sem]) rfl ⟨rfl, by (repeat (any_goals (first | exact Below.refl _ _ | assumption | refine Below.drew ?_ | refine below_drewN ?_ _ | refine Below.setCell ?_ ?_ _ | refine Below.alloc ?_ ?_ _ | omega | (simp; done) | (simp; omega))))⟩
      · have w1 : 3 < way := by omega
        clear hw
        go_enter Try.func38, Try.ntmps38
        go_wp2_with (go_at_call 57; refine (isGray_any _ _ _ _ _ _).mono ?_; rintro e w' ⟨rfl, rfl⟩)
        exact bodyPost_ret (v := .tuple #[.agg #[.int .i64 0, .int .i64 0, .slice none 0 0], .int .i64 9]) (by simp [results, Try.results38, go_sem]) rfl ⟨rfl, by (repeat (any_goals (first | exact Below.refl _ _ | assumption | refine Below.drew ?_ | refine below_drewN ?_ _ | refine Below.setCell ?_ ?_ _ | refine Below.alloc ?_ ?_ _ | omega | (simp; done) | (simp; omega))))⟩

set_option maxRecDepth 100000 in
set_option maxHeartbeats 4000000 in
theorem refLay_yes (a a' : Option Addr) (uw uh ow oh c c' : Nat) (U O : Nat → Int) (x y way : Int) (w : World) (hu : 1 ≤ uw ∧ uw ≤ 64 ∧ 1 ≤ uh ∧ uh ≤ 64) (ho : 1 ≤ ow ∧ ow ≤ 64 ∧ 1 ≤ oh ∧ oh ≤ 64) (hw : 0 ≤ way ∧ way ≤ 3)
    (hU : ByAt w a (uw * uh) U) (hO : ByAt w a' (ow * oh) O) (bU : ∀ k, k < uw * uh → 0 ≤ U k ∧ U k ≤ 255) (bO : ∀ k, k < ow * oh → 0 ≤ O k ∧ O k ≤ 255) :
    Calls Try.prog 38 #[.agg #[.int .i64 uw, .int .i64 uh, .slice a (uw * uh) c], .agg #[.int .i64 ow, .int .i64 oh, .slice a' (ow * oh) c'], .int .i64 x, .int .i64 y, .int .i64 way] w fun e w' => ∃ v, e = .returned (.tuple #[.agg #[.int .i64 uw, .int .i64 uh, v], .int .i64 0]) ∧ Below w.heap.size w w' ∧ w'.ownsRow w.heap.size 5 1 v (uw * uh) (byC (Num.layL uw ow oh U O x y way (uw * uh))) := by
  obtain ⟨i0, hi0, hz0, hz1, hz2⟩ := info_parts info_by
  obtain ⟨n, hn⟩ : ∃ n, n = uw * uh := ⟨_, rfl⟩
  obtain ⟨m, hm⟩ : ∃ m, m = ow * oh := ⟨_, rfl⟩
  have hn1 : n ≤ 4096 := by rw [hn]; exact Num.mul_le_sq hu.2.1 hu.2.2.2
  have hm1 : m ≤ 4096 := by rw [hm]; exact Num.mul_le_sq ho.2.1 ho.2.2.2
  have p1 : Num.picB (uw : Int) (uh : Int) n = true := by simp [Num.picB, hn]; omega
  have p2 : Num.picB (ow : Int) (oh : Int) m = true := by simp [Num.picB, hm]; omega
  rw [← hn] at hU bU ⊢
  rw [← hm] at hO bO ⊢
  obtain ⟨sb, hsb⟩ : ∃ sb, sb = w.heap.size := ⟨_, rfl⟩
  obtain ⟨W5, hW5⟩ : ∃ W5, W5 = ((((w.alloc (.cells #[.int .i64 uw, .int .i64 uh, .slice a n c] 57)).alloc (.cells #[.int .i64 ow, .int .i64 oh, .slice a' m c'] 57)).alloc (.cells #[.int .i64 0, .int .i64 0, .slice none 0 0] 57)).alloc (.cells #[.int .i64 uw, .int .i64 uh, .slice a n c] 57)).alloc (.cells #[.int .i64 ow, .int .i64 oh, .slice a' m c'] 57) := ⟨_, rfl⟩
  obtain ⟨W6, hW6⟩ : ∃ W6, W6 = W5.alloc (.cells #[.int .i64 uw, .int .i64 uh, .slice none 0 0] 57) := ⟨_, rfl⟩
  have hs5 : W5.heap.size = sb + 5 := by rw [hW5, hsb]; simp
  have hs6 : W6.heap.size = sb + 6 := by rw [hW6]; simp [hs5]
  have hB6 : Below w.heap.size w W6 := by rw [hW6, hW5]; (repeat (any_goals (first | exact Below.refl _ _ | assumption | refine Below.drew ?_ | refine below_drewN ?_ _ | refine Below.setCell ?_ ?_ _ | refine Below.alloc ?_ ?_ _ | omega | (simp; done) | (simp; omega))))
  have hGu : W6.rowIs sb 57 3 (gz uw uh (.slice a n c)) := by rw [hW6, hW5, hsb]; exact (((((gz_row _ _ _ _ _).alloc _).alloc _).alloc _).alloc _).alloc _
  have hGo : W6.rowIs (sb + 1) 57 3 (gz ow oh (.slice a' m c')) := by
    have h := gz_row ow oh (.slice a' m c') (w.alloc (.cells #[.int .i64 (uw : Int), .int .i64 (uh : Int), .slice a n c] 57)) 57
    rw [nblk_alloc] at h
    rw [hW6, hW5, hsb]; exact (((h.alloc _).alloc _).alloc _).alloc _
  have hGz : W6.rowIs (sb + 1 + 1) 57 3 (gz 0 0 (.slice none 0 0)) := by
    have h := gz_row 0 0 (.slice none 0 0) ((w.alloc (.cells #[.int .i64 (uw : Int), .int .i64 (uh : Int), .slice a n c] 57)).alloc (.cells #[.int .i64 (ow : Int), .int .i64 (oh : Int), .slice a' m c'] 57)) 57
    rw [nblk_alloc, nblk_alloc] at h
    rw [hW6, hW5, hsb]; exact ((h.alloc _).alloc _).alloc _
  have hGg : W6.rowIs (sb + 1 + 1 + 1 + 1 + 1) 57 3 (gz uw uh (.slice none 0 0)) := by
    have h := gz_row uw uh (.slice none 0 0) W5 57
    rw [hs5] at h
    rw [hW6]; exact h
  have HU := hide hU
  have HO := hide hO
  have HbU := hide bU
  have HbO := hide bO
  have HGu := hide hGu
  have HGo := hide hGo
  have HGz := hide hGz
  have HGg := hide hGg
  have HB6 : Hid (Below sb w W6) := by unfold Hid; rw [hsb]; exact hB6
  have HSb := hide hsb
  have HN := hide hn
  have HM := hide hm
  have HS6 := hide hs6
  have w0 : ¬ way < 0 := by omega
  have w1 : ¬ 3 < way := by omega
  clear hU hO bU bO hB6 hGu hGo hGz hGg hn hm hs5 hs6
  go_enter Try.func38, Try.ntmps38
  go_wp2_with (go_at_call 57; refine (isGray_any _ _ _ _ _ _).mono ?_; rintro e w' ⟨rfl, rfl⟩)
  rw [← hW5, ← hW6]
  try rw [← hsb]
  clear hW5 hW6 hsb
  go_loopw [15] (fun t wr => ∃ (j : Nat) (v : Value), j ≤ uh ∧ t = .int .i64 j ∧ Below (sb + 5) W6 wr ∧ wr.rowIs (sb + 1 + 1 + 1 + 1 + 1) 57 3 (gz uw uh v) ∧ wr.ownsRow (sb + 6) 5 1 v (j * uw) (byC (Num.layL uw ow oh U O x y way (j * uw)))) (fun t _ => uh - (intOf t).toNat)
  case atStart => exact ⟨0, .slice none 0 0, by omega, rfl, Below.refl _ _, HGg.out, by simp [Num.layL, byC]; exact World.ownsRow_nil _ _ _ _⟩
  case round =>
    obtain ⟨wo, rfl⟩ : ∃ wo, wo = wr := ⟨_, rfl⟩
    obtain ⟨j, vo, hj, rfl, hbo, hgo, howno⟩ := hrel
    have hszo := hbo.size
    have hS6 := HS6.out
    obtain ⟨u0, u1, u2⟩ := gz_cells (row_below HGu.out hbo (by omega))
    obtain ⟨o0, o1, o2⟩ := gz_cells (row_below HGo.out hbo (by omega))
    by_cases hlt : j < uh
    · have hd1 : decide ((j : Int) < (uh : Int)) = true := by simp; omega
      have hmj : j * uw + uw ≤ n := by rw [HN.out, Nat.mul_comm uw uh, ← Nat.succ_mul]; exact Nat.mul_le_mul_right uw hlt
      obtain ⟨ja, hja⟩ : ∃ ja, ja = j * uw := ⟨_, rfl⟩
      have hmul : (j : Int) * (uw : Int) = (ja : Int) := by rw [hja]; simp
      rw [← hja] at howno hmj
      have HJA := hide hja
      have HOo := hide (And.intro hbo (And.intro hgo howno))
      have hj64 : j < 64 := by omega
      clear howno hbo hja hgo
      by_cases hcy : Num.covB y oh j = true
      · have by' : y ≤ (j : Int) ∧ (j : Int) - y < (oh : Int) := by simpa [Num.covB] using hcy
        obtain ⟨jy, hjy⟩ : ∃ jy : Nat, (j : Int) - y = (jy : Int) := ⟨((j : Int) - y).toNat, by omega⟩
        have hly : liesV y oh j = (jy : Int) := by unfold liesV; rw [if_pos hcy]; exact hjy
        have HJY := hide (And.intro hjy by')
        have hjyb : jy < oh := by omega
        clear hjy by'
        go_wp2_with (go_at_call 58; refine (refLies_any _ _ _ _ (by omega) (by omega)).mono ?_; rintro e w' ⟨rfl, hw'⟩; rw [hw']; clear hw')
        go_loopw [17] (fun t wr => ∃ (i : Nat) (v : Value), i ≤ uw ∧ t = .int .i64 i ∧ Below (sb + 5) W6 wr ∧ wr.rowIs (sb + 1 + 1 + 1 + 1 + 1) 57 3 (gz uw uh v) ∧ wr.ownsRow (sb + 6) 5 1 v (ja + i) (byC (Num.layL uw ow oh U O x y way (ja + i)))) (fun t _ => uw - (intOf t).toNat)
        case atStart => exact ⟨0, vo, by omega, rfl, HOo.out.1, HOo.out.2.1, HOo.out.2.2⟩
        case round =>
          obtain ⟨i, v, hi, rfl, hb1, hg1', hown⟩ := hrel
          have hsz := hb1.size
          clear u0 u1 u2 o0 o1 o2
          obtain ⟨u0, u1, u2⟩ := gz_cells (row_below HGu.out hb1 (by omega))
          obtain ⟨o0, o1, o2⟩ := gz_cells (row_below HGo.out hb1 (by omega))
          by_cases hli : i < uw
          · have hdi : decide ((i : Int) < (uw : Int)) = true := by simp; omega
            have hin : ja + i < n := by omega
            have hBw : Below w.heap.size w wr := by rw [← HSb.out]; exact HB6.out.trans (hb1.mono (by omega))
            obtain ⟨ub, uoff, rfl, cu, hub⟩ := cellBy (HU.out.below hBw) hin
            have hUb := HbU.out _ hin
            have cu' : wr.cell? ⟨ub, uoff + ((ja : Int) + (i : Int)).toNat, none⟩ = some (.int .u8 (U (ja + i))) := by rw [show ((ja : Int) + (i : Int)).toNat = ja + i by omega]; exact cu
            have g0 : (0 : Int) ≤ (ja : Int) + (i : Int) := by omega
            have g1 : (ja : Int) + (i : Int) < (n : Int) := by omega
            have hmod : (ja + i) % uw = i := by rw [HJA.out, Nat.mul_comm j uw, Nat.mul_add_mod, Nat.mod_eq_of_lt hli]
            have hdiv : (ja + i) / uw = j := by rw [HJA.out, Nat.mul_comm j uw, Nat.mul_add_div (by omega), Nat.div_eq_of_lt hli, Nat.add_zero]
            have HSu := hide (Num.layL_succ uw ow oh U O x y way (ja + i))
            rw [hmod, hdiv] at HSu
            have HJi : Hid (j * uw + i = ja + i) := by unfold Hid; rw [HJA.out]
            obtain ⟨L, hL⟩ : ∃ L, L = byC (Num.layL uw ow oh U O x y way (ja + i)) := ⟨_, rfl⟩
            rw [← hL] at hown
            obtain ⟨z, hz⟩ : ∃ z, z = Num.layV uw ow oh U O x y way i j := ⟨_, rfl⟩
            have HLs : Hid (byC (Num.layL uw ow oh U O x y way (ja + i + 1)) = L ++ [.int .u8 z]) := by unfold Hid; rw [HSu.out, byC_snoc, hL, hz]
            have hzv : Hid (z = if Num.covB x ow i = true ∧ Num.covB y oh j = true then Num.mixV (U (ja + i)) (O (((j : Int) - y).toNat * ow + ((i : Int) - x).toNat)) way else U (ja + i)) := by unfold Hid; rw [hz]; unfold Num.layV; rw [HJi.out]
            have HOw := hide hown
            have HBw := hide hb1
            have HGw := hide hg1'
            have k2 := (gz_cells hg1').2.2
            have f2 := hg1'.frozen 2
            have hgl := hg1'.lt
            have HBww := hide hBw
            have hi64 : i < 64 := by omega
            clear hmod hdiv hL HSu hown hb1 hz hg1' hBw
            by_cases hcx : Num.covB x ow i = true
            · have bx : x ≤ (i : Int) ∧ (i : Int) - x < (ow : Int) := by simpa [Num.covB] using hcx
              obtain ⟨ix, hix⟩ : ∃ ix : Nat, (i : Int) - x = (ix : Int) := ⟨((i : Int) - x).toNat, by omega⟩
              have hlx : liesV x ow i = (ix : Int) := by unfold liesV; rw [if_pos hcx]; exact hix
              obtain ⟨jo, hjo⟩ : ∃ jo, jo = jy * ow := ⟨_, rfl⟩
              have hmul2 : (jy : Int) * (ow : Int) = (jo : Int) := by rw [hjo]; simp
              have hom : jo + ix < m := by rw [hjo, HM.out]; exact Num.mul_row (by omega) (by omega)
              obtain ⟨ob, ooff, rfl, co, hob⟩ := cellBy (HO.out.below HBww.out) hom
              have hOb := HbO.out _ hom
              have co' : wr.cell? ⟨ob, ooff + ((jo : Int) + (ix : Int)).toNat, none⟩ = some (.int .u8 (O (jo + ix))) := by rw [show ((jo : Int) + (ix : Int)).toNat = jo + ix by omega]; exact co
              have k0 : (0 : Int) ≤ (jo : Int) + (ix : Int) := by omega
              have k1 : (jo : Int) + (ix : Int) < (m : Int) := by omega
              have hzz : Hid (z = Num.mixV (U (ja + i)) (O (jo + ix)) way) := by
                unfold Hid
                rw [hzv.out, if_pos ⟨hcx, hcy⟩, hjo, show ((j : Int) - y).toNat = jy by have := HJY.out.1; omega, show ((i : Int) - x).toNat = ix by omega]
              have HMix := hide (fun w => both_any (U (ja + i)) (O (jo + ix)) way w hUb hOb hw)
              rw [← hzz.out] at HMix
              have hzb : 0 ≤ z ∧ z ≤ 255 := by rw [hzz.out]; exact Num.mixV_bd hUb hOb
              have hjx : (0 : Int) ≤ (jy : Int) := by omega
              have hixx : (0 : Int) ≤ (ix : Int) := by omega
              clear hjo hzv hix bx
              go_wp2_with (first | (go_at_call 58; refine (refLies_any _ _ _ _ (by omega) (by omega)).mono ?_; rintro e w' ⟨rfl, hw'⟩; rw [hw']; clear hw') | (go_at_call 59; refine (HMix.out _).mono ?_; rintro e w' ⟨rfl, hw'⟩; rw [hw']; clear hw') | (at_builtin; refine wpList_append_lies _ rfl _ _ 55 rfl (sb + 6) 5 i0 (.int .u8 0) 1 1 Try.underlying55 hi0 hz0 hz1 hz2 rfl (by omega) v (ja + i) L rfl (HOw.out.alloc _) ⟨wr.heap.size, 0, none⟩ 1 1 [.int .u8 z] rfl rfl ?a1 ?a2 (by omega) ?a3 ?a4 ?a5 (wr.heap.size + 1) (by simp) ?_))
              try (case a1 => exact news_sp wr [.int .u8 z] _ _ rfl)
              case a2 => first | rfl | (intro u hu; simp at hu; subst hu; rfl)
              case a3 => unfold maxLen; omega
              case a4 => omega
              case a5 => first | omega | (simp; omega)
              intro g cap w4 hown4 hgrow hat hlt4
              have hnb : ∀ q, v.ownBlock = some q → sb + 6 ≤ q := fun q hq => (HOw.out.lt q hq).1
              have hb4 : Below (sb + 5) W6 w4 := (HBw.out.alloc (by omega) _).grown hgrow (by simp; omega) (fun q hq => by have := hnb q hq; omega)
              have hg4 := HGw.out.of_block (show w4.heap[sb + 1 + 1 + 1 + 1 + 1]? = wr.heap[sb + 1 + 1 + 1 + 1 + 1]? by rw [hgrow.block _ (by rw [nblk_alloc]; have := HGw.out.lt; omega) (fun e => by have := hnb _ e.symm; omega), blk_alloc_lt _ _ _ HGw.out.lt])
              have hgge : sb + 6 ≤ g := by
                rcases hat with h | h
                · exact hnb g h
                · omega
              have HG4 := hide (gz_pix hg4 (.slice (some ⟨g, 0, none⟩) (ja + i + 1) cap))
              have HO4 : Hid ((w4.setCell ⟨sb + 1 + 1 + 1 + 1 + 1, 2, none⟩ (.slice (some ⟨g, 0, none⟩) (ja + i + 1) cap)).ownsRow (sb + 6) 5 1 (.slice (some ⟨g, 0, none⟩) (ja + i + 1) cap) (ja + (i + 1)) (byC (Num.layL uw ow oh U O x y way (ja + (i + 1))))) := by
                unfold Hid
                rw [← Nat.add_assoc, HLs.out]
                exact owns_of_block hown4 (fun q hq => set_other (by simp [Value.ownBlock] at hq; omega))
              have HB4 : Hid (Below (sb + 5) W6 (w4.setCell ⟨sb + 1 + 1 + 1 + 1 + 1, 2, none⟩ (.slice (some ⟨g, 0, none⟩) (ja + i + 1) cap))) := hb4.setCell (p := ⟨sb + 1 + 1 + 1 + 1 + 1, 2, none⟩) (by show sb + 5 ≤ sb + 1 + 1 + 1 + 1 + 1; omega) _
              have k4 := (gz_cells hg4).2.2
              have f4 := hg4.frozen 2
              have hgl4 := hg4.lt
              clear hown4 hgrow hat hnb hb4 hg4 k2 f2
              go_wp2
              go_roundw
              case rel => exact ⟨i + 1, _, by omega, by go_num, HB4.out, HG4.out, HO4.out⟩
              case measure => simp [intOf]; omega
            · have hcx : Num.covB x ow i = false := by simpa using hcx
              have hlx : liesV x ow i = -1 := by unfold liesV; rw [hcx]; rfl
              have hzU : Hid (z = U (ja + i)) := by unfold Hid; rw [hzv.out, if_neg (fun e => by rw [e.1] at hcx; cases hcx)]
              have hjx : (0 : Int) ≤ (jy : Int) := by omega
              clear hzv
              go_wp2_with (first | (go_at_call 58; refine (refLies_any _ _ _ _ (by omega) (by omega)).mono ?_; rintro e w' ⟨rfl, hw'⟩; rw [hw']; clear hw') | (at_builtin; refine wpList_append_lies _ rfl _ _ 55 rfl (sb + 6) 5 i0 (.int .u8 0) 1 1 Try.underlying55 hi0 hz0 hz1 hz2 rfl (by omega) v (ja + i) L rfl (HOw.out.alloc _) ⟨wr.heap.size, 0, none⟩ 1 1 [.int .u8 (U (ja + i))] rfl rfl ?a1 ?a2 (by omega) ?a3 ?a4 ?a5 (wr.heap.size + 1) (by simp) ?_))
              try (case a1 => exact news_sp wr [.int .u8 (U (ja + i))] _ _ rfl)
              case a2 => first | rfl | (intro u hu; simp at hu; subst hu; rfl)
              case a3 => unfold maxLen; omega
              case a4 => omega
              case a5 => first | omega | (simp; omega)
              intro g cap w4 hown4 hgrow hat hlt4
              have hnb : ∀ q, v.ownBlock = some q → sb + 6 ≤ q := fun q hq => (HOw.out.lt q hq).1
              have hb4 : Below (sb + 5) W6 w4 := (HBw.out.alloc (by omega) _).grown hgrow (by simp; omega) (fun q hq => by have := hnb q hq; omega)
              have hg4 := HGw.out.of_block (show w4.heap[sb + 1 + 1 + 1 + 1 + 1]? = wr.heap[sb + 1 + 1 + 1 + 1 + 1]? by rw [hgrow.block _ (by rw [nblk_alloc]; have := HGw.out.lt; omega) (fun e => by have := hnb _ e.symm; omega), blk_alloc_lt _ _ _ HGw.out.lt])
              have hgge : sb + 6 ≤ g := by
                rcases hat with h | h
                · exact hnb g h
                · omega
              have HG4 := hide (gz_pix hg4 (.slice (some ⟨g, 0, none⟩) (ja + i + 1) cap))
              have HO4 : Hid ((w4.setCell ⟨sb + 1 + 1 + 1 + 1 + 1, 2, none⟩ (.slice (some ⟨g, 0, none⟩) (ja + i + 1) cap)).ownsRow (sb + 6) 5 1 (.slice (some ⟨g, 0, none⟩) (ja + i + 1) cap) (ja + (i + 1)) (byC (Num.layL uw ow oh U O x y way (ja + (i + 1))))) := by
                unfold Hid
                rw [← Nat.add_assoc, HLs.out]
                try rw [hzU.out]
                exact owns_of_block hown4 (fun q hq => set_other (by simp [Value.ownBlock] at hq; omega))
              have HB4 : Hid (Below (sb + 5) W6 (w4.setCell ⟨sb + 1 + 1 + 1 + 1 + 1, 2, none⟩ (.slice (some ⟨g, 0, none⟩) (ja + i + 1) cap))) := hb4.setCell (p := ⟨sb + 1 + 1 + 1 + 1 + 1, 2, none⟩) (by show sb + 5 ≤ sb + 1 + 1 + 1 + 1 + 1; omega) _
              have k4 := (gz_cells hg4).2.2
              have f4 := hg4.frozen 2
              have hgl4 := hg4.lt
              clear hown4 hgrow hat hnb hb4 hg4 k2 f2
              go_wp2
              go_roundw
              case rel => exact ⟨i + 1, _, by omega, by go_num, HB4.out, HG4.out, HO4.out⟩
              case measure => simp [intOf]; omega
          · have e : i = uw := by omega
            have hdi : decide ((i : Int) < (uw : Int)) = false := by simp; omega
            have HOF : Hid (wr.ownsRow (sb + 6) 5 1 v ((j + 1) * uw) (byC (Num.layL uw ow oh U O x y way ((j + 1) * uw)))) := by
              unfold Hid
              rw [e, HJA.out, ← Nat.succ_mul] at hown
              exact hown
            have HB := hide (And.intro hb1 hg1')
            clear hown hb1 hg1'
            go_wp2
            go_roundw
            case rel => exact ⟨j + 1, v, by omega, by go_num, HB.out.1, HB.out.2, HOF.out⟩
            case measure => simp [intOf]; omega
      · have hcy : Num.covB y oh j = false := by simpa using hcy
        have hly : liesV y oh j = -1 := by unfold liesV; rw [hcy]; rfl
        go_wp2_with (go_at_call 58; refine (refLies_any _ _ _ _ (by omega) (by omega)).mono ?_; rintro e w' ⟨rfl, hw'⟩; rw [hw']; clear hw')
        go_loopw [17] (fun t wr => ∃ (i : Nat) (v : Value), i ≤ uw ∧ t = .int .i64 i ∧ Below (sb + 5) W6 wr ∧ wr.rowIs (sb + 1 + 1 + 1 + 1 + 1) 57 3 (gz uw uh v) ∧ wr.ownsRow (sb + 6) 5 1 v (ja + i) (byC (Num.layL uw ow oh U O x y way (ja + i)))) (fun t _ => uw - (intOf t).toNat)
        case atStart => exact ⟨0, vo, by omega, rfl, HOo.out.1, HOo.out.2.1, HOo.out.2.2⟩
        case round =>
          obtain ⟨i, v, hi, rfl, hb1, hg1', hown⟩ := hrel
          have hsz := hb1.size
          clear u0 u1 u2 o0 o1 o2
          obtain ⟨u0, u1, u2⟩ := gz_cells (row_below HGu.out hb1 (by omega))
          obtain ⟨o0, o1, o2⟩ := gz_cells (row_below HGo.out hb1 (by omega))
          by_cases hli : i < uw
          · have hdi : decide ((i : Int) < (uw : Int)) = true := by simp; omega
            have hin : ja + i < n := by omega
            have hBw : Below w.heap.size w wr := by rw [← HSb.out]; exact HB6.out.trans (hb1.mono (by omega))
            obtain ⟨ub, uoff, rfl, cu, hub⟩ := cellBy (HU.out.below hBw) hin
            have hUb := HbU.out _ hin
            have cu' : wr.cell? ⟨ub, uoff + ((ja : Int) + (i : Int)).toNat, none⟩ = some (.int .u8 (U (ja + i))) := by rw [show ((ja : Int) + (i : Int)).toNat = ja + i by omega]; exact cu
            have g0 : (0 : Int) ≤ (ja : Int) + (i : Int) := by omega
            have g1 : (ja : Int) + (i : Int) < (n : Int) := by omega
            have hmod : (ja + i) % uw = i := by rw [HJA.out, Nat.mul_comm j uw, Nat.mul_add_mod, Nat.mod_eq_of_lt hli]
            have hdiv : (ja + i) / uw = j := by rw [HJA.out, Nat.mul_comm j uw, Nat.mul_add_div (by omega), Nat.div_eq_of_lt hli, Nat.add_zero]
            have HSu := hide (Num.layL_succ uw ow oh U O x y way (ja + i))
            rw [hmod, hdiv] at HSu
            have HJi : Hid (j * uw + i = ja + i) := by unfold Hid; rw [HJA.out]
            obtain ⟨L, hL⟩ : ∃ L, L = byC (Num.layL uw ow oh U O x y way (ja + i)) := ⟨_, rfl⟩
            rw [← hL] at hown
            obtain ⟨z, hz⟩ : ∃ z, z = Num.layV uw ow oh U O x y way i j := ⟨_, rfl⟩
            have HLs : Hid (byC (Num.layL uw ow oh U O x y way (ja + i + 1)) = L ++ [.int .u8 z]) := by unfold Hid; rw [HSu.out, byC_snoc, hL, hz]
            have hzv : Hid (z = if Num.covB x ow i = true ∧ Num.covB y oh j = true then Num.mixV (U (ja + i)) (O (((j : Int) - y).toNat * ow + ((i : Int) - x).toNat)) way else U (ja + i)) := by unfold Hid; rw [hz]; unfold Num.layV; rw [HJi.out]
            have HOw := hide hown
            have HBw := hide hb1
            have HGw := hide hg1'
            have k2 := (gz_cells hg1').2.2
            have f2 := hg1'.frozen 2
            have hgl := hg1'.lt
            have HBww := hide hBw
            have hi64 : i < 64 := by omega
            clear hmod hdiv hL HSu hown hb1 hz hg1' hBw
            have hzU : Hid (z = U (ja + i)) := by unfold Hid; rw [hzv.out, if_neg (fun e => by rw [e.2] at hcy; cases hcy)]
            clear hzv
            go_wp2_with (first | (go_at_call 58; refine (refLies_any _ _ _ _ (by omega) (by omega)).mono ?_; rintro e w' ⟨rfl, hw'⟩; rw [hw']; clear hw') | (at_builtin; refine wpList_append_lies _ rfl _ _ 55 rfl (sb + 6) 5 i0 (.int .u8 0) 1 1 Try.underlying55 hi0 hz0 hz1 hz2 rfl (by omega) v (ja + i) L rfl (HOw.out.alloc _) ⟨wr.heap.size, 0, none⟩ 1 1 [.int .u8 (U (ja + i))] rfl rfl ?a1 ?a2 (by omega) ?a3 ?a4 ?a5 (wr.heap.size + 1) (by simp) ?_))
            try (case a1 => exact news_sp wr [.int .u8 (U (ja + i))] _ _ rfl)
            case a2 => first | rfl | (intro u hu; simp at hu; subst hu; rfl)
            case a3 => unfold maxLen; omega
            case a4 => omega
            case a5 => first | omega | (simp; omega)
            intro g cap w4 hown4 hgrow hat hlt4
            have hnb : ∀ q, v.ownBlock = some q → sb + 6 ≤ q := fun q hq => (HOw.out.lt q hq).1
            have hb4 : Below (sb + 5) W6 w4 := (HBw.out.alloc (by omega) _).grown hgrow (by simp; omega) (fun q hq => by have := hnb q hq; omega)
            have hg4 := HGw.out.of_block (show w4.heap[sb + 1 + 1 + 1 + 1 + 1]? = wr.heap[sb + 1 + 1 + 1 + 1 + 1]? by rw [hgrow.block _ (by rw [nblk_alloc]; have := HGw.out.lt; omega) (fun e => by have := hnb _ e.symm; omega), blk_alloc_lt _ _ _ HGw.out.lt])
            have hgge : sb + 6 ≤ g := by
              rcases hat with h | h
              · exact hnb g h
              · omega
            have HG4 := hide (gz_pix hg4 (.slice (some ⟨g, 0, none⟩) (ja + i + 1) cap))
            have HO4 : Hid ((w4.setCell ⟨sb + 1 + 1 + 1 + 1 + 1, 2, none⟩ (.slice (some ⟨g, 0, none⟩) (ja + i + 1) cap)).ownsRow (sb + 6) 5 1 (.slice (some ⟨g, 0, none⟩) (ja + i + 1) cap) (ja + (i + 1)) (byC (Num.layL uw ow oh U O x y way (ja + (i + 1))))) := by
              unfold Hid
              rw [← Nat.add_assoc, HLs.out]
              try rw [hzU.out]
              exact owns_of_block hown4 (fun q hq => set_other (by simp [Value.ownBlock] at hq; omega))
            have HB4 : Hid (Below (sb + 5) W6 (w4.setCell ⟨sb + 1 + 1 + 1 + 1 + 1, 2, none⟩ (.slice (some ⟨g, 0, none⟩) (ja + i + 1) cap))) := hb4.setCell (p := ⟨sb + 1 + 1 + 1 + 1 + 1, 2, none⟩) (by show sb + 5 ≤ sb + 1 + 1 + 1 + 1 + 1; omega) _
            have k4 := (gz_cells hg4).2.2
            have f4 := hg4.frozen 2
            have hgl4 := hg4.lt
            clear hown4 hgrow hat hnb hb4 hg4 k2 f2
            go_wp2
            go_roundw
            case rel => exact ⟨i + 1, _, by omega, by go_num, HB4.out, HG4.out, HO4.out⟩
            case measure => simp [intOf]; omega
          · have e : i = uw := by omega
            have hdi : decide ((i : Int) < (uw : Int)) = false := by simp; omega
            have HOF : Hid (wr.ownsRow (sb + 6) 5 1 v ((j + 1) * uw) (byC (Num.layL uw ow oh U O x y way ((j + 1) * uw)))) := by
              unfold Hid
              rw [e, HJA.out, ← Nat.succ_mul] at hown
              exact hown
            have HB := hide (And.intro hb1 hg1')
            clear hown hb1 hg1'
            go_wp2
            go_roundw
            case rel => exact ⟨j + 1, v, by omega, by go_num, HB.out.1, HB.out.2, HOF.out⟩
            case measure => simp [intOf]; omega
    · have e : j = uh := by omega
      have hd0 : decide ((j : Int) < (uh : Int)) = false := by simp; omega
      have HOF : Hid (wo.ownsRow (sb + 6) 5 1 vo n (byC (Num.layL uw ow oh U O x y way n))) := by
        unfold Hid
        rw [e, Nat.mul_comm uh uw, ← HN.out] at howno
        exact howno
      have hZ2 := row_below HGz.out hbo (by omega)
      obtain ⟨z0, z1, z2⟩ := gz_cells hZ2
      obtain ⟨y0, y1, y2⟩ := gz_cells hgo
      have f0 := hZ2.frozen 0
      have f1 := hZ2.frozen 1
      have f2 := hZ2.frozen 2
      have hsl := hZ2.lt
      obtain ⟨ao, cap0, hv, _⟩ := owns_formN HOF.out
      have HR := hide (gz_set hZ2 uw uh vo)
      have hB : Below sb w wo := HB6.out.trans (hbo.mono (by omega))
      have HB : Hid (Below sb w (((wo.setCell ⟨sb + 1 + 1, 0, none⟩ (.int .i64 uw)).setCell ⟨sb + 1 + 1, 1, none⟩ (.int .i64 uh)).setCell ⟨sb + 1 + 1, 2, none⟩ vo)) := ((hB.setCell (p := ⟨sb + 1 + 1, 0, none⟩) (by show sb ≤ sb + 1 + 1; omega) _).setCell (p := ⟨sb + 1 + 1, 1, none⟩) (by show sb ≤ sb + 1 + 1; omega) _).setCell (p := ⟨sb + 1 + 1, 2, none⟩) (by show sb ≤ sb + 1 + 1; omega) _
      have HOG : Hid ((((wo.setCell ⟨sb + 1 + 1, 0, none⟩ (.int .i64 uw)).setCell ⟨sb + 1 + 1, 1, none⟩ (.int .i64 uh)).setCell ⟨sb + 1 + 1, 2, none⟩ vo).ownsRow sb 5 1 vo n (byC (Num.layL uw ow oh U O x y way n))) := by
        refine owns_mono (owns_of_block HOF.out (fun q hq => ?_)) (by omega)
        have hq1 := (HOF.out.lt q hq).1
        have hne : q ≠ sb + 1 + 1 := by omega
        rw [set_other hne, set_other hne, set_other hne]
      subst hv
      clear howno hbo hZ2 hB HOF hgo
      go_wp2
      obtain ⟨wF, hwF⟩ : ∃ wF, wF = ((wo.setCell ⟨sb + 1 + 1, 0, none⟩ (.int .i64 uw)).setCell ⟨sb + 1 + 1, 1, none⟩ (.int .i64 uh)).setCell ⟨sb + 1 + 1, 2, none⟩ (.slice ao n cap0) := ⟨_, rfl⟩
      rw [← hwF]
      rw [← hwF] at HR HB HOG
      obtain ⟨g0, g1, g2⟩ := gz_cells HR.out
      exact bodyPost_ret (v := .tuple #[.agg #[.int .i64 uw, .int .i64 uh, .slice ao n cap0], .int .i64 0]) (by simp [results, Try.results38, go_sem, g0, g1, g2]) rfl ⟨_, rfl, by rw [← HSb.out]; exact HB.out, by rw [← HSb.out]; exact HOG.out⟩

theorem refLay_any (a a' : Option Addr) (n m c c' : Nat) (UW UH OW OH x y way : Int) (U O : Nat → Int) (w : World)
    (hU : ByAt w a n U) (hO : ByAt w a' m O) (bU : ∀ k, k < n → 0 ≤ U k ∧ U k ≤ 255) (bO : ∀ k, k < m → 0 ≤ O k ∧ O k ≤ 255) :
    Calls Try.prog 38 #[.agg #[.int .i64 UW, .int .i64 UH, .slice a n c], .agg #[.int .i64 OW, .int .i64 OH, .slice a' m c'], .int .i64 x, .int .i64 y, .int .i64 way] w fun e w' => ∃ rw rh v l, e = .returned (.tuple #[.agg #[.int .i64 rw, .int .i64 rh, v], .int .i64 (Num.layE UW UH n OW OH m way 8 9)]) ∧ Below w.heap.size w w' ∧ w'.ownsRow w.heap.size 5 1 v (List.length l) (byC l) ∧ (rw, rh, l) = layR UW UH n OW OH m U O x y way := by
  rcases layE_cases UW UH n OW OH m way with h | ⟨h, p1, p2, h3⟩
  · refine (refLay_no a a' n m c c' UW UH OW OH x y way w h).mono ?_
    rintro e w' ⟨rfl, hb⟩
    exact ⟨0, 0, .slice none 0 0, [], rfl, hb, World.ownsRow_nil _ _ _ _, by unfold layR; rw [if_neg h]⟩
  · obtain ⟨uw, uh, rfl, rfl, u1, u2, u3, u4, rfl⟩ := picB_yes p1
    obtain ⟨ow, oh, rfl, rfl, o1, o2, o3, o4, rfl⟩ := picB_yes p2
    refine (refLay_yes a a' uw uh ow oh c c' U O x y way w ⟨u1, u2, u3, u4⟩ ⟨o1, o2, o3, o4⟩ h3 hU hO bU bO).mono ?_
    rintro e w' ⟨v, rfl, hb, hown⟩
    refine ⟨uw, uh, v, Num.layL uw ow oh U O x y way (uw * uh), by rw [h], hb, by rw [Num.layL_len]; exact hown, ?_⟩
    unfold layR
    rw [if_pos h]
    simp
end Go.Proofs.Ytkhcjkmifddlbab
