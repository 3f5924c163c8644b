/- Joined: SumA. -/
import Derived.Test.YtkhcjkmifddlbabPart9
/- SumA -/
namespace Go.Proofs.Ytkhcjkmifddlbab
open Go.RowKit Go.Deep

set_option maxRecDepth 100000 in
set_option maxHeartbeats 8000000 in
theorem ksummed_any (ad : Option Addr) (N cc : Nat) (A : Nat → Option Addr) (C n : Nat → Nat) (X Y K : Nat → Nat → Int) (ad' : Option Addr) (N' cc' : Nat) (A' : Nat → Option Addr) (C' n' : Nat → Nat) (X' Y' K' : Nat → Nat → Int) (a b c d x y zw zh zi zj zs : Int) (w : World) (hN : (N : Int) ≤ 9223372036854775807) (ho : OutAt w ad N A C n X Y K) (hN' : (N' : Int) ≤ 9223372036854775807) (ho' : OutAt w ad' N' A' C' n' X' Y' K')
    (hX : ∀ j i, -9223372036854775808 ≤ X j i ∧ X j i ≤ 9223372036854775807) (hY : ∀ j i, -9223372036854775808 ≤ Y j i ∧ Y j i ≤ 9223372036854775807) (hK : ∀ j i, -9223372036854775808 ≤ K j i ∧ K j i ≤ 9223372036854775807)
    (hX' : ∀ j i, -9223372036854775808 ≤ X' j i ∧ X' j i ≤ 9223372036854775807) (hY' : ∀ j i, -9223372036854775808 ≤ Y' j i ∧ Y' j i ≤ 9223372036854775807) (hK' : ∀ j i, -9223372036854775808 ≤ K' j i ∧ K' j i ≤ 9223372036854775807)
    (hw : -9223372036854775808 ≤ zw ∧ zw ≤ 9223372036854775807) (hh : -9223372036854775808 ≤ zh ∧ zh ≤ 9223372036854775807) (hi : -9223372036854775808 ≤ zi ∧ zi ≤ 9223372036854775807) (hj : -9223372036854775808 ≤ zj ∧ zj ≤ 9223372036854775807) (hst : -9223372036854775808 ≤ zs ∧ zs ≤ 9223372036854775807) :
    Calls Try.prog 4 #[.slice ad N cc, .slice ad' N' cc', .agg #[.int .i64 a, .int .i64 b, .int .i64 c, .int .i64 d, .int .i64 x, .int .i64 y], .int .i64 zw, .int .i64 zh, .int .i64 zi, .int .i64 zj, .int .i64 zs] w fun e w' => e = .returned (.bool true) ∧ Below w.heap.size w w' := by
  obtain ⟨W, hW⟩ : ∃ W, W = windowN zw := ⟨_, rfl⟩
  obtain ⟨H, hH⟩ : ∃ H, H = windowN zh := ⟨_, rfl⟩
  have hW1 : 1 ≤ W ∧ W ≤ 64 := by rw [hW]; exact (windowN_rng zw).1
  have hH1 : 1 ≤ H ∧ H ≤ 64 := by rw [hH]; exact (windowN_rng zh).1
  have rI := pickV_rng zi (W : Int) (by omega)
  have rJ := pickV_rng zj (H : Int) (by omega)
  obtain ⟨I, hI⟩ : ∃ I : Nat, (I : Int) = pickV zi W := ⟨(pickV zi W).toNat, by omega⟩
  obtain ⟨J, hJ⟩ : ∃ J : Nat, (J : Int) = pickV zj H := ⟨(pickV zj H).toNat, by omega⟩
  have hIW : I < W := by omega
  have hJH : J < H := by omega
  have rS := pickV_rng zs 2 (by omega)
  obtain ⟨st, hstv⟩ : ∃ st, st = pickV zs 2 := ⟨_, rfl⟩
  have hst2 : st = 0 ∨ st = 1 := by omega
  obtain ⟨T, hT⟩ : ∃ T, T = tameL n X Y K N := ⟨_, rfl⟩
  have HE := hide (tame_trace n X Y K N a b c d x y)
  obtain ⟨U, hU⟩ : ∃ T, T = tameL n' X' Y' K' N' := ⟨_, rfl⟩
  have HEu := hide (tame_trace n' X' Y' K' N' a b c d x y)
  rw [← hU] at HEu
  have HFu := hide (trace_facts HEu.out)
  have HLenU : Hid (∀ j, j < U.length → ptLen U j ≤ 4294967296) := fun j hj => by rw [hU] at hj ⊢; have := (tameL_facts n' X' Y' K' N' hj).2.1; unfold ptLen; omega
  have hU4 : U.length ≤ 4 := by rw [hU]; exact tmO_len _ _ _ _ _ _
  obtain ⟨R', hR'⟩ : ∃ R, R = traceL (ptLen U) (ptXX U) (ptYY U) (ptKK U) (tameM a b c d x y) := ⟨_, rfl⟩
  have HRu := hide hR'
  rw [← hR'] at HFu
  clear hR'
  rw [← hT] at HE
  have HFa := hide (trace_facts HE.out)
  have HLen : Hid (∀ j, j < T.length → ptLen T j ≤ 4294967296) := fun j hj => by rw [hT] at hj ⊢; have := (tameL_facts n X Y K N hj).2.1; unfold ptLen; omega
  have hT4 : T.length ≤ 4 := by rw [hT]; exact tmO_len _ _ _ _ _ _
  obtain ⟨R, hR⟩ : ∃ R, R = traceL (ptLen T) (ptXX T) (ptYY T) (ptKK T) (tameM a b c d x y) := ⟨_, rfl⟩
  have HR := hide hR
  rw [← hR] at HFa
  obtain ⟨ma, hma⟩ : ∃ z, z = nearV a 2047 := ⟨_, rfl⟩
  obtain ⟨mb, hmb⟩ : ∃ z, z = nearV b 2047 := ⟨_, rfl⟩
  obtain ⟨mc, hmc⟩ : ∃ z, z = nearV c 2047 := ⟨_, rfl⟩
  obtain ⟨md, hmd⟩ : ∃ z, z = nearV d 2047 := ⟨_, rfl⟩
  obtain ⟨mx, hmx⟩ : ∃ z, z = nearV x 4095 := ⟨_, rfl⟩
  obtain ⟨my, hmy⟩ : ∃ z, z = nearV y 4095 := ⟨_, rfl⟩
  have hTM : tameM a b c d x y = ⟨ma, mb, mc, md, mx, my⟩ := by unfold tameM; rw [hma, hmb, hmc, hmd, hmx, hmy]
  have HMap := hide (fun w => ktameMap_any a b c d x y w)
  rw [← hma, ← hmb, ← hmc, ← hmd, ← hmx, ← hmy] at HMap
  rw [hTM] at HE HR HEu HRu
  have HTame := hide (fun w' (h : OutAt w' ad N A C n X Y K) => ktame_any (-2047) 4095 (-2047) 4095 ad N cc A C n X Y K w' openF_ok hN h hX hY hK)
  have HTT : Hid (tmO ⟨-2047, 4095, -2047, 4095⟩ n X Y K N = T) := hT.symm
  rw [HTT.out] at HTame
  have HTameU := hide (fun w' (h : OutAt w' ad' N' A' C' n' X' Y' K') => ktame_any (-2047) 4095 (-2047) 4095 ad' N' cc' A' C' n' X' Y' K' w' openF_ok hN' h hX' hY' hK')
  have HTU : Hid (tmO ⟨-2047, 4095, -2047, 4095⟩ n' X' Y' K' N' = U) := hU.symm
  rw [HTU.out] at HTameU
  have HWin := hide (fun w => window_any zw w hw.1 hw.2)
  have HWih := hide (fun w => window_any zh w hh.1 hh.2)
  rw [← hW] at HWin
  rw [← hH] at HWih
  have HPi := hide (fun w => pick_any zi (W : Int) w hi.1 hi.2 (by omega))
  have HPj := hide (fun w => pick_any zj (H : Int) w hj.1 hj.2 (by omega))
  have HPs := hide (fun w => pick_any zs 2 w hst.1 hst.2 (by omega))
  rw [← hI] at HPi
  rw [← hJ] at HPj
  rw [← hstv] at HPs
  have hI64 : I < 64 := by omega
  have hJ64 : J < 64 := by omega
  have HO := hide ho
  have HOu := hide ho'
  have HMr := hide (mp6_row a b c d x y w 24)
  have HB1 : Hid (Below w.heap.size w (w.alloc (.cells #[.int .i64 a, .int .i64 b, .int .i64 c, .int .i64 d, .int .i64 x, .int .i64 y] 24))) := (Below.refl _ _).alloc (Nat.le_refl _) _
  clear ho ho' hX' hY' hK' hU HTU hX hY hK hW hH hI hJ hstv hT hR hma hmb hmc hmd hmx hmy hTM rI rJ rS HTT hw hh hi hj hst
  go_enter Try.func4, Try.ntmps4
  go_wp2_with fail
  obtain ⟨W1, hW1e⟩ : ∃ W1, W1 = w.alloc (.cells #[.int .i64 a, .int .i64 b, .int .i64 c, .int .i64 d, .int .i64 x, .int .i64 y] 24) := ⟨_, rfl⟩
  rw [← hW1e] at HMr HB1 ⊢
  have hs1 : W1.heap.size = w.heap.size + 1 := by rw [hW1e]; simp
  clear hW1e
  refine (kopen_any W1).mono ?_
  rintro e w2 ⟨rfl, hb2⟩
  have hs2 := hb2.size
  obtain ⟨W2, hW2⟩ : ∃ W2, W2 = w2.alloc (.cells #[.int .i64 (-2047), .int .i64 4095, .int .i64 (-2047), .int .i64 4095] 26) := ⟨_, rfl⟩
  have hb22 : Below w2.heap.size w2 W2 := by rw [hW2]; exact (Below.refl _ _).alloc (Nat.le_refl _) _
  have hsW2 : W2.heap.size = w2.heap.size + 1 := by rw [hW2]; simp
  have hb12 : Below W1.heap.size W1 W2 := hb2.trans (hb22.mono hs2)
  have HM2 := hide (row_below HMr.out hb12 (by omega))
  have HB2 := hide (HB1.out.trans (hb12.mono (by omega)))
  have HW2 := hide hW2
  have HF2 : Hid (W2.rowIs w2.heap.size 26 4 (sh4 (-2047) 4095 (-2047) 4095)) := by unfold Hid; rw [hW2]; exact sh4_row _ _ _ _ _ _
  clear hb2 hb22 hb12 hW2
  go_wp2_with fail
  rw [← HW2.out]
  refine (HTame.out W2 (HO.out.below HB2.out)).mono ?_
  rintro e w3 ⟨v, V, rfl, hb3, hP3⟩
  obtain ⟨pad, pcc, PA, PC, rfl, hO3⟩ := hP3.out
  have hs3 := hb3.size
  have HM3a := hide (row_below HM2.out hb3 (by omega))
  have hF3 := row_below HF2.out hb3 (by omega)
  obtain ⟨f0, f1, f2, f3⟩ := sh4_cells hF3
  have hF3l := hF3.lt
  have hO3' : OutAt w3 pad T.length PA PC (ptLen T) (ptXX T) (ptYY T) (ptKK T) := hO3
  have HO3a := hide hO3'
  have HB3a := hide (HB2.out.trans (hb3.mono (by omega)))
  clear hb3 hP3 hO3 hO3' hF3 HTame HW2 HM2 HF2
  go_wp2_with fail
  refine (HTameU.out w3 (HOu.out.below HB3a.out)).mono ?_
  rintro e w3b ⟨v', V', rfl, hb3b, hP3b⟩
  obtain ⟨uad, ucc, UA, UC, rfl, hO3b⟩ := hP3b.out
  have hs3b := hb3b.size
  have hM3 := row_below HM3a.out hb3b HM3a.out.lt
  obtain ⟨d0, d1, d2, d3, d4, d5⟩ := mp6_cells hM3
  have hM3l := hM3.lt
  have hO3b' : OutAt w3b uad U.length UA UC (ptLen U) (ptXX U) (ptYY U) (ptKK U) := hO3b
  have HU3 := hide hO3b'
  have HO3 := hide (HO3a.out.below hb3b)
  have HB3 := hide (HB3a.out.trans (hb3b.mono (by have := HB3a.out.size; omega)))
  clear hb3b hP3b hO3b hO3b' hM3 HTameU HM3a HO3a HB3a f0 f1 f2 f3 hF3l
  obtain ⟨w3, rfl⟩ : ∃ w, w = w3b := ⟨_, rfl⟩
  go_wp2_with fail
  refine (HMap.out w3).mono ?_
  rintro e w4 ⟨rfl, hb4⟩
  have hs4 := hb4.size
  obtain ⟨W4, hW4⟩ : ∃ W4, W4 = w4.alloc (.cells #[.int .i64 ma, .int .i64 mb, .int .i64 mc, .int .i64 md, .int .i64 mx, .int .i64 my] 24) := ⟨_, rfl⟩
  have hb44 : Below w4.heap.size w4 W4 := by rw [hW4]; exact (Below.refl _ _).alloc (Nat.le_refl _) _
  have hb34 : Below w3.heap.size w3 W4 := hb4.trans (hb44.mono hs4)
  have hsW4 : W4.heap.size = w4.heap.size + 1 := by rw [hW4]; simp
  obtain ⟨mb4, hmb4⟩ : ∃ q, q = w4.heap.size := ⟨_, rfl⟩
  have HM4 : Hid (W4.rowIs mb4 24 6 (mp6 ma mb mc md mx my)) := by unfold Hid; rw [hW4, hmb4]; exact mp6_row ma mb mc md mx my w4 24
  have HO4 := hide (HO3.out.below hb34)
  have HU4 := hide (HU3.out.below hb34)
  have HB4 := hide (HB3.out.trans (hb34.mono (by omega)))
  have HW4 := hide (And.intro hW4 hmb4)
  have hm4l : mb4 < W4.heap.size := by omega
  have hm4g : w.heap.size ≤ mb4 := by have := HB3.out.size; omega
  clear d0 d1 d2 d3 d4 d5 hb4 hb44 hb34 hW4 hsW4 hmb4 hM3l HO3 HU3
  go_wp2_with fail
  rw [← HW4.out.1]
  try rw [← HW4.out.2]
  refine (HWin.out _).mono ?_
  rintro e w' ⟨rfl, hw'⟩
  rw [hw']
  clear hw'
  go_wp2_with fail
  refine (HWih.out _).mono ?_
  rintro e w' ⟨rfl, hw'⟩
  rw [hw']
  clear hw'
  go_wp2_with fail
  refine (HPi.out _).mono ?_
  rintro e w' ⟨rfl, hw'⟩
  rw [hw']
  clear hw'
  go_wp2_with fail
  refine (HPj.out _).mono ?_
  rintro e w' ⟨rfl, hw'⟩
  rw [hw']
  clear hw'
  go_wp2_with fail
  refine (HPs.out _).mono ?_
  rintro e w' ⟨rfl, hw'⟩
  rw [hw']
  clear hw' HWin HWih HPi HPj HPs HMap HW4
  obtain ⟨d0, d1, d2, d3, d4, d5⟩ := mp6_cells HM4.out
  have HLc := hide (laid_any W H st pad T.length pcc PA PC (ptLen T) (ptXX T) (ptYY T) (ptKK T) ma mb mc md mx my W4 hW1 hH1 hst2 (by omega) HLen.out HO4.out HE.out)
  rw [← HR.out] at HLc
  go_wp2_with fail
  refine HLc.out.mono ?_
  rintro e w5 ⟨bc, Sc, rfl, hb5, hC5, hS5⟩
  have hs5 := hb5.size
  have HM5 := hide (row_below HM4.out hb5 hm4l)
  have HO5 := hide (HO4.out.below hb5)
  have HU5 := hide (HU4.out.below hb5)
  have HB5 := hide (HB4.out.trans (hb5.mono (by have := HB4.out.size; omega)))
  have HC5 := hide hC5
  clear d0 d1 d2 d3 d4 d5 hb5 hC5 hS5 HLc HO4 HU4 HM4 hm4l
  obtain ⟨d0, d1, d2, d3, d4, d5⟩ := mp6_cells HM5.out
  have hm5l := HM5.out.lt
  have HLd := hide (laid_any W H st uad U.length ucc UA UC (ptLen U) (ptXX U) (ptYY U) (ptKK U) ma mb mc md mx my w5 hW1 hH1 hst2 (by omega) HLenU.out HU5.out HEu.out)
  rw [← HRu.out] at HLd
  go_wp2_with fail
  refine HLd.out.mono ?_
  rintro e w6 ⟨bd, Sd, rfl, hb6, hC6, hS6⟩
  have hs6 := hb6.size
  have HM6 := hide (row_below HM5.out hb6 hm5l)
  have HO6 := hide (HO5.out.below hb6)
  have HU6 := hide (HU5.out.below hb6)
  have HB6 := hide (HB5.out.trans (hb6.mono (by have := HB5.out.size; omega)))
  have HC6 := hide (HC5.out.below hb6)
  have HD6 := hide hC6
  clear d0 d1 d2 d3 d4 d5 hb6 hC6 hS6 HLd HO5 HU5 HM5 hm5l HC5
  obtain ⟨d0, d1, d2, d3, d4, d5⟩ := mp6_cells HM6.out
  have hm6l := HM6.out.lt
  have hst3 : 1 - st = 0 ∨ 1 - st = 1 := by omega
  have hstr : 0 ≤ st ∧ st ≤ 1 := by omega
  have HLb := hide (laid_any W H (1 - st) pad T.length pcc PA PC (ptLen T) (ptXX T) (ptYY T) (ptKK T) ma mb mc md mx my w6 hW1 hH1 hst3 (by omega) HLen.out HO6.out HE.out)
  rw [← HR.out] at HLb
  go_wp2_with fail
  refine HLb.out.mono ?_
  rintro e w7 ⟨bb, Sb, rfl, hb7, hC7, hS7⟩
  have hs7 := hb7.size
  have H67 := hide hb7
  have HSb := hide hS7
  have HX7 : Hid (Cnv w7 bb 85 W H 1 (fun i j => Num.areaV R T.length i j) (781440000000 * ((1 : Nat) : Int)) Sb (1 - st)) := hC7.mono (fun _ _ _ _ => rfl) (by omega)
  clear d0 d1 d2 d3 d4 d5 hb7 hC7 hS7 HLb
  have hM7 := row_below HM6.out H67.out hm6l
  obtain ⟨d0, d1, d2, d3, d4, d5⟩ := mp6_cells hM7
  have hm7l := hM7.lt
  have HAd := hide (glyphAdd_any bb W H 1 85 _ (1 - st) Sb uad U.length ucc UA UC (ptLen U) (ptXX U) (ptYY U) (ptKK U) ma mb mc md mx my w7 HX7.out hW1 hH1 (by omega) (by omega) HLenU.out (HU6.out.below H67.out))
  have hl1 : layE (traceE U.length (ptLen U) (ptXX U) (ptYY U) (ptKK U) ⟨ma, mb, mc, md, mx, my⟩) 1 = 0 := by rw [HEu.out]; rfl
  have hl2 : layE (traceE U.length (ptLen U) (ptXX U) (ptYY U) (ptKK U) ⟨ma, mb, mc, md, mx, my⟩) 2 = 0 := by rw [HEu.out]; rfl
  have HL2 := hide hl2
  rw [hl1, ← HRu.out] at HAd
  clear hl1 hl2 hM7
  go_wp2_with fail
  refine HAd.out.mono ?_
  rintro e w8 ⟨rfl, hT8, _, h8⟩
  obtain ⟨Sb8, hC8, hS8⟩ := h8 (by trivial)
  have hs8 := hT8.size
  have HX8 : Hid (Cnv w8 bb 85 W H 2 (fun i j => Num.areaV R T.length i j + Num.areaV R' U.length i j) (781440000000 * ((2 : Nat) : Int)) Sb8 (1 - st)) := hC8.mono (fun i j _ _ => by omega) (by omega)
  have HSb8 : Hid (∀ q, Sb8 q → w6.heap.size ≤ q) := fun q hq => by
    rcases hS8 q hq with h | h
    · exact HSb.out q h
    · omega
  have H68 := hide (H67.out.trans (hT8.below (B := w6.heap.size) hs7 (fun q hq => HSb.out q hq)))
  clear d0 d1 d2 d3 d4 d5 hT8 h8 hC8 hS8 HAd HX7 hm7l
  have hAe : areaE W H I J = 0 := by unfold areaE; rw [if_pos (by omega)]
  have hAn : ∀ L : Nat → List (Int × Int), ∀ M : Nat, areaN W H (fun i j => Num.areaV L M i j) I J = Num.areaV L M I J := fun L M => by unfold areaN; rw [if_pos (by omega)]; simp
  have HAc := hide (glyphArea_any bc W H 1 _ _ _ _ I J _ w8 (HC6.out.below H68.out) hW1 hH1 (by omega))
  have HAb := hide (fun w' (h : Below w6.heap.size w6 w') => glyphArea_any bd W H 1 _ _ _ _ I J _ w' (HD6.out.below h) hW1 hH1 (by omega))
  rw [hAe, hAn] at HAc HAb
  have HbR : Hid (∀ i j : Int, -1500000000 ≤ Num.areaV R T.length i j ∧ Num.areaV R T.length i j ≤ 1500000000) := fun i j => by
    have h3 := Num.areaV_bd (L := R) (N := T.length) (M := 44400) i j (fun q hq => (HFa.out.2 q hq).1)
    omega
  have HbU : Hid (∀ i j : Int, -1500000000 ≤ Num.areaV R' U.length i j ∧ Num.areaV R' U.length i j ≤ 1500000000) := fun i j => by
    have h3 := Num.areaV_bd (L := R') (N := U.length) (M := 44400) i j (fun q hq => (HFu.out.2 q hq).1)
    omega
  have hu := HbR.out I J
  have hv := HbU.out I J
  have HHo1 := hide (fun w' (h : Below w8.heap.size w8 w') => holds_any bb W H 2 I J _ _ _ _ _ w' (HX8.out.below h) hW1 hH1 (by omega) hIW hJH (fun i j _ _ => by have := HbR.out i j; have := HbU.out i j; omega))
  obtain ⟨u, hue⟩ : ∃ u, u = Num.areaV R T.length I J := ⟨_, rfl⟩
  obtain ⟨v, hve⟩ : ∃ u, u = Num.areaV R' U.length I J := ⟨_, rfl⟩
  rw [← hue] at HAc HHo1 hu
  rw [← hve] at HAb HHo1 hv
  have HUe := hide (And.intro hue hve)
  clear hue hve hAe hAn
  go_wp2_with fail
  refine HAc.out.mono ?_
  rintro e w9 ⟨rfl, hb9⟩
  have hs9 := hb9.size
  have H69 := hide (H68.out.trans (hb9.mono (by have := H68.out.size; omega)))
  have H89 := hide hb9
  clear hb9 HAc
  go_wp2_with fail
  refine (HAb.out w9 H69.out).mono ?_
  rintro e w10 ⟨rfl, hb10⟩
  have hs10 := hb10.size
  have H60 := hide (H69.out.trans (hb10.mono (by have := H69.out.size; omega)))
  have H80 := hide (H89.out.trans (hb10.mono hs9))
  clear hb10 HAb H69 H89
  go_wp2_with fail
  refine (HHo1.out w10 H80.out).mono ?_
  rintro e w11 ⟨rfl, hb11⟩
  have hs11 := hb11.size
  have H61 := hide (H60.out.trans (hb11.mono (by have := H60.out.size; omega)))
  have HX11 := hide (HX8.out.below (H80.out.trans (hb11.mono (by have := H80.out.size; omega))))
  clear hb11 HHo1 H60 H80 HX8
  have hM11 := row_below HM6.out H61.out hm6l
  obtain ⟨d0, d1, d2, d3, d4, d5⟩ := mp6_cells hM11
  have hm11l := hM11.lt
  have HTk := hide (glyphTake_any bb W H 2 85 _ (1 - st) Sb8 uad U.length ucc UA UC (ptLen U) (ptXX U) (ptYY U) (ptKK U) ma mb mc md mx my w11 HX11.out hW1 hH1 (by omega) (by omega) HLenU.out (HU6.out.below H61.out))
  rw [HL2.out, ← HRu.out] at HTk
  clear hM11
  go_wp2_with fail
  refine HTk.out.mono ?_
  rintro e w12 ⟨rfl, hT12, _, h12⟩
  obtain ⟨Sb12, hC12, hS12⟩ := h12 (by trivial)
  have hs12 := hT12.size
  have HX12 : Hid (Cnv w12 bb 85 W H 3 (fun i j => Num.areaV R T.length i j) (781440000000 * ((3 : Nat) : Int)) Sb12 (1 - st)) := hC12.mono (fun i j _ _ => by omega) (by omega)
  have HSb12 : Hid (∀ q, Sb12 q → w6.heap.size ≤ q) := fun q hq => by
    rcases hS12 q hq with h | h
    · exact HSb8.out q h
    · have := H61.out.size; omega
  have H62 := hide (H61.out.trans (hT12.below (B := w6.heap.size) H61.out.size (fun q hq => HSb8.out q hq)))
  clear d0 d1 d2 d3 d4 d5 hT12 h12 hC12 hS12 HTk HX11 hm11l HSb8
  have HHo2 := hide (holds_any bb W H 3 I J _ _ _ _ _ w12 HX12.out hW1 hH1 (by omega) hIW hJH (fun i j _ _ => by have := HbR.out i j; omega))
  rw [← HUe.out.1] at HHo2
  go_wp2_with fail
  refine HHo2.out.mono ?_
  rintro e w13 ⟨rfl, hb13⟩
  have hs13 := hb13.size
  have HX13 := hide (HX12.out.below hb13)
  have H63 := hide (H62.out.trans (hb13.mono (by have := H62.out.size; omega)))
  clear hb13 HHo2 HX12
  obtain ⟨F, hF⟩ : ∃ F : Nat → Int, F = fun q => if q < 2 then 0 else 64 := ⟨_, rfl⟩
  have HCo := hide (contour_any F w13)
  have f0 : F 0 = 0 := by rw [hF]; rfl
  have f1 : F 1 = 0 := by rw [hF]; rfl
  have f2 : F 2 = 64 := by rw [hF]; rfl
  have f3 : F 3 = 64 := by rw [hF]; rfl
  rw [f0, f1, f2, f3] at HCo
  have HF := hide (And.intro f0 (And.intro f1 (And.intro f2 f3)))
  have HFk : Hid (FOk F) := fun q => by rw [hF]; simp only; split <;> omega
  clear hF f0 f1 f2 f3
  go_wp2_with fail
  refine HCo.out.mono ?_
  rintro e w14 ⟨g, rfl, hb14, hg14, hrow⟩
  have hs14 := hb14.size
  obtain ⟨W14, hW14⟩ : ∃ W14, W14 = w14.alloc (.cells #[.slice (some ⟨g, 0, none⟩) 4 4] 41) := ⟨_, rfl⟩
  have hbW14 : Below w14.heap.size w14 W14 := by rw [hW14]; exact (Below.refl _ _).alloc (Nat.le_refl _) _
  have hsW14 : W14.heap.size = w14.heap.size + 1 := by rw [hW14]; simp
  have hrow2 := row_below hrow hbW14 hrow.lt
  have hcb : W14.cell? ⟨w14.heap.size, 0, none⟩ = some (.slice (some ⟨g, 0, none⟩) 4 4) := by rw [hW14]; simp
  obtain ⟨ob, hob⟩ : ∃ ob, ob = w14.heap.size := ⟨_, rfl⟩
  rw [← hob] at hcb
  have HOb : Hid (OutAt W14 (some ⟨ob, 0, none⟩) 1 (fun _ => some ⟨g, 0, none⟩) (fun _ => 4) (fun _ => 4) (fun _ => bxX F) (fun _ => bxY F) (fun _ _ => 0)) := by
    refine ⟨.inr ⟨ob, 0, rfl, fun i hi => ?_⟩, fun i hi => .inr ⟨g, 0, rfl, fun q hq => ?_⟩⟩
    · have : i = 0 := by omega
      subst this
      exact hcb
    · have := row_cells (m := 4) hrow2 q hq
      rw [Nat.zero_add]
      exact this
  have hb13W := hb14.trans (hbW14.mono hs14)
  have H64 := hide (H63.out.trans (hb13W.mono (by have := H63.out.size; omega)))
  have HX14 := hide (HX13.out.below hb13W)
  have HW14 := hide (And.intro hW14 hob)
  clear hb14 hrow hbW14 hrow2 hcb hb13W hW14 hob HCo HX13 hg14
  go_wp2_with fail
  rw [← HW14.out.1]
  try rw [← HW14.out.2]
  refine (plain_any (64 * (I : Int)) (64 * (J : Int)) W14).mono ?_
  rintro e w15 ⟨rfl, hb15⟩
  have hs15 := hb15.size
  have H65 := hide (H64.out.trans (hb15.mono (by have := H64.out.size; omega)))
  have HX15 := hide (HX14.out.below hb15)
  have HOb15 := hide (HOb.out.below hb15)
  clear hb15 HX14 HOb HW14
  have HEb := hide (box_trace (N := 1) (F := fun _ => F) (x := 64 * (I : Int)) (y := 64 * (J : Int)) (by omega) (fun _ => HFk.out) (by omega) (by omega))
  have HAb1 := hide (fun i j => box_area (F := fun _ => F) (x := 64 * (I : Int)) (y := 64 * (J : Int)) 1 i j (fun _ => HFk.out) (by omega) (by omega))
  have HAd2 := hide (glyphAdd_any bb W H 3 85 _ (1 - st) Sb12 (some ⟨ob, 0, none⟩) 1 1 (fun _ => some ⟨g, 0, none⟩) (fun _ => 4) (fun _ => 4) (fun _ => bxX F) (fun _ => bxY F) (fun _ _ => 0) 1024 0 0 1024 (64 * (I : Int)) (64 * (J : Int)) w15 HX15.out hW1 hH1 (by omega) (by omega) (fun _ _ => by omega) HOb15.out)
  have hl3 : layE (traceE 1 (fun _ => 4) (fun _ => bxX F) (fun _ => bxY F) (fun _ _ => 0) ⟨1024, 0, 0, 1024, 64 * (I : Int), 64 * (J : Int)⟩) 3 = 0 := by
    have := HEb.out
    unfold plainM at this
    rw [this]; rfl
  rw [hl3] at HAd2
  clear hl3
  go_wp2_with fail
  refine HAd2.out.mono ?_
  rintro e w16 ⟨rfl, hT16, _, h16⟩
  obtain ⟨Sb16, hC16, hS16⟩ := h16 (by trivial)
  have hs16 := hT16.size
  have HX16 : Hid (Cnv w16 bb 85 W H 4 (fun i j => Num.areaV R T.length i j + wantV (fun _ => F) (64 * (I : Int)) (64 * (J : Int)) i j 1) (781440000000 * ((4 : Nat) : Int)) Sb16 (1 - st)) := hC16.mono (fun i j _ _ => by
    have := HAb1.out i j
    unfold plainM at this
    rw [this]; omega) (by omega)
  have HSb16 : Hid (∀ q, Sb16 q → w6.heap.size ≤ q) := fun q hq => by
    rcases hS16 q hq with h | h
    · exact HSb12.out q h
    · have := H65.out.size; omega
  have H66 := hide (H65.out.trans (hT16.below (B := w6.heap.size) H65.out.size (fun q hq => HSb12.out q hq)))
  clear hT16 h16 hC16 hS16 HAd2 HX15 HSb12 HOb15
  have HHo3 := hide (holds_any bb W H 4 I J _ _ _ _ _ w16 HX16.out hW1 hH1 (by omega) hIW hJH (fun i j _ _ => by have := HbR.out i j; have := want_bd (fun _ => F) (64 * (I : Int)) (64 * (J : Int)) i j 1; omega))
  have hwv : wantV (fun _ => F) (64 * (I : Int)) (64 * (J : Int)) I J 1 = -8192 := by
    obtain ⟨f0, f1, f2, f3⟩ := HF.out
    have e1 : spanV I (0 + 64 * (I : Int)) (64 + 64 * (I : Int)) = 64 := by
      unfold spanV Num.clp
      repeat' split
      all_goals omega
    have e2 : spanV J (0 + 64 * (J : Int)) (64 + 64 * (J : Int)) = 64 := by
      unfold spanV Num.clp
      repeat' split
      all_goals omega
    unfold wantV
    simp only [Num.sumZ]
    rw [f0, f1, f2, f3, e1, e2]
    omega
  rw [hwv, ← HUe.out.1, show u + -8192 = u - 8192 by omega] at HHo3
  clear hwv
  go_wp2_with fail
  refine HHo3.out.mono ?_
  rintro e w17 ⟨rfl, hb17⟩
  have hs17 := hb17.size
  have HX17 := hide (HX16.out.below hb17)
  have H6x := hide (H66.out.trans (hb17.mono (by have := H66.out.size; omega)))
  clear hb17 HHo3 HX16
  go_wp2_with fail
  refine (glyphTaken_any bb W H 4 _ _ _ _ _ w17 HX17.out).mono ?_
  rintro e w' ⟨rfl, hw'⟩
  rw [hw']
  clear hw'
  go_wp2_with fail
  refine (glyphClear_any bb W H 4 _ _ _ _ _ w17 HX17.out hW1 hH1).mono ?_
  rintro e w18 ⟨rfl, hT18, Sb18, hC18, hS18⟩
  have hs18 := hT18.size
  have H6y := hide (H6x.out.trans (hT18.below (B := w6.heap.size) H6x.out.size (fun q hq => HSb16.out q hq)))
  have HX18 := hide hC18
  clear hT18 hC18 hS18 HX17
  have HHo4 := hide (holds_any bb W H 0 I J _ _ _ _ _ w18 HX18.out hW1 hH1 (by omega) hIW hJH (fun i j _ _ => by omega))
  go_wp2_with fail
  refine HHo4.out.mono ?_
  rintro e w19 ⟨rfl, hb19⟩
  have HX19 := hide (HX18.out.below hb19)
  have H6z := hide (H6y.out.trans (hb19.mono (by have := H6y.out.size; omega)))
  clear hb19 HHo4 HX18
  go_wp2_with fail
  refine (glyphTaken_any bb W H 0 _ _ _ _ _ w19 HX19.out).mono ?_
  rintro e w' ⟨rfl, hw'⟩
  rw [hw']
  clear hw'
  go_wp2
  go_ret
  exact ⟨rfl, HB6.out.trans (H6z.out.mono (by have := HB6.out.size; omega))⟩
end Go.Proofs.Ytkhcjkmifddlbab
