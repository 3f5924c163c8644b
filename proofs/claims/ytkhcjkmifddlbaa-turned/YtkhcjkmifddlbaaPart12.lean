/- Joined: FlC, TrnY, TrnA, CvY, TrnB, TrnC. -/
import Derived.Test.YtkhcjkmifddlbaaPart11
import Derived.Test.YtkhcjkmifddlbaaPart3
import Derived.Test.YtkhcjkmifddlbaaPart10
import Derived.BigRegion
/- FlC -/
namespace Go.Proofs.Ytkhcjkmifddlbaa
open Go.RowKit Go.Deep

/-- The tame outline of an argument, and its trace. -/
def tameL (n : Nat → Nat) (X Y K : Nat → Nat → Int) (N : Nat) : List (List (Int × Int × Int)) := tmO openF n X Y K N
def tameM (a b c d x y : Int) : Num.Mp := ⟨nearV a 2047, nearV b 2047, nearV c 2047, nearV d 2047, nearV x 4095, nearV y 4095⟩
def ptLen (T : List (List (Int × Int × Int))) (j : Nat) : Nat := (nth T j).length
def ptXX (T : List (List (Int × Int × Int))) (j : Nat) : Nat → Int := ptX (nth T j)
def ptYY (T : List (List (Int × Int × Int))) (j : Nat) : Nat → Int := ptY (nth T j)
def ptKK (T : List (List (Int × Int × Int))) (j : Nat) : Nat → Int := kd (nth T j)
theorem nth_mem {T : List (List (Int × Int × Int))} {j : Nat} (h : j < T.length) : nth T j ∈ T := by unfold nth; simp [h]
theorem openF_ok : openF.Ok := by unfold Fd.Ok openF; simp
/-- What a tame outline is like. -/
theorem tameL_facts (n : Nat → Nat) (X Y K : Nat → Nat → Int) (N : Nat) {j : Nat} (hj : j < (tameL n X Y K N).length) : 2 ≤ (nth (tameL n X Y K N) j).length ∧ (nth (tameL n X Y K N) j).length ≤ 48 ∧ KOk (nth (tameL n X Y K N) j) ∧ PtIn (-2047) 2047 (-2047) 2047 (nth (tameL n X Y K N) j) := by
  obtain ⟨c, hc, e⟩ := tmO_mem openF n X Y K N _ (nth_mem hj)
  have h := tmR_facts openF (by simp [openF]) (by simp [openF]) (X c) (Y c) (K c) hc
  rw [← e] at h
  exact h
theorem tame_trace (n : Nat → Nat) (X Y K : Nat → Nat → Int) (N : Nat) (a b c d x y : Int) : traceE (tameL n X Y K N).length (ptLen (tameL n X Y K N)) (ptXX (tameL n X Y K N)) (ptYY (tameL n X Y K N)) (ptKK (tameL n X Y K N)) (tameM a b c d x y) = 0 := by
  have hx := nearV_rng x 4095 (by omega)
  have hy := nearV_rng y 4095 (by omega)
  obtain ⟨hf, hm⟩ := tame_map (x := nearV x 4095) (y := nearV y 4095) (nearV_rng a 2047 (by omega)) (nearV_rng b 2047 (by omega)) (nearV_rng c 2047 (by omega)) (nearV_rng d 2047 (by omega)) (by omega) (by omega)
  exact tame_ok (B := 2047) (tmO_len _ _ _ _ _ _) (fun j hj => tameL_facts n X Y K N hj) (by omega) hf hm
theorem tame_pos (n : Nat → Nat) (X Y K : Nat → Nat → Int) (N : Nat) (a b c d x y : Int) {j : Nat} (hj : j < (tameL n X Y K N).length) : 0 < (traceL (ptLen (tameL n X Y K N)) (ptXX (tameL n X Y K N)) (ptYY (tameL n X Y K N)) (ptKK (tameL n X Y K N)) (tameM a b c d x y) j).length :=
  trace_pos (tame_trace n X Y K N a b c d x y) (fun _ hj => ⟨(tameL_facts n X Y K N hj).1, kok_bad (tameL_facts n X Y K N hj).2.2.1⟩) hj
theorem outF_one (F : Int → Int → Int → Int → Int) (R : Nat → List (Int × Int)) (r : Nat) : Num.outF F R (r + 1) = Num.outF F R r + Num.ringF F (R r) := rfl
theorem crossF_bd (l : List (Int × Int)) (i j : Int) (k : Nat) : -(k : Int) ≤ Num.sumZ (Num.chF (Num.chX i j) l) k ∧ Num.sumZ (Num.chF (Num.chX i j) l) k ≤ (k : Int) := by
  have h := Num.sumZ_bd (f := Num.chF (Num.chX i j) l) (B := 1) k (fun q _ => Num.cross_bd _ _ _ _ _ _)
  omega
theorem crossO_bd (R : Nat → List (Int × Int)) (i j : Int) {m : Nat} (h : ∀ q, q < m → (R q).length ≤ 44400) (r : Nat) (hr : r ≤ m) : -(44400 * (r : Int)) ≤ Num.outF (Num.chX i j) R r ∧ Num.outF (Num.chX i j) R r ≤ 44400 * (r : Int) :=
  Num.sumZ_bd (f := fun q => Num.ringF (Num.chX i j) (R q)) (B := 44400) r (fun q hq => by
    have h1 := crossF_bd (R q) i j (R q).length
    have h2 := h q (by omega)
    unfold Num.ringF
    omega)
theorem inS_of {R : List (Int × Int)} (h : ∀ p ∈ R, Num.inB p.1 p.2 = true) {k : Nat} (hk : k < R.length) : InS R[k].1 R[k].2 := Num.inB_yes (h _ (List.getElem_mem hk))

set_option maxRecDepth 100000 in
set_option maxHeartbeats 8000000 in
theorem kflat_any (ad : Option Addr) (N cc : Nat) (A : Nat → Option Addr) (C n : Nat → Nat) (X Y K : Nat → Nat → Int) (a b c d x y zw zh zi zj zs : Int) (w : World) (hN : (N : Int) ≤ 9223372036854775807) (ho : OutAt w ad N A C n X Y K)
    (hX : ∀ j i, -9223372036854775808 ≤ X j i ∧ X j i ≤ 9223372036854775807) (hY : ∀ j i, -9223372036854775808 ≤ Y j i ∧ Y j i ≤ 9223372036854775807) (hK : ∀ j i, -9223372036854775808 ≤ K j i ∧ K j i ≤ 9223372036854775807)
    (hw : -9223372036854775808 ≤ zw ∧ zw ≤ 9223372036854775807) (hh : -9223372036854775808 ≤ zh ∧ zh ≤ 9223372036854775807) (hi : -9223372036854775808 ≤ zi ∧ zi ≤ 9223372036854775807) (hj : -9223372036854775808 ≤ zj ∧ zj ≤ 9223372036854775807) (hst : -9223372036854775808 ≤ zs ∧ zs ≤ 9223372036854775807) :
    Calls Try.prog 10 #[.slice ad N cc, .agg #[.int .i64 a, .int .i64 b, .int .i64 c, .int .i64 d, .int .i64 x, .int .i64 y], .int .i64 zw, .int .i64 zh, .int .i64 zi, .int .i64 zj, .int .i64 zs] w fun e w' => e = .returned (.bool true) ∧ Below w.heap.size w w' := by
  obtain ⟨W, hW⟩ : ∃ W, W = windowN zw := ⟨_, rfl⟩
  obtain ⟨H, hH⟩ : ∃ H, H = windowN zh := ⟨_, rfl⟩
  have hW1 : 1 ≤ W ∧ W ≤ 64 := by rw [hW]; exact (windowN_rng zw).1
  have hH1 : 1 ≤ H ∧ H ≤ 64 := by rw [hH]; exact (windowN_rng zh).1
  have rI := pickV_rng zi (W : Int) (by omega)
  have rJ := pickV_rng zj (H : Int) (by omega)
  obtain ⟨I, hI⟩ : ∃ I : Nat, (I : Int) = pickV zi W := ⟨(pickV zi W).toNat, by omega⟩
  obtain ⟨J, hJ⟩ : ∃ J : Nat, (J : Int) = pickV zj H := ⟨(pickV zj H).toNat, by omega⟩
  have hIW : I < W := by omega
  have hJH : J < H := by omega
  have rS := pickV_rng zs 2 (by omega)
  obtain ⟨st, hstv⟩ : ∃ st, st = pickV zs 2 := ⟨_, rfl⟩
  have hst2 : st = 0 ∨ st = 1 := by omega
  obtain ⟨T, hT⟩ : ∃ T, T = tameL n X Y K N := ⟨_, rfl⟩
  have HE := hide (tame_trace n X Y K N a b c d x y)
  have HPos : Hid (∀ j, j < T.length → 0 < (traceL (ptLen T) (ptXX T) (ptYY T) (ptKK T) (tameM a b c d x y) j).length) := fun j hj => by rw [hT] at hj ⊢; exact tame_pos n X Y K N a b c d x y hj
  rw [← hT] at HE
  have HFa := hide (trace_facts HE.out)
  have HLen : Hid (∀ j, j < T.length → ptLen T j ≤ 4294967296) := fun j hj => by rw [hT] at hj ⊢; have := (tameL_facts n X Y K N hj).2.1; unfold ptLen; omega
  have hT4 : T.length ≤ 4 := by rw [hT]; exact tmO_len _ _ _ _ _ _
  obtain ⟨R, hR⟩ : ∃ R, R = traceL (ptLen T) (ptXX T) (ptYY T) (ptKK T) (tameM a b c d x y) := ⟨_, rfl⟩
  have HR := hide hR
  rw [← hR] at HPos HFa
  obtain ⟨ma, hma⟩ : ∃ z, z = nearV a 2047 := ⟨_, rfl⟩
  obtain ⟨mb, hmb⟩ : ∃ z, z = nearV b 2047 := ⟨_, rfl⟩
  obtain ⟨mc, hmc⟩ : ∃ z, z = nearV c 2047 := ⟨_, rfl⟩
  obtain ⟨md, hmd⟩ : ∃ z, z = nearV d 2047 := ⟨_, rfl⟩
  obtain ⟨mx, hmx⟩ : ∃ z, z = nearV x 4095 := ⟨_, rfl⟩
  obtain ⟨my, hmy⟩ : ∃ z, z = nearV y 4095 := ⟨_, rfl⟩
  have hTM : tameM a b c d x y = ⟨ma, mb, mc, md, mx, my⟩ := by unfold tameM; rw [hma, hmb, hmc, hmd, hmx, hmy]
  have HMap := hide (fun w => ktameMap_any a b c d x y w)
  rw [← hma, ← hmb, ← hmc, ← hmd, ← hmx, ← hmy] at HMap
  rw [hTM] at HE HR
  have HTame := hide (fun w' (h : OutAt w' ad N A C n X Y K) => ktame_any (-2047) 4095 (-2047) 4095 ad N cc A C n X Y K w' openF_ok hN h hX hY hK)
  have HTT : Hid (tmO ⟨-2047, 4095, -2047, 4095⟩ n X Y K N = T) := hT.symm
  rw [HTT.out] at HTame
  have HWin := hide (fun w => window_any zw w hw.1 hw.2)
  have HWih := hide (fun w => window_any zh w hh.1 hh.2)
  rw [← hW] at HWin
  rw [← hH] at HWih
  have HPi := hide (fun w => pick_any zi (W : Int) w hi.1 hi.2 (by omega))
  have HPj := hide (fun w => pick_any zj (H : Int) w hj.1 hj.2 (by omega))
  have HPs := hide (fun w => pick_any zs 2 w hst.1 hst.2 (by omega))
  rw [← hI] at HPi
  rw [← hJ] at HPj
  rw [← hstv] at HPs
  have hI64 : I < 64 := by omega
  have hJ64 : J < 64 := by omega
  have HO := hide ho
  have HMr := hide (mp6_row a b c d x y w 39)
  have HB1 : Hid (Below w.heap.size w (w.alloc (.cells #[.int .i64 a, .int .i64 b, .int .i64 c, .int .i64 d, .int .i64 x, .int .i64 y] 39))) := (Below.refl _ _).alloc (Nat.le_refl _) _
  clear ho hX hY hK hW hH hI hJ hstv hT hR hma hmb hmc hmd hmx hmy hTM rI rJ rS HTT hw hh hi hj hst
  go_enter Try.func10, Try.ntmps10
  go_wp2_with fail
  obtain ⟨W1, hW1e⟩ : ∃ W1, W1 = w.alloc (.cells #[.int .i64 a, .int .i64 b, .int .i64 c, .int .i64 d, .int .i64 x, .int .i64 y] 39) := ⟨_, rfl⟩
  rw [← hW1e] at HMr HB1 ⊢
  have hs1 : W1.heap.size = w.heap.size + 1 := by rw [hW1e]; simp
  clear hW1e
  refine (kopen_any W1).mono ?_
  rintro e w2 ⟨rfl, hb2⟩
  have hs2 := hb2.size
  obtain ⟨W2, hW2⟩ : ∃ W2, W2 = w2.alloc (.cells #[.int .i64 (-2047), .int .i64 4095, .int .i64 (-2047), .int .i64 4095] 72) := ⟨_, rfl⟩
  have hb22 : Below w2.heap.size w2 W2 := by rw [hW2]; exact (Below.refl _ _).alloc (Nat.le_refl _) _
  have hsW2 : W2.heap.size = w2.heap.size + 1 := by rw [hW2]; simp
  have hb12 : Below W1.heap.size W1 W2 := hb2.trans (hb22.mono hs2)
  have HM2 := hide (row_below HMr.out hb12 (by omega))
  have HB2 := hide (HB1.out.trans (hb12.mono (by omega)))
  have HW2 := hide hW2
  clear hb2 hb22 hb12 hW2
  go_wp2_with fail
  rw [← HW2.out]
  refine (HTame.out W2 (HO.out.below HB2.out)).mono ?_
  rintro e w3 ⟨v, V, rfl, hb3, hP3⟩
  obtain ⟨pad, pcc, PA, PC, rfl, hO3⟩ := hP3.out
  have hs3 := hb3.size
  have hM3 := row_below HM2.out hb3 (by omega)
  obtain ⟨d0, d1, d2, d3, d4, d5⟩ := mp6_cells hM3
  have hM3l := hM3.lt
  have hO3' : OutAt w3 pad T.length PA PC (ptLen T) (ptXX T) (ptYY T) (ptKK T) := hO3
  have HO3 := hide hO3'
  have HB3 := hide (HB2.out.trans (hb3.mono (by omega)))
  clear hb3 hP3 hO3 hO3' hM3 HTame HW2
  go_wp2_with fail
  refine (HMap.out w3).mono ?_
  rintro e w4 ⟨rfl, hb4⟩
  have hs4 := hb4.size
  obtain ⟨W4, hW4⟩ : ∃ W4, W4 = w4.alloc (.cells #[.int .i64 ma, .int .i64 mb, .int .i64 mc, .int .i64 md, .int .i64 mx, .int .i64 my] 39) := ⟨_, rfl⟩
  have hb44 : Below w4.heap.size w4 W4 := by rw [hW4]; exact (Below.refl _ _).alloc (Nat.le_refl _) _
  have hb34 : Below w3.heap.size w3 W4 := hb4.trans (hb44.mono hs4)
  have hsW4 : W4.heap.size = w4.heap.size + 1 := by rw [hW4]; simp
  obtain ⟨mb4, hmb4⟩ : ∃ q, q = w4.heap.size := ⟨_, rfl⟩
  have HM4 : Hid (W4.rowIs mb4 39 6 (mp6 ma mb mc md mx my)) := by unfold Hid; rw [hW4, hmb4]; exact mp6_row ma mb mc md mx my w4 39
  have HO4 := hide (HO3.out.below hb34)
  have HB4 := hide (HB3.out.trans (hb34.mono (by omega)))
  have HW4 := hide (And.intro hW4 hmb4)
  have hm4l : mb4 < W4.heap.size := by omega
  clear d0 d1 d2 d3 d4 d5 hb4 hb44 hb34 hW4 hsW4 hmb4 hM3l HO3 HM2
  go_wp2_with fail
  rw [← HW4.out.1]
  try rw [← HW4.out.2]
  refine (HWin.out _).mono ?_
  rintro e w' ⟨rfl, hw'⟩
  rw [hw']
  clear hw'
  go_wp2_with fail
  refine (HWih.out _).mono ?_
  rintro e w' ⟨rfl, hw'⟩
  rw [hw']
  clear hw'
  go_wp2_with fail
  refine (HPi.out _).mono ?_
  rintro e w' ⟨rfl, hw'⟩
  rw [hw']
  clear hw'
  go_wp2_with fail
  refine (HPj.out _).mono ?_
  rintro e w' ⟨rfl, hw'⟩
  rw [hw']
  clear hw' HWin HWih HPi HPj HMap HW4
  obtain ⟨d0, d1, d2, d3, d4, d5⟩ := mp6_cells HM4.out
  have HTrc := hide (ktraced_any pad T.length pcc PA PC (ptLen T) (ptXX T) (ptYY T) (ptKK T) ma mb mc md mx my W4 (by omega) HLen.out HO4.out HE.out (by rw [← HR.out]; exact HPos.out))
  rw [← HR.out] at HTrc
  go_wp2_with fail
  refine HTrc.out.mono ?_
  rintro e w5 ⟨vl, VL, rfl, hb5, hS5⟩
  obtain ⟨la, lcap, rfl, hla⟩ := owns_formN hS5.outer
  have hs5 := hb5.size
  have HS5 := hide hS5
  have HLa := hide hla
  have HO5 := hide (HO4.out.below hb5)
  have HB5 := hide (HB4.out.trans (hb5.mono (by have := HB4.out.size; omega)))
  have hM5 := row_below HM4.out hb5 hm4l
  clear d0 d1 d2 d3 d4 d5
  obtain ⟨d0, d1, d2, d3, d4, d5⟩ := mp6_cells hM5
  have hm5l := hM5.lt
  have HLd := hide (fun w' (hb : Below w5.heap.size w5 w') => laid_any W H st pad T.length pcc PA PC (ptLen T) (ptXX T) (ptYY T) (ptKK T) ma mb mc md mx my w' hW1 hH1 hst2 (by omega) HLen.out (HO5.out.below hb) HE.out)
  rw [← HR.out] at HLd
  clear hb5 hS5 hla hM5 HTrc HO4 HM4
  go_wp2_with fail
  go_region_with (first | (go_at_call 21; refine (HPs.out _).mono ?_; rintro e w' ⟨rfl, hw'⟩; rw [hw']; clear hw') | (go_at_call 28; refine (HLd.out _ (by first | exact Below.refl _ _ | exact (Below.refl _ _).drew)).mono ?_; rintro e w6 ⟨bk, S, rfl, hb6, hC6, hS6⟩))
  all_goals
    have hdr : w5.drew.heap.size = w5.heap.size := rfl
    have hs6 := hb6.size
    have hb56 : Below w5.heap.size w5 w6 := ((Below.refl _ _).drew).trans (hb6.mono (Nat.le_of_eq hdr.symm))
    have HS6 := hide (HS5.out.below hb56)
    have HC6 := hide hC6
    have HB6 := hide (HB5.out.trans (hb56.mono (by have := HB5.out.size; omega)))
    clear hb6 hC6 hS6 hb56 hdr HLd HO5 d0 d1 d2 d3 d4 d5
    go_wp2_with fail
    go_loopw [24, 25] (fun t24 t25 wr => ∃ r : Nat, r ≤ T.length ∧ t25 = .int .i64 r ∧ t24 = .int .i64 (Num.outF (Num.chX I J) R r) ∧ (∀ q, q < r → ∀ k, k < (R q).length → Num.chM I J (R q) k = false) ∧ Below w6.heap.size w6 wr) (fun _ t _ => T.length - (intOf t).toNat)
    case atStart => exact ⟨0, by omega, rfl, rfl, fun q hq => by omega, Below.refl _ _⟩
    case round =>
      obtain ⟨wo, rfl⟩ : ∃ wo, wo = wr := ⟨_, rfl⟩
      obtain ⟨r, hr, rfl, rfl, hno, hbo⟩ := hrel
      have hszo := hbo.size
      have HNo := hide hno
      have HBo := hide hbo
      clear hno hbo
      by_cases hlt : r < T.length
      · have hd1 : decide ((r : Int) < (T.length : Int)) = true := by simp; omega
        obtain ⟨g, rfl⟩ := HLa.out (by omega)
        obtain ⟨Z0, hZ0⟩ : ∃ Z, Z = Num.outF (Num.chX I J) R r := ⟨_, rfl⟩
        rw [← hZ0]
        have HZ0 := hide hZ0
        have HZ0b : Hid (-177600 ≤ Z0 ∧ Z0 ≤ 177600) := by
          unfold Hid
          have h1 := crossO_bd R I J (m := T.length) (fun q hq => (HFa.out.2 q hq).1) r hr
          rw [hZ0]; omega
        clear hZ0
        go_wp2_with fail
        go_loopw [24, 26] (fun t24 t26 wr => ∃ k : Nat, k ≤ (R r).length ∧ t26 = .int .i64 k ∧ t24 = .int .i64 (Z0 + Num.sumZ (Num.chF (Num.chX I J) (R r)) k) ∧ (∀ q, q < k → Num.chM I J (R r) q = false) ∧ Below w6.heap.size w6 wr) (fun _ t _ => (R r).length - (intOf t).toNat)
        case atStart => exact ⟨0, by omega, rfl, by simp [Num.sumZ], fun q hq => by omega, HBo.out⟩
        case round =>
          obtain ⟨k, hk, rfl, rfl, hnk, hbk⟩ := hrel
          have hszk := hbk.size
          have hSr := HS6.out.below hbk
          have hc := hSr.outer.cellAt r (by omega)
          rw [List.getElem?_map, List.getElem?_range hlt] at hc
          simp only [Option.map_some] at hc
          obtain ⟨ra, rc, hvr, hra⟩ := owns_formN (hSr.inner r hlt)
          rw [hvr] at hc
          have r0 : (0 : Int) ≤ (r : Int) := by omega
          have r1 : (r : Int) < (T.length : Int) := by omega
          obtain ⟨_, hRl⟩ := HFa.out
          obtain ⟨hRl1, hRin⟩ := hRl r hlt
          obtain ⟨len, hlen⟩ : ∃ len, len = (R r).length := ⟨_, rfl⟩
          by_cases hlk : k < (R r).length
          · obtain ⟨gr, rfl⟩ := hra (by omega)
            have hin := hSr.inner r hlt
            rw [hvr] at hin
            have hnx := Num.nxR_lt hlk
            have hmod := Num.nxR_mod hlk
            obtain ⟨nx, hnxe⟩ : ∃ nx, nx = Num.nxR (R r).length k := ⟨_, rfl⟩
            rw [← hnxe] at hnx hmod
            obtain ⟨c0, c1⟩ := owns_sp hin k hlk
            obtain ⟨e0, e1⟩ := owns_sp hin nx hnx
            have hP1 := inS_of hRin hlk
            have hQ1 := inS_of hRin hnx
            have HCh : Hid (Num.chM I J (R r) k = Num.meetsV (R r)[k].1 (R r)[k].2 (R r)[nx].1 (R r)[nx].2 I J) := by unfold Hid Num.chM; rw [← hnxe, Num.ats_at hlk, Num.ats_at hnx]
            have HCx : Hid (Num.chF (Num.chX I J) (R r) k = Num.crossV (R r)[k].1 (R r)[k].2 (R r)[nx].1 (R r)[nx].2 I J) := by unfold Hid Num.chF Num.chX; rw [← hnxe, Num.ats_at hlk, Num.ats_at hnx]
            obtain ⟨p, hp⟩ : ∃ p, p = (R r)[k] := ⟨_, rfl⟩
            obtain ⟨q, hq⟩ : ∃ q, q = (R r)[nx] := ⟨_, rfl⟩
            rw [← hp] at c0 c1 hP1 HCh HCx
            rw [← hq] at e0 e1 hQ1 HCh HCx
            obtain ⟨px, py⟩ := p
            obtain ⟨qx, qy⟩ := q
            simp only at c0 c1 e0 e1 hP1 hQ1 HCh HCx
            have hgl : gr < wr.heap.size := (hin.lt gr rfl).2
            have hgl2 : g < wr.heap.size := (hSr.outer.lt g rfl).2
            rw [← hlen] at hc hRl1 hlk hmod hnx hk
            have hk64 : len ≤ 44400 := hRl1
            have hdk : decide ((k : Int) < (len : Int)) = true := by simp; omega
            have j0 : (0 : Int) ≤ (k : Int) := by omega
            have j1 : (k : Int) < (len : Int) := by omega
            have j2 : (0 : Int) ≤ (nx : Int) := by omega
            have j3 : (nx : Int) < (len : Int) := by omega
            have hn0 : ¬ (len : Int) = 0 := by omega
            have hn1 : ¬ len = 0 := by omega
            have hn2 : ((len : Int) == 0) = false := by simp; omega
            have hw1 : IntKind.i64.wrap ((k : Int) + 1) = (k : Int) + 1 := wrap_ok _ (by omega) (by omega)
            have htm : ((k : Int) + 1).tmod (len : Int) = (nx : Int) := by rw [Int.tmod_eq_emod_of_nonneg (by omega), hmod]; push_cast; rfl
            have hw2 : IntKind.i64.wrap (nx : Int) = (nx : Int) := wrap_ok _ (by omega) (by omega)
            have HSt : Hid (Z0 + Num.sumZ (Num.chF (Num.chX I J) (R r)) (k + 1) = (Z0 + Num.sumZ (Num.chF (Num.chX I J) (R r)) k) + Num.crossV px py qx qy I J) := by unfold Hid; rw [← HCx.out]; simp only [Num.sumZ]; omega
            obtain ⟨Zk, hZk⟩ : ∃ Z, Z = Z0 + Num.sumZ (Num.chF (Num.chX I J) (R r)) k := ⟨_, rfl⟩
            have HZk : Hid (-1000000000 ≤ Zk ∧ Zk ≤ 1000000000) := by
              unfold Hid
              have h1 := crossF_bd (R r) I J k
              have h2 := HZ0b.out
              rw [hZk]; omega
            rw [← hZk] at HSt ⊢
            have HNk := hide hnk
            have HBk := hide hbk
            have HNx := hide (And.intro hnxe hmod)
            have HLn := hide hlen
            clear hSr hvr hra hRl hRin hin hnk hbk hp hq hZk hnxe hmod hlen
            go_wp2_with fail
            go_region
            obtain ⟨Wq, hWq⟩ : ∃ Wq, Wq = ((wr.alloc (.cells #[.int .i64 px, .int .i64 py] 41)).alloc (.cells #[.int .i64 qx, .int .i64 qy] 41)).drew := ⟨_, rfl⟩
            have hbq : Below wr.heap.size wr Wq := by rw [hWq]; (repeat (any_goals (first | exact Below.refl _ _ | assumption | refine Below.drew ?_ | refine below_drewN ?_ _ | refine Below.setCell ?_ ?_ _ | refine Below.alloc ?_ ?_ _ | omega | (simp; done) | (simp; omega))))
            have hsq : Wq.heap.size = wr.heap.size + 1 + 1 := by rw [hWq]; simp
            have hrp : Wq.rowIs wr.heap.size 41 2 (spt2 px py) := by
              rw [hWq]
              exact World.rowIs.of_block ((sp_row wr px py).alloc _) rfl
            have hrq : Wq.rowIs (wr.heap.size + 1) 41 2 (spt2 qx qy) := by
              have h := sp_row (wr.alloc (.cells #[.int .i64 px, .int .i64 py] 41)) qx qy
              rw [nblk_alloc] at h
              rw [hWq]
              exact World.rowIs.of_block h rfl
            rw [← hWq]
            obtain ⟨sp, hsp⟩ : ∃ sp, sp = wr.heap.size := ⟨_, rfl⟩
            rw [← hsp] at hrp hrq hsq
            try rw [← hsp]
            have HBq := hide (HBk.out.trans (hbq.mono hszk))
            have HRp := hide hrp
            have HRq := hide hrq
            obtain ⟨s0, s1⟩ := spt2_c hrp
            obtain ⟨t0, t1⟩ := spt2_c hrq
            have hx1 := hrp.lt
            have hx2 := hrq.lt
            have hsz6 : w6.heap.size ≤ sp := by omega
            clear hWq hbq hrp hrq hsp c0 c1 e0 e1 hc
            go_wp2_with fail
            refine (kmeets_any px py qx qy I J Wq hP1 hQ1 hI64 hJ64).mono ?_
            obtain ⟨MV, hMV⟩ : ∃ MV, MV = Num.meetsV px py qx qy I J := ⟨_, rfl⟩
            rw [← hMV]
            have HMV := hide hMV
            clear hMV
            rintro e w7 ⟨rfl, hb7⟩
            have hs7 := hb7.size
            have HB7 := hide (HBq.out.trans (hb7.mono (by omega)))
            have hrp7 := row_below HRp.out hb7 (by omega)
            have hrq7 := row_below HRq.out hb7 (by omega)
            clear s0 s1 t0 t1 hx1 hx2 hb7
            obtain ⟨s0, s1⟩ := spt2_c hrp7
            obtain ⟨t0, t1⟩ := spt2_c hrq7
            have hx1 := hrp7.lt
            have hx2 := hrq7.lt
            clear hrp7 hrq7
            cases MV
            · go_wp2_with fail
              refine (kcrosses_any px py qx qy I J w7 hP1 hQ1 hI64 hJ64).mono ?_
              have hcb := Num.cross_bd px py qx qy I J
              obtain ⟨xv, hxv⟩ : ∃ xv, xv = Num.crossV px py qx qy I J := ⟨_, rfl⟩
              rw [← hxv] at HSt hcb ⊢
              rintro e w8 ⟨rfl, hb8⟩
              have HB8 := hide (HB7.out.trans (hb8.mono (by omega)))
              clear hb8 s0 s1 t0 t1 hx1 hx2 hxv
              have hZb := HZk.out
              go_wp2
              go_roundw
              case rel =>
                refine ⟨k + 1, by have := HLn.out; omega, by go_num, ?_, fun q hq => ?_, HB8.out⟩
                · rw [HSt.out]
                · by_cases e : q = k
                  · rw [e, HCh.out, ← HMV.out]
                  · exact HNk.out q (by omega)
              case measure => have := HLn.out; simp [intOf]; omega
            · go_wp2
              go_ret
              exact ⟨rfl, HB6.out.trans (HB7.out.mono (by have := HB6.out.size; omega))⟩
          · have e : k = (R r).length := by omega
            have hkl : k = len := by omega
            rw [← hlen] at hc
            have hdk : decide ((k : Int) < (len : Int)) = false := by simp; omega
            have hgl2 : g < wr.heap.size := (hSr.outer.lt g rfl).2
            have HNr : Hid (∀ q, q < r + 1 → ∀ k, k < (R q).length → Num.chM I J (R q) k = false) := fun q hq k' hk' => by
              by_cases e2 : q = r
              · subst e2; exact hnk k' (by omega)
              · exact HNo.out q (by omega) k' hk'
            have HZr : Hid (Z0 + Num.sumZ (Num.chF (Num.chX I J) (R r)) k = Num.outF (Num.chX I J) R (r + 1)) := by unfold Hid; rw [outF_one, ← HZ0.out, e]; rfl
            have HBk := hide hbk
            obtain ⟨Zk, hZk⟩ : ∃ Z, Z = Z0 + Num.sumZ (Num.chF (Num.chX I J) (R r)) k := ⟨_, rfl⟩
            rw [← hZk] at HZr ⊢
            have hll : ¬ k < len := by omega
            clear hSr hvr hra hRl hRin hnk hbk hZk hlen e
            go_wp2
            go_roundw
            case rel => exact ⟨r + 1, by omega, by go_num, by rw [HZr.out], HNr.out, HBk.out⟩
            case measure => simp [intOf]; omega
      · have e : r = T.length := by omega
        have hd1 : decide ((r : Int) < (T.length : Int)) = false := by simp; omega
        have h1 := crossO_bd R I J (m := T.length) (fun q hq => (HFa.out.2 q hq).1) r hr
        have hfl : Num.areaV R T.length I J = 8192 * Num.outF (Num.chX I J) R r := by rw [e]; exact Num.flat_out (by rw [← e]; exact HNo.out)
        have HHold := hide (holds_any bk W H 1 I J _ _ _ _ _ wo (HC6.out.below HBo.out) hW1 hH1 (by omega) hIW hJH (fun i j _ _ => by
          have h3 := Num.areaV_bd (L := R) (N := T.length) (M := 44400) (i : Int) (j : Int) (fun q hq => (HFa.out.2 q hq).1)
          omega))
        rw [hfl] at HHold
        obtain ⟨Z, hZ⟩ : ∃ Z, Z = Num.outF (Num.chX I J) R r := ⟨_, rfl⟩
        rw [← hZ] at HHold h1 ⊢
        have hZb : -177600 ≤ Z ∧ Z ≤ 177600 := by omega
        clear hfl hZ h1 e
        go_wp2_with fail
        refine HHold.out.mono ?_
        rintro e w9 ⟨rfl, hb9⟩
        have HB9 := hide ((HB6.out.trans (HBo.out.mono (by have := HB6.out.size; omega))).trans (hb9.mono (by have := HB6.out.size; omega)))
        clear hb9
        go_wp2
        go_ret
        exact ⟨rfl, HB9.out⟩
end Go.Proofs.Ytkhcjkmifddlbaa

/- TrnY -/
namespace Go.Proofs.Ytkhcjkmifddlbaa
open Go.RowKit Go.Deep

/-- The first m points of a contour, in another order. -/
def rgL (X Y K : Nat → Int) (f : Nat → Nat) (m : Nat) : List (Int × Int × Int) := (List.range m).map fun i => (X (f i), Y (f i), K (f i))
theorem rgL_succ (X Y K : Nat → Int) (f : Nat → Nat) (m : Nat) : rgL X Y K f (m + 1) = rgL X Y K f m ++ [(X (f m), Y (f m), K (f m))] := by unfold rgL; rw [List.range_succ, List.map_append]; rfl
theorem rgL_len (X Y K : Nat → Int) (f : Nat → Nat) (m : Nat) : (rgL X Y K f m).length = m := by unfold rgL; simp
theorem rgL_at (X Y K : Nat → Int) (f : Nat → Nat) {m i : Nat} (h : i < m) : ptX (rgL X Y K f m) i = X (f i) ∧ ptY (rgL X Y K f m) i = Y (f i) ∧ kd (rgL X Y K f m) i = K (f i) := by
  unfold ptX ptY kd rgL
  simp [h]
/-- An outline that no tame map makes be refused. -/
def OutOk (N : Nat) (n : Nat → Nat) (X Y K : Nat → Nat → Int) : Prop := N ≤ 4 ∧ ∀ j, j < N → 2 ≤ n j ∧ n j ≤ 48 ∧ (∀ i, i < n j → Num.badB (K j) (n j) i = false) ∧ ∀ i, i < n j → (-2047 ≤ X j i ∧ X j i ≤ 2047) ∧ -2047 ≤ Y j i ∧ Y j i ≤ 2047
theorem ok_trace {N : Nat} {n : Nat → Nat} {X Y K : Nat → Nat → Int} {m : Num.Mp} (h : OutOk N n X Y K) (hf : Num.fairB m.a m.b m.c m.d m.x m.y = true) (hm : MpOk (2 * 2047) m) : traceE N n X Y K m = 0 := by
  obtain ⟨h1, h2⟩ := h
  have hs : ∀ k, k ≤ N → Num.sumN n k ≤ 48 * k := by
    intro k
    induction k with
    | zero => intro _; simp [Num.sumN]
    | succ k ih => intro hk; have := ih (by omega); have := (h2 k (by omega)).2.1; simp only [Num.sumN]; omega
  exact trace_ok (B := 2047) (by omega) (by have := hs N (Nat.le_refl _); omega) (fun j hj => ⟨(h2 j hj).1, (h2 j hj).2.2.1⟩) (fun j hj => (h2 j hj).2.2.2) (by omega) hf hm
theorem ok_ring {N : Nat} {n : Nat → Nat} {X Y K : Nat → Nat → Int} {m : Num.Mp} (h : OutOk N n X Y K) (hm : MpOk (2 * 2047) m) {j : Nat} (hj : j < N) : Num.ringOk m (Num.refRing (X j) (Y j) (K j) (n j)) = true := by
  have h2 := h.2 j hj
  unfold Num.ringOk
  rw [List.all_eq_true]
  intro g hg
  exact put_ok hm (ring_bd (by omega) (by omega) h2.2.2.2 g hg)

def tuS (N : Nat) (k : Int) (c : Nat) : Nat := (c + (pickV k N).toNat) % N
def tuF (n : Nat) (k : Int) (i : Nat) : Nat := (i + (pickV k n).toNat) % n
/-- Contour c of the turned outline. -/
def tuL (N : Nat) (n : Nat → Nat) (X Y K : Nat → Nat → Int) (k : Int) (c : Nat) : List (Int × Int × Int) := rgL (X (tuS N k c)) (Y (tuS N k c)) (K (tuS N k c)) (tuF (n (tuS N k c)) k) (n (tuS N k c))
/-- Contour c, backwards. -/
def bkL (n : Nat → Nat) (X Y K : Nat → Nat → Int) (c : Nat) : List (Int × Int × Int) := rgL (X c) (Y c) (K c) (fun i => n c - 1 - i) (n c)
theorem tuS_lt {N : Nat} {k : Int} {c : Nat} (h : 0 < N) : tuS N k c < N := Nat.mod_lt _ h
theorem ok_turn {N : Nat} {n : Nat → Nat} {X Y K : Nat → Nat → Int} (h : OutOk N n X Y K) (k : Int) : OutOk N (fun j => (tuL N n X Y K k j).length) (fun j => ptX (tuL N n X Y K k j)) (fun j => ptY (tuL N n X Y K k j)) (fun j => kd (tuL N n X Y K k j)) := by
  refine ⟨h.1, fun j hj => ?_⟩
  have hs := tuS_lt (k := k) (c := j) (show 0 < N by omega)
  obtain ⟨h1, h2, h3, h4⟩ := h.2 _ hs
  unfold tuL
  simp only [rgL_len]
  refine ⟨h1, h2, Num.bad_rot (d := (pickV k (n (tuS N k j))).toNat) (by omega) (fun i hi => (rgL_at _ _ _ _ hi).2.2) h3, fun i hi => ?_⟩
  rw [(rgL_at _ _ _ _ hi).1, (rgL_at _ _ _ _ hi).2.1]
  exact h4 _ (Nat.mod_lt _ (by omega))
theorem ok_back {N : Nat} {n : Nat → Nat} {X Y K : Nat → Nat → Int} (h : OutOk N n X Y K) : OutOk N (fun j => (bkL n X Y K j).length) (fun j => ptX (bkL n X Y K j)) (fun j => ptY (bkL n X Y K j)) (fun j => kd (bkL n X Y K j)) := by
  refine ⟨h.1, fun j hj => ?_⟩
  obtain ⟨h1, h2, h3, h4⟩ := h.2 _ hj
  unfold bkL
  simp only [rgL_len]
  refine ⟨h1, h2, Num.bad_rev (by omega) (fun i hi => (rgL_at _ _ _ _ hi).2.2) h3, fun i hi => ?_⟩
  rw [(rgL_at _ _ _ _ hi).1, (rgL_at _ _ _ _ hi).2.1]
  exact h4 _ (by omega)
theorem area_turn {N : Nat} {n : Nat → Nat} {X Y K : Nat → Nat → Int} {m : Num.Mp} (h : OutOk N n X Y K) (hm : MpOk (2 * 2047) m) (k : Int) (i j : Int) :
    Num.areaV (traceL (fun j => (tuL N n X Y K k j).length) (fun j => ptX (tuL N n X Y K k j)) (fun j => ptY (tuL N n X Y K k j)) (fun j => kd (tuL N n X Y K k j)) m) N i j = Num.areaV (traceL n X Y K m) N i j := by
  rcases Nat.eq_zero_or_pos N with h0 | h0
  · subst h0; rfl
  have hp := pickV_rng k (N : Int) (by omega)
  unfold Num.areaV Num.outF
  rw [← Num.sumZ_rot (fun r => Num.ringF (Num.chA i j) (traceL n X Y K m r)) N (pickV k N).toNat (by omega)]
  refine Num.sumZ_congr _ fun r hr => ?_
  have hs := tuS_lt (k := k) (c := r) h0
  obtain ⟨h1, h2, h3, h4⟩ := h.2 _ hs
  unfold traceL ringL tuL
  simp only [rgL_len]
  exact Num.ring_rot _ (d := (pickV k (n (tuS N k r))).toNat) h1 h3 (fun i hi => (rgL_at _ _ _ _ hi).1) (fun i hi => (rgL_at _ _ _ _ hi).2.1) (fun i hi => (rgL_at _ _ _ _ hi).2.2) (ok_ring h hm hs)
theorem sumZ_negs {f g : Nat → Int} : ∀ n, (∀ k, k < n → f k = -g k) → Num.sumZ f n = -Num.sumZ g n := by
  intro n
  induction n with
  | zero => intro _; rfl
  | succ n ih => intro h; simp only [Num.sumZ]; rw [ih (fun k hk => h k (by omega)), h n (by omega)]; omega
theorem area_back {N : Nat} {n : Nat → Nat} {X Y K : Nat → Nat → Int} {m : Num.Mp} (h : OutOk N n X Y K) (hm : MpOk (2 * 2047) m) (i j : Int) :
    Num.areaV (traceL (fun j => (bkL n X Y K j).length) (fun j => ptX (bkL n X Y K j)) (fun j => ptY (bkL n X Y K j)) (fun j => kd (bkL n X Y K j)) m) N i j = -Num.areaV (traceL n X Y K m) N i j := by
  unfold Num.areaV Num.outF
  refine sumZ_negs _ fun r hr => ?_
  obtain ⟨h1, h2, h3, h4⟩ := h.2 _ hr
  have hok := ok_ring (ok_back h) hm hr
  unfold traceL ringL
  unfold bkL at hok ⊢
  simp only [rgL_len] at hok ⊢
  exact Num.ring_rev (fun a b c d => Num.chordV_back a b c d i j) h1 h3 (fun i hi => (rgL_at _ _ _ _ hi).1) (fun i hi => (rgL_at _ _ _ _ hi).2.1) (fun i hi => (rgL_at _ _ _ _ hi).2.2) (ok_ring h hm hr) hok
theorem byteV_neg (a : Int) : byteV (-a) = byteV a := by
  have : Num.sz (-a) = Num.sz a := by
    unfold Num.sz
    repeat' split
    all_goals omega
  unfold byteV
  rw [this]
theorem pixL_same {A B : Nat → Nat → Int} (h : ∀ i j, byteV (A i j) = byteV (B i j)) (x y a k : Nat) : pixL A x y a k = pixL B x y a k := by
  unfold pixL
  exact List.map_congr_left fun q _ => h _ _
theorem tame_okO (n : Nat → Nat) (X Y K : Nat → Nat → Int) (N : Nat) : OutOk (tameL n X Y K N).length (ptLen (tameL n X Y K N)) (ptXX (tameL n X Y K N)) (ptYY (tameL n X Y K N)) (ptKK (tameL n X Y K N)) := by
  refine ⟨tmO_len _ _ _ _ _ _, fun j hj => ?_⟩
  obtain ⟨h1, h2, h3, h4⟩ := tameL_facts n X Y K N hj
  exact ⟨h1, h2, kok_bad h3, fun i hi => pt_in h4 hi⟩
theorem tame_mapO (a b c d x y : Int) : Num.fairB (tameM a b c d x y).a (tameM a b c d x y).b (tameM a b c d x y).c (tameM a b c d x y).d (tameM a b c d x y).x (tameM a b c d x y).y = true ∧ MpOk (2 * 2047) (tameM a b c d x y) := by
  have hx := nearV_rng x 4095 (by omega)
  have hy := nearV_rng y 4095 (by omega)
  exact tame_map (x := nearV x 4095) (y := nearV y 4095) (nearV_rng a 2047 (by omega)) (nearV_rng b 2047 (by omega)) (nearV_rng c 2047 (by omega)) (nearV_rng d 2047 (by omega)) (by omega) (by omega)
end Go.Proofs.Ytkhcjkmifddlbaa

/- TrnA -/
namespace Go.Proofs.Ytkhcjkmifddlbaa
open Go.RowKit Go.Deep

set_option maxRecDepth 100000 in
set_option maxHeartbeats 4000000 in
theorem kturned_any (ad : Option Addr) (N cc : Nat) (A : Nat → Option Addr) (C n : Nat → Nat) (X Y K : Nat → Nat → Int) (k : Int) (w : World) (hN : N ≤ 4) (hn : ∀ j, j < N → 2 ≤ n j ∧ n j ≤ 48) (ho : OutAt w ad N A C n X Y K) (hk : -9223372036854775808 ≤ k ∧ k ≤ 9223372036854775807) :
    Calls Try.prog 39 #[.slice ad N cc, .int .i64 k] w fun e w' => ∃ v V, e = .returned v ∧ Below w.heap.size w w' ∧ PtRings w' w.heap.size v N V (tuL N n X Y K k) := by
  obtain ⟨i0, hi0, hz0, hz1, hz2⟩ := info_parts info_ptslice
  obtain ⟨j0, hj0, hy0, hy1, hy2⟩ := info_parts info_pt
  obtain ⟨L, hL⟩ : ∃ L, L = tuL N n X Y K k := ⟨_, rfl⟩
  rw [← hL]
  have HL := hide hL
  have HO := hide ho
  have HN := hide hn
  obtain ⟨B0, hB0⟩ : ∃ B0, B0 = w.heap.size := ⟨_, rfl⟩
  have HB0 := hide hB0
  rw [← hB0]
  clear ho hn hL
  go_enter Try.func39, Try.ntmps39
  go_wp2_with fail
  clear hB0
  go_loopw [5, 6] (fun v t wr => ∃ (c : Nat) (V : Nat → Value), c ≤ N ∧ t = .int .i64 c ∧ Below B0 w wr ∧ PtRings wr B0 v c V L) (fun _ t _ => N - (intOf t).toNat)
  case atStart => exact ⟨0, fun _ => undef, by omega, rfl, Below.refl _ _, PtRings.nil _ _ _ _⟩
  case round =>
    obtain ⟨wo, rfl⟩ : ∃ wo, wo = wr := ⟨_, rfl⟩
    obtain ⟨c, V, hc, rfl, hb, hP⟩ := hrel
    have hsz := hb.size
    rw [← HB0.out] at hsz
    obtain ⟨ao, cap, hv, _⟩ := owns_formN hP.outer
    subst hv
    by_cases hlt : c < N
    · have hd1 : decide ((c : Int) < (N : Int)) = true := by simp; omega
      have hOw := HO.out.below (w' := wo) (by rw [← HB0.out]; exact hb)
      rcases hOw.1 with h0 | ⟨ob, ooff, rfl, hcell⟩
      · omega
      have hs := tuS_lt (k := k) (c := c) (show 0 < N by omega)
      obtain ⟨s, hse⟩ : ∃ s, s = tuS N k c := ⟨_, rfl⟩
      rw [← hse] at hs
      have hpr := pickV_rng k (N : Int) (by omega)
      obtain ⟨d, hd⟩ : ∃ d : Nat, (d : Int) = pickV k N := ⟨(pickV k N).toNat, by omega⟩
      have HPk := hide (fun w' => pick_any k (N : Int) w' hk.1 hk.2 (by omega))
      rw [← hd] at HPk
      have hmod : ((c : Int) + (d : Int)).tmod (N : Int) = (s : Int) := by
        rw [Int.tmod_eq_emod_of_nonneg (by omega), hse]
        unfold tuS
        rw [← hd]
        push_cast
        simp
      have hdN : d < N := by omega
      have cc0 := hcell s hs
      have hobl : ob < wo.heap.size := World.block_lt_of_cell? wo _ cc0
      have hns := HN.out s hs
      have hLc : L c = rgL (X s) (Y s) (K s) (tuF (n s) k) (n s) := by rw [HL.out, hse]; rfl
      have hRg := hOw.2 s hs
      rcases hRg with h0 | ⟨rb, roff, hra, hrc⟩
      · omega
      rw [hra] at cc0
      have hrl : rb < wo.heap.size := World.block_lt_of_cell? wo _ (hrc 0 (by omega)).1
      obtain ⟨m, hm⟩ : ∃ m, m = n s := ⟨_, rfl⟩
      obtain ⟨cs, hcs⟩ : ∃ z, z = C s := ⟨_, rfl⟩
      rw [← hm] at hns hLc cc0 hrc
      rw [← hcs] at cc0
      have hpr2 := pickV_rng k (m : Int) (by omega)
      obtain ⟨d2, hd2⟩ : ∃ d : Nat, (d : Int) = pickV k m := ⟨(pickV k m).toNat, by omega⟩
      have HPm := hide (fun w' => pick_any k (m : Int) w' hk.1 hk.2 (by omega))
      rw [← hd2] at HPm
      have hd2m : d2 < m := by omega
      have HTF : Hid (∀ i, tuF m k i = (i + d2) % m) := fun i => by unfold tuF; rw [← hd2]; simp
      have HRc := hide hrc
      have HLc := hide hLc
      have HP := hide hP
      have HB := hide hb
      have g0 : (0 : Int) ≤ (s : Int) := by omega
      have g1 : (s : Int) < (N : Int) := by omega
      have hn0 : ¬ (N : Int) = 0 := by omega
      have hn1 : ¬ N = 0 := by omega
      have hn2 : ((N : Int) == 0) = false := by simp; omega
      have hw1 : IntKind.i64.wrap ((c : Int) + (d : Int)) = (c : Int) + (d : Int) := wrap_ok _ (by omega) (by omega)
      have hw2 : IntKind.i64.wrap (s : Int) = (s : Int) := wrap_ok _ (by omega) (by omega)
      clear hOw hcell hP hb hse hd hm hcs hd2 hrc hLc hra hpr hpr2
      go_wp2_with (go_at_call 21; refine (HPk.out _).mono ?_; rintro e w' ⟨rfl, hw'⟩; rw [hw']; clear hw')
      clear hmod hw1 hw2 cc0
      go_loopw [8, 9] (fun v t wr => ∃ i : Nat, i ≤ m ∧ t = .int .i64 i ∧ Below wo.heap.size wo wr ∧ wr.ownsRow wo.heap.size 133 3 v i ((rgL (X s) (Y s) (K s) (tuF m k) i).flatMap ptC)) (fun _ t _ => m - (intOf t).toNat)
      case atStart => exact ⟨0, by omega, rfl, Below.refl _ _, World.ownsRow_nil _ _ _ _⟩
      case round =>
        obtain ⟨v, rfl⟩ : ∃ v, v = u8 := ⟨_, rfl⟩
        obtain ⟨i, hi, rfl, hbi, hown⟩ := hrel
        have hszi := hbi.size
        by_cases hli : i < m
        · have hdi : decide ((i : Int) < (m : Int)) = true := by simp; omega
          have hfl : tuF m k i < m := Nat.mod_lt _ (by omega)
          have hfm : ((i : Int) + (d2 : Int)).tmod (m : Int) = ((tuF m k i : Nat) : Int) := by rw [Int.tmod_eq_emod_of_nonneg (by omega), HTF.out]; push_cast; rfl
          have hst := rgL_succ (X s) (Y s) (K s) (tuF m k) i
          obtain ⟨f, hf⟩ : ∃ f, f = tuF m k i := ⟨_, rfl⟩
          rw [← hf] at hfl hfm hst
          obtain ⟨c0, c1, c2⟩ := HRc.out f hfl
          have q0 := (hbi.cell (p := ⟨rb, _, none⟩) hrl).trans c0
          have q1 := (hbi.cell (p := ⟨rb, _, none⟩) hrl).trans c1
          have q2 := (hbi.cell (p := ⟨rb, _, none⟩) hrl).trans c2
          have hrl2 : rb < wr.heap.size := by omega
          have f0 : (0 : Int) ≤ (f : Int) := by omega
          have f1 : (f : Int) < (m : Int) := by omega
          have m0 : ¬ (m : Int) = 0 := by omega
          have m1 : ¬ m = 0 := by omega
          have m2 : ((m : Int) == 0) = false := by simp; omega
          have x1 : IntKind.i64.wrap ((i : Int) + (d2 : Int)) = (i : Int) + (d2 : Int) := wrap_ok _ (by omega) (by omega)
          have x2 : IntKind.i64.wrap (f : Int) = (f : Int) := wrap_ok _ (by omega) (by omega)
          obtain ⟨px, hpx⟩ : ∃ z, z = X s f := ⟨_, rfl⟩
          obtain ⟨py, hpy⟩ : ∃ z, z = Y s f := ⟨_, rfl⟩
          obtain ⟨pk, hpk⟩ : ∃ z, z = K s f := ⟨_, rfl⟩
          rw [← hpx] at q0 hst
          rw [← hpy] at q1 hst
          rw [← hpk] at q2 hst
          obtain ⟨xs, hxs⟩ : ∃ xs, xs = (rgL (X s) (Y s) (K s) (tuF m k) i).flatMap ptC := ⟨_, rfl⟩
          rw [← hxs] at hown
          have HXs := hide hxs
          have HSt := hide hst
          have HBi := hide hbi
          clear hxs hst hbi hf hpx hpy hpk c0 c1 c2
          obtain ⟨ai, ci, hvi, _⟩ := owns_formN hown
          subst hvi
          go_wp2_with (first | (go_at_call 21; refine (HPm.out _).mono ?_; rintro e w' ⟨rfl, hw'⟩; rw [hw']; clear hw') | (at_builtin; refine wpList_append_lies _ rfl _ _ 62 rfl wo.heap.size 133 j0 (.agg #[.int .i64 0, .int .i64 0, .int .i64 0]) 3 24 Try.underlying62 hj0 hy0 hy1 hy2 rfl (by omega) (.slice ai i ci) i xs rfl (hown.alloc _) ⟨wr.heap.size, 0, none⟩ 1 1 [.int .i64 px, .int .i64 py, .int .i64 pk] rfl rfl (news_new wr [.int .i64 px, .int .i64 py, .int .i64 pk] _ _ rfl) (one_ints _ _ _) (by omega) (by unfold maxLen; omega) (by omega) (by first | omega | (simp; omega)) (wr.heap.size + 1) (by simp) ?_))
          intro g cap4 w4 hown4 hgrow hat hlt4
          have HB4 := hide ((HBi.out.alloc (by omega) _).grown hgrow (by simp; omega) (fun q hq => (hown.lt q hq).1))
          have HO4 : Hid (w4.ownsRow wo.heap.size 133 3 (.slice (some ⟨g, 0, none⟩) (i + 1) cap4) (i + 1) ((rgL (X s) (Y s) (K s) (tuF m k) (i + 1)).flatMap ptC)) := by
            unfold Hid
            have := push_pt (p := (px, py, pk)) (by rw [← HXs.out]; exact hown4) rfl (by rw [rgL_len])
            rw [← HSt.out, rgL_len] at this
            exact this
          clear hown4 hgrow hat hlt4 hown
          go_wp2
          go_roundw
          case rel => exact ⟨i + 1, by omega, by go_num, HB4.out, HO4.out⟩
          case measure => simp [intOf]; omega
        · have hdi : decide ((i : Int) < (m : Int)) = false := by simp; omega
          have e : i = m := by omega
          subst e
          obtain ⟨ai, ci, hvi, _⟩ := owns_formN hown
          subst hvi
          have hP2 := HP.out.below hbi
          have hB2 : Below B0 w wr := HB.out.trans (hbi.mono hsz)
          obtain ⟨xs, hxs⟩ : ∃ xs, xs = (List.range c).map V := ⟨_, rfl⟩
          have ho2 : wr.ownsRow B0 62 1 (.slice ao c cap) c xs := by rw [hxs]; exact hP2.outer
          have hin2 := owns_mono hown hsz
          have HXS := hide hxs
          have HP2 := hide hP2
          have HB2 := hide hB2
          have HIn := hide hin2
          clear hown hP2 hin2 hxs hB2 hbi
          go_wp2_with (at_builtin; refine wpList_append_lies _ rfl _ _ 22 rfl B0 62 i0 (.slice none 0 0) 1 24 Try.underlying22 hi0 hz0 hz1 hz2 rfl (by omega) (.slice ao c cap) c xs rfl (ho2.alloc _) ⟨wr.heap.size, 0, none⟩ 1 1 [.slice ai i ci] rfl rfl (news_new wr [.slice ai i ci] _ _ rfl) (one_slice _ _ _) (by omega) (by unfold maxLen; omega) (by omega) (by first | omega | (simp; omega)) (wr.heap.size + 1) (by simp) ?_)
          intro g cap1 w3 hown3 hgrow hat hlt3
          have HB3 := hide ((HB2.out.alloc (by omega) _).grown hgrow (by simp; omega) (fun q hq => (ho2.lt q hq).1))
          have HF : Hid (PtRings w3 B0 (.slice (some ⟨g, 0, none⟩) (c + 1) cap1) (c + 1) (fun j => if j = c then .slice ai i ci else V j) L) := by
            unfold Hid
            refine PtRings.push HP2.out (by rw [HLc.out, rgL_len]; exact HIn.out) (fun _ _ => rfl) (by rw [← HXS.out]; exact hown3) hgrow
          clear hown3 hgrow hat ho2
          go_wp2
          go_roundw
          case rel => exact ⟨c + 1, _, by omega, by go_num, HB3.out, HF.out⟩
          case measure => simp [intOf]; omega
    · have e : c = N := by omega
      have hd1 : decide ((c : Int) < (N : Int)) = false := by simp; omega
      have HP := hide hP
      have HB := hide hb
      have HE : Hid (c = N) := e
      clear hP hb e
      go_wp2
      go_ret
      exact ⟨_, V, rfl, HB.out, by rw [← HE.out]; exact HP.out⟩
set_option maxRecDepth 100000 in
set_option maxHeartbeats 4000000 in
theorem kbackwards_any (ad : Option Addr) (N cc : Nat) (A : Nat → Option Addr) (C n : Nat → Nat) (X Y K : Nat → Nat → Int) (w : World) (hN : N ≤ 4) (hn : ∀ j, j < N → 2 ≤ n j ∧ n j ≤ 48) (ho : OutAt w ad N A C n X Y K) :
    Calls Try.prog 40 #[.slice ad N cc] w fun e w' => ∃ v V, e = .returned v ∧ Below w.heap.size w w' ∧ PtRings w' w.heap.size v N V (bkL n X Y K) := by
  obtain ⟨i0, hi0, hz0, hz1, hz2⟩ := info_parts info_ptslice
  obtain ⟨j0, hj0, hy0, hy1, hy2⟩ := info_parts info_pt
  obtain ⟨L, hL⟩ : ∃ L, L = bkL n X Y K := ⟨_, rfl⟩
  rw [← hL]
  have HL := hide hL
  have HO := hide ho
  have HN := hide hn
  obtain ⟨B0, hB0⟩ : ∃ B0, B0 = w.heap.size := ⟨_, rfl⟩
  have HB0 := hide hB0
  rw [← hB0]
  clear ho hn hL
  go_enter Try.func40, Try.ntmps40
  go_wp2_with fail
  clear hB0
  go_loopw [3, 4] (fun v t wr => ∃ (c : Nat) (V : Nat → Value), c ≤ N ∧ t = .int .i64 c ∧ Below B0 w wr ∧ PtRings wr B0 v c V L) (fun _ t _ => N - (intOf t).toNat)
  case atStart => exact ⟨0, fun _ => undef, by omega, rfl, Below.refl _ _, PtRings.nil _ _ _ _⟩
  case round =>
    obtain ⟨wo, rfl⟩ : ∃ wo, wo = wr := ⟨_, rfl⟩
    obtain ⟨c, V, hc, rfl, hb, hP⟩ := hrel
    have hsz := hb.size
    rw [← HB0.out] at hsz
    obtain ⟨ao, cap, hv, _⟩ := owns_formN hP.outer
    subst hv
    by_cases hlt : c < N
    · have hd1 : decide ((c : Int) < (N : Int)) = true := by simp; omega
      have hOw := HO.out.below (w' := wo) (by rw [← HB0.out]; exact hb)
      rcases hOw.1 with h0 | ⟨ob, ooff, rfl, hcell⟩
      · omega
      have cc0 := hcell c hlt
      have hobl : ob < wo.heap.size := World.block_lt_of_cell? wo _ cc0
      have hns := HN.out c hlt
      have hLc : L c = rgL (X c) (Y c) (K c) (fun i => n c - 1 - i) (n c) := by rw [HL.out]; rfl
      have hRg := hOw.2 c hlt
      rcases hRg with h0 | ⟨rb, roff, hra, hrc⟩
      · omega
      rw [hra] at cc0
      have hrl : rb < wo.heap.size := World.block_lt_of_cell? wo _ (hrc 0 (by omega)).1
      obtain ⟨m, hm⟩ : ∃ m, m = n c := ⟨_, rfl⟩
      obtain ⟨cs, hcs⟩ : ∃ z, z = C c := ⟨_, rfl⟩
      rw [← hm] at hns hLc cc0 hrc
      rw [← hcs] at cc0
      have HRc := hide hrc
      have HLc := hide hLc
      have HP := hide hP
      have HB := hide hb
      have g0 : (0 : Int) ≤ (c : Int) := by omega
      have g1 : (c : Int) < (N : Int) := by omega
      clear hOw hcell hP hb hm hcs hrc hLc hra
      go_wp2_with fail
      go_loopw [5, 6] (fun v t wr => ∃ i : Nat, i ≤ m ∧ t = .int .i64 ((m : Int) - 1 - i) ∧ Below wo.heap.size wo wr ∧ wr.ownsRow wo.heap.size 133 3 v i ((rgL (X c) (Y c) (K c) (fun i => m - 1 - i) i).flatMap ptC)) (fun _ t _ => (intOf t + 1).toNat)
      case atStart => exact ⟨0, by omega, by simp, Below.refl _ _, World.ownsRow_nil _ _ _ _⟩
      case round =>
        obtain ⟨v, rfl⟩ : ∃ v, v = u5 := ⟨_, rfl⟩
        obtain ⟨i, hi, rfl, hbi, hown⟩ := hrel
        have hszi := hbi.size
        have cc1 := (hbi.cell (p := ⟨ob, _, none⟩) hobl).trans cc0
        have hobl2 : ob < wr.heap.size := by omega
        by_cases hli : i < m
        · have hdi : decide ((0 : Int) ≤ (m : Int) - 1 - (i : Int)) = true := by simp; omega
          have hst := rgL_succ (X c) (Y c) (K c) (fun i => m - 1 - i) i
          obtain ⟨f, hf⟩ : ∃ f, f = m - 1 - i := ⟨_, rfl⟩
          have hfi : (m : Int) - 1 - (i : Int) = (f : Int) := by omega
          have hfl : f < m := by omega
          rw [← hf] at hst
          rw [hfi] at hdi ⊢
          obtain ⟨c0, c1, c2⟩ := HRc.out f hfl
          have q0 := (hbi.cell (p := ⟨rb, _, none⟩) hrl).trans c0
          have q1 := (hbi.cell (p := ⟨rb, _, none⟩) hrl).trans c1
          have q2 := (hbi.cell (p := ⟨rb, _, none⟩) hrl).trans c2
          have hrl2 : rb < wr.heap.size := by omega
          have f0 : (0 : Int) ≤ (f : Int) := by omega
          have f1 : (f : Int) < (m : Int) := by omega
          obtain ⟨px, hpx⟩ : ∃ z, z = X c f := ⟨_, rfl⟩
          obtain ⟨py, hpy⟩ : ∃ z, z = Y c f := ⟨_, rfl⟩
          obtain ⟨pk, hpk⟩ : ∃ z, z = K c f := ⟨_, rfl⟩
          rw [← hpx] at q0 hst
          rw [← hpy] at q1 hst
          rw [← hpk] at q2 hst
          obtain ⟨xs, hxs⟩ : ∃ xs, xs = (rgL (X c) (Y c) (K c) (fun i => m - 1 - i) i).flatMap ptC := ⟨_, rfl⟩
          rw [← hxs] at hown
          have HXs := hide hxs
          have HSt := hide hst
          have HBi := hide hbi
          have HFi : Hid ((m : Int) - 1 - ((i + 1 : Nat) : Int) = (f : Int) - 1) := by unfold Hid; omega
          clear hxs hst hbi hf hpx hpy hpk c0 c1 c2 hfi
          obtain ⟨ai, ci, hvi, _⟩ := owns_formN hown
          subst hvi
          go_wp2_with (at_builtin; refine wpList_append_lies _ rfl _ _ 62 rfl wo.heap.size 133 j0 (.agg #[.int .i64 0, .int .i64 0, .int .i64 0]) 3 24 Try.underlying62 hj0 hy0 hy1 hy2 rfl (by omega) (.slice ai i ci) i xs rfl (hown.alloc _) ⟨wr.heap.size, 0, none⟩ 1 1 [.int .i64 px, .int .i64 py, .int .i64 pk] rfl rfl (news_new wr [.int .i64 px, .int .i64 py, .int .i64 pk] _ _ rfl) (one_ints _ _ _) (by omega) (by unfold maxLen; omega) (by omega) (by first | omega | (simp; omega)) (wr.heap.size + 1) (by simp) ?_)
          intro g cap4 w4 hown4 hgrow hat hlt4
          have HB4 := hide ((HBi.out.alloc (by omega) _).grown hgrow (by simp; omega) (fun q hq => (hown.lt q hq).1))
          have HO4 : Hid (w4.ownsRow wo.heap.size 133 3 (.slice (some ⟨g, 0, none⟩) (i + 1) cap4) (i + 1) ((rgL (X c) (Y c) (K c) (fun i => m - 1 - i) (i + 1)).flatMap ptC)) := by
            unfold Hid
            have := push_pt (p := (px, py, pk)) (by rw [← HXs.out]; exact hown4) rfl (by rw [rgL_len])
            rw [← HSt.out, rgL_len] at this
            exact this
          clear hown4 hgrow hat hlt4 hown
          go_wp2
          go_roundw
          case rel => exact ⟨i + 1, by omega, by rw [HFi.out], HB4.out, HO4.out⟩
          case measure => simp [intOf]
        · have hdi : decide ((0 : Int) ≤ (m : Int) - 1 - (i : Int)) = false := by simp; omega
          have hdj : ¬ (0 : Int) ≤ (m : Int) - 1 - (i : Int) := by omega
          have e : i = m := by omega
          subst e
          obtain ⟨ai, ci, hvi, _⟩ := owns_formN hown
          subst hvi
          have hP2 := HP.out.below hbi
          have hB2 : Below B0 w wr := HB.out.trans (hbi.mono hsz)
          obtain ⟨xs, hxs⟩ : ∃ xs, xs = (List.range c).map V := ⟨_, rfl⟩
          have ho2 : wr.ownsRow B0 62 1 (.slice ao c cap) c xs := by rw [hxs]; exact hP2.outer
          have hin2 := owns_mono hown hsz
          have HXS := hide hxs
          have HP2 := hide hP2
          have HB2 := hide hB2
          have HIn := hide hin2
          clear hown hP2 hin2 hxs hB2 hbi
          go_wp2_with (at_builtin; refine wpList_append_lies _ rfl _ _ 22 rfl B0 62 i0 (.slice none 0 0) 1 24 Try.underlying22 hi0 hz0 hz1 hz2 rfl (by omega) (.slice ao c cap) c xs rfl (ho2.alloc _) ⟨wr.heap.size, 0, none⟩ 1 1 [.slice ai i ci] rfl rfl (news_new wr [.slice ai i ci] _ _ rfl) (one_slice _ _ _) (by omega) (by unfold maxLen; omega) (by omega) (by first | omega | (simp; omega)) (wr.heap.size + 1) (by simp) ?_)
          intro g cap1 w3 hown3 hgrow hat hlt3
          have HB3 := hide ((HB2.out.alloc (by omega) _).grown hgrow (by simp; omega) (fun q hq => (ho2.lt q hq).1))
          have HF : Hid (PtRings w3 B0 (.slice (some ⟨g, 0, none⟩) (c + 1) cap1) (c + 1) (fun j => if j = c then .slice ai i ci else V j) L) := by
            unfold Hid
            refine PtRings.push HP2.out (by rw [HLc.out, rgL_len]; exact HIn.out) (fun _ _ => rfl) (by rw [← HXS.out]; exact hown3) hgrow
          clear hown3 hgrow hat ho2
          go_wp2
          go_roundw
          case rel => exact ⟨c + 1, _, by omega, by go_num, HB3.out, HF.out⟩
          case measure => simp [intOf]; omega
    · have e : c = N := by omega
      have hd1 : decide ((c : Int) < (N : Int)) = false := by simp; omega
      have HP := hide hP
      have HB := hide hb
      have HE : Hid (c = N) := e
      clear hP hb e
      go_wp2
      go_ret
      exact ⟨_, V, rfl, HB.out, by rw [← HE.out]; exact HP.out⟩
end Go.Proofs.Ytkhcjkmifddlbaa

/- CvY -/
namespace Go.Proofs.Ytkhcjkmifddlbaa
open Go.RowKit Go.Deep

theorem newB_no {a b st : Int} (h : newB a b st = false) : sideB a = false ∨ (sideB a = true ∧ sideB b = false) ∨ (sideB a = true ∧ sideB b = true ∧ (st != 0) = true ∧ (st != 1) = true) := by
  cases h1 : sideB a
  · exact .inl rfl
  · cases h2 : sideB b
    · exact .inr (.inl ⟨rfl, rfl⟩)
    · simp [newB, h1, h2] at h
      exact .inr (.inr ⟨rfl, rfl, by simpa using h.1, by simpa using h.2⟩)

set_option maxRecDepth 100000 in
set_option maxHeartbeats 1000000 in
theorem canvasNew_no (a b st : Int) (w : World) (h : newB a b st = false) :
    Calls Try.prog 109 #[.int .i64 a, .int .i64 b, .int .i64 st] w fun e w' => e = .returned (.tuple #[.agg #[.int .i64 0, .int .i64 0, .int .i64 0, .int .i64 0, .int .i64 0, .slice none 0 0, .slice none 0 0], .int .i64 1]) ∧ Below w.heap.size w w' := by
  rcases newB_no h with h1 | ⟨h1, h2⟩ | ⟨h1, h2, h3, h4⟩
  all_goals
    clear h
    go_enter Try.func109, Try.ntmps109
    go_wp2_with (go_at_call 137; refine (isSide_any _ _).mono ?_; rintro e w' ⟨rfl, rfl⟩)
    exact bodyPost_ret (v := .tuple #[.agg #[.int .i64 0, .int .i64 0, .int .i64 0, .int .i64 0, .int .i64 0, .slice none 0 0, .slice none 0 0], .int .i64 1]) (by simp [results, Try.results109, go_sem]) rfl ⟨rfl, by (repeat (any_goals (first | exact Below.refl _ _ | assumption | refine Below.drew ?_ | refine below_drewN ?_ _ | refine Below.setCell ?_ ?_ _ | refine Below.alloc ?_ ?_ _ | omega | (simp; done) | (simp; omega))))⟩

/-- Render's answer. -/
def renE (W H TE : Int) : Int := if newB W H 0 = false then 1 else TE
def renA (L : Nat → List (Int × Int)) (N : Nat) (i j : Nat) : Int := Num.areaV L N i j
theorem layE_zero (TE : Int) : layE TE 0 = TE := by
  unfold layE; split
  · rename_i h; simp [h]
  · rfl

set_option maxRecDepth 100000 in
set_option maxHeartbeats 4000000 in
theorem canvasRender_any (W H : Int) (ad : Option Addr) (N cc : Nat) (AA : Nat → Option Addr) (C n : Nat → Nat) (X Y K : Nat → Nat → Int) (a b c d x y : Int) (w : World)
    (hN : N ≤ 4294967296) (hn : ∀ i, i < N → n i ≤ 4294967296) (ho : OutAt w ad N AA C n X Y K) :
    Calls Try.prog 114 #[.slice ad N cc, .agg #[.int .i64 a, .int .i64 b, .int .i64 c, .int .i64 d, .int .i64 x, .int .i64 y], .int .i64 W, .int .i64 H] w fun e w' => ∃ rw rh v l, e = .returned (.tuple #[.agg #[.int .i64 rw, .int .i64 rh, v], .int .i64 (renE W H (traceE N n X Y K ⟨a, b, c, d, x, y⟩))]) ∧ Below w.heap.size w w' ∧ w'.ownsRow w.heap.size 5 1 v (List.length l) (u8C l) ∧
      (renE W H (traceE N n X Y K ⟨a, b, c, d, x, y⟩) ≠ 0 → rw = 0 ∧ rh = 0 ∧ l = []) ∧ (renE W H (traceE N n X Y K ⟨a, b, c, d, x, y⟩) = 0 → rw = W ∧ rh = H ∧ l = pixL (renA (traceL n X Y K ⟨a, b, c, d, x, y⟩) N) 0 0 W.toNat (W.toNat * H.toNat)) := by
  obtain ⟨m, hm⟩ : ∃ m : Num.Mp, m = ⟨a, b, c, d, x, y⟩ := ⟨_, rfl⟩
  obtain ⟨TE, hTE⟩ : ∃ TE, TE = traceE N n X Y K m := ⟨_, rfl⟩
  obtain ⟨L, hL⟩ : ∃ L, L = traceL n X Y K m := ⟨_, rfl⟩
  have HF : Hid (TE = 0 → N ≤ 16 ∧ ∀ i, i < N → (L i).length ≤ 44400 ∧ ∀ p ∈ L i, Num.inB p.1 p.2 = true) := by rw [hTE, hL]; exact trace_facts
  obtain ⟨W1, hW1⟩ : ∃ W1, W1 = (w.alloc (.cells #[.int .i64 a, .int .i64 b, .int .i64 c, .int .i64 d, .int .i64 x, .int .i64 y] 39)) := ⟨_, rfl⟩
  obtain ⟨W2, hW2⟩ : ∃ W2, W2 = W1.alloc (.cells #[.int .i64 0, .int .i64 0, .slice none 0 0] 90) := ⟨_, rfl⟩
  have hs1 : W1.heap.size = w.heap.size + 1 := by rw [hW1]; simp
  have hs2 : W2.heap.size = w.heap.size + 2 := by rw [hW2]; simp [hs1]
  have HB1 : Hid (Below w.heap.size w W1) := by unfold Hid; rw [hW1]; (repeat (any_goals (first | exact Below.refl _ _ | assumption | refine Below.drew ?_ | refine below_drewN ?_ _ | refine Below.setCell ?_ ?_ _ | refine Below.alloc ?_ ?_ _ | omega | (simp; done) | (simp; omega))))
  have HB2 : Hid (Below w.heap.size w W2) := by unfold Hid; rw [hW2]; exact HB1.out.alloc (by omega) _
  have HM : Hid (W2.rowIs w.heap.size 39 6 (mp6 a b c d x y)) := by
    unfold Hid; rw [hW2, hW1]; exact (mp6_row a b c d x y w 39).alloc _
  have HZ : Hid (W2.rowIs (w.heap.size + 1) 90 3 (gr3 0 0 (.slice none 0 0))) := by
    unfold Hid; rw [← hs1, hW2]; exact gr3_row 0 0 (.slice none 0 0) W1 90
  have HO := hide (ho.below HB2.out)
  have HN := hide hn
  rw [← hm, ← hTE, ← hL]
  clear ho hn
  cases hnb : newB W H 0
  · have hre : renE W H TE = 1 := by unfold renE; rw [if_pos hnb]
    have HCall := hide (canvasNew_no W H 0 W2 hnb)
    rw [hre]
    clear hre
    go_enter Try.func114, Try.ntmps114
    go_wp2_with fail
    rw [← hW1, ← hW2]
    refine HCall.out.mono ?_
    rintro e w3 ⟨rfl, hb3⟩
    have hs3 := hb3.size
    have hZ3 := row_below HZ.out hb3 (by omega)
    obtain ⟨z0, z1, z2⟩ := gr3_cells hZ3
    have f0 := hZ3.frozen 0
    have f1 := hZ3.frozen 1
    have f2 := hZ3.frozen 2
    have hsl : w.heap.size + 1 < w3.heap.size := by omega
    have HB3 : Hid (Below w.heap.size w w3) := HB2.out.trans (hb3.mono (by omega))
    have HR := hide ((gr3_set hZ3 0 0 (.slice none 0 0)).alloc (.cells #[.int .i64 0, .int .i64 0, .int .i64 0, .int .i64 0, .int .i64 0, .slice none 0 0, .slice none 0 0] 147))
    clear hb3 hZ3 HCall hW1 hW2
    go_wp2
    obtain ⟨wF, hwF⟩ : ∃ wF, wF = (((w3.setCell ⟨w.heap.size + 1, 0, none⟩ (.int .i64 0)).setCell ⟨w.heap.size + 1, 1, none⟩ (.int .i64 0)).setCell ⟨w.heap.size + 1, 2, none⟩ (.slice none 0 0)).alloc (.cells #[.int .i64 0, .int .i64 0, .int .i64 0, .int .i64 0, .int .i64 0, .slice none 0 0, .slice none 0 0] 147) := ⟨_, rfl⟩
    have HBF : Hid (Below w.heap.size w wF) := by
      unfold Hid
      rw [hwF]
      have := HB3.out
      (repeat (any_goals (first | exact Below.refl _ _ | assumption | refine Below.drew ?_ | refine below_drewN ?_ _ | refine Below.setCell ?_ ?_ _ | refine Below.alloc ?_ ?_ _ | omega | (simp; done) | (simp; omega))))
    rw [← hwF]
    rw [← hwF] at HR
    obtain ⟨g0, g1, g2⟩ := gr3_cells HR.out
    exact bodyPost_ret (v := .tuple #[.agg #[.int .i64 0, .int .i64 0, .slice none 0 0], .int .i64 1]) (by simp [results, Try.results114, go_sem, g0, g1, g2]) rfl ⟨0, 0, .slice none 0 0, [], rfl, HBF.out, World.ownsRow_nil _ _ _ _, fun _ => ⟨rfl, rfl, rfl⟩, fun e => by simp at e⟩
  · obtain ⟨hW, hH, _⟩ := newB_yes hnb
    obtain ⟨wn, hwn⟩ : ∃ wn : Nat, (wn : Int) = W := ⟨W.toNat, by omega⟩
    obtain ⟨hn', hhn⟩ : ∃ hn' : Nat, (hn' : Int) = H := ⟨H.toNat, by omega⟩
    subst hwn hhn
    have hre : renE (wn : Int) (hn' : Int) TE = TE := by unfold renE; rw [hnb]; rfl
    rw [hre]
    have HNew := hide (canvasNew_any wn hn' 0 W2 (by omega) (by omega) (.inl rfl))
    have hw1 : 1 ≤ wn ∧ wn ≤ 64 := by omega
    have hh1 : 1 ≤ hn' ∧ hn' ≤ 64 := by omega
    clear hre hnb hW hH
    go_enter Try.func114, Try.ntmps114
    go_wp2_with fail
    rw [← hW1, ← hW2]
    refine HNew.out.mono ?_
    rintro e w3 ⟨tw, ao1, n1, c1, ao2, n2, c2, S, rfl, hb3, hV, hSg⟩
    have hs3 := hb3.size
    obtain ⟨W4, hW4⟩ : ∃ W4, W4 = w3.alloc (.cells #[.int .i64 (wn : Int), .int .i64 (hn' : Int), .int .i64 0, .int .i64 0, .int .i64 tw, .slice ao1 n1 c1, .slice ao2 n2 c2] 147) := ⟨_, rfl⟩
    have hs4 : W4.heap.size = w3.heap.size + 1 := by rw [hW4]; simp
    have hb34 : Below w3.heap.size w3 W4 := by rw [hW4]; exact (Below.refl _ _).alloc (Nat.le_refl _) _
    have hb24 : Below W2.heap.size W2 W4 := hb3.trans (hb34.mono hs3)
    have hCn : Cnv W4 w3.heap.size 147 wn hn' 0 (fun _ _ => 0) 0 (fun q => S q ∨ q = w3.heap.size) 0 := by
      have hrow := cv7_alloc wn hn' 0 0 tw (.slice ao1 n1 c1) (.slice ao2 n2 c2) w3 147
      refine hV.2 W4 w3.heap.size 147 (fun q hq => hb34.block q (hV.1 q hq)) (by omega) (by rw [hW4]; exact hrow) (fun e => ?_)
      have := hV.1 _ e
      omega
    have hM4 := row_below HM.out hb3 (by omega)
    obtain ⟨d0, d1, d2, d3, d4, d5⟩ := mp6_cells hM4
    have hM4l := hM4.lt
    have HAdd := hide (canvasAdd_any w3.heap.size wn hn' 0 147 (fun _ _ => 0) 0 _ ad N cc AA C n X Y K a b c d x y W4 (by simpa using hCn) hw1 hh1 (by omega) hN HN.out (HO.out.below hb24))
    rw [layE_zero, ← hm, ← hTE, ← hL] at HAdd
    have HSg : Hid (∀ q, (S q ∨ q = w3.heap.size) → w.heap.size + 2 ≤ q) := fun q hq => by
      rcases hq with h | h
      · have := hSg q h; omega
      · omega
    have HZ4 := hide (row_below HZ.out hb24 (by omega))
    have HB4 : Hid (Below w.heap.size w W4) := HB2.out.trans (hb24.mono (by omega))
    clear hb3 hV hSg hM4 hb34 hb24 hCn HNew HM HZ
    clear hm hTE hL hW1 hW2
    go_wp2_with fail
    rw [← hW4]
    refine HAdd.out.mono ?_
    rintro e w5 ⟨rfl, hT5, hno, hyes⟩
    clear hW4
    have hs5 := hT5.size
    have HB5 : Hid (Below w.heap.size w w5) := HB4.out.trans (hT5.below (B := w.heap.size) (by omega) (fun q hq => by have := HSg.out q hq; omega))
    have hZ5 := hT5.row HZ4.out (fun e => by have := HSg.out _ e; omega)
    have hsl : w.heap.size + 1 < w5.heap.size := hZ5.lt
    by_cases h0 : TE = 0
    · obtain ⟨S', hC5, hS'⟩ := hyes h0
      obtain ⟨hN16, hLL⟩ := HF.out h0
      have hA : ∀ i j : Nat, i < wn → j < hn' → -9000000000000000000 ≤ (0 + 1 * Num.areaV L N (i : Int) (j : Int)) ∧ (0 + 1 * Num.areaV L N (i : Int) (j : Int)) ≤ 9000000000000000000 := fun i j _ _ => by
        have h3 := Num.areaV_bd (L := L) (N := N) (M := 44400) (i : Int) (j : Int) (fun r hr => (hLL r hr).1)
        have h4 : (8192 * ((44400 : Nat) : Int) * (N : Int)) ≤ 5819596800 := by omega
        omega
      have HGr := hide (canvasGray_any w3.heap.size wn hn' 1 0 0 wn hn' 147 _ _ 0 S' w5 hC5 hw1 hh1 (by omega) ⟨by omega, by omega⟩ ⟨by omega, by omega⟩ hA)
      have HZ5 := hide hZ5
      have HP : Hid (pixL (fun i j => 0 + 1 * Num.areaV L N (i : Int) (j : Int)) 0 0 wn (wn * hn') = pixL (renA L N) 0 0 wn (wn * hn')) := by
        unfold Hid
        congr 1
        funext i j
        unfold renA
        omega
      rw [HP.out, show (((0 : Nat)) : Int) = 0 from rfl] at HGr
      have hte : (TE != 0) = false := by simp [h0]
      clear hT5 hno hyes hC5 hS' hLL hA hZ5 HAdd HF HP
      go_wp2_with fail
      refine HGr.out.mono ?_
      rintro e w6 ⟨v, rfl, hb6, hown⟩
      have hs6 := hb6.size
      have hZ6 := row_below HZ5.out hb6 (by omega)
      obtain ⟨z0, z1, z2⟩ := gr3_cells hZ6
      have f0 := hZ6.frozen 0
      have f1 := hZ6.frozen 1
      have f2 := hZ6.frozen 2
      have hsl6 : w.heap.size + 1 < w6.heap.size := by omega
      obtain ⟨ao, cap0, hv, _⟩ := owns_formN hown
      have HR := hide (gr3_set hZ6 wn hn' v)
      have hB : Below w.heap.size w w6 := HB5.out.trans (hb6.mono (by have := HB5.out.size; omega))
      have HB : Hid (Below w.heap.size w (((w6.setCell ⟨w.heap.size + 1, 0, none⟩ (.int .i64 wn)).setCell ⟨w.heap.size + 1, 1, none⟩ (.int .i64 hn')).setCell ⟨w.heap.size + 1, 2, none⟩ v)) := ((hB.setCell (p := ⟨w.heap.size + 1, 0, none⟩) (by simp) _).setCell (p := ⟨w.heap.size + 1, 1, none⟩) (by simp) _).setCell (p := ⟨w.heap.size + 1, 2, none⟩) (by simp) _
      have HOF : Hid ((((w6.setCell ⟨w.heap.size + 1, 0, none⟩ (.int .i64 wn)).setCell ⟨w.heap.size + 1, 1, none⟩ (.int .i64 hn')).setCell ⟨w.heap.size + 1, 2, none⟩ v).ownsRow w.heap.size 5 1 v (wn * hn') (u8C (pixL (renA L N) 0 0 wn (wn * hn')))) := by
        refine owns_mono (owns_of_block hown (fun q hq => ?_)) (by omega)
        have hq1 := (hown.lt q hq).1
        have hne : q ≠ w.heap.size + 1 := by omega
        rw [set_otherB hne, set_otherB hne, set_otherB hne]
      subst hv
      clear hown hb6 hZ6 hB HGr
      go_wp2
      obtain ⟨wF, hwF⟩ : ∃ wF, wF = ((w6.setCell ⟨w.heap.size + 1, 0, none⟩ (.int .i64 wn)).setCell ⟨w.heap.size + 1, 1, none⟩ (.int .i64 hn')).setCell ⟨w.heap.size + 1, 2, none⟩ (.slice ao (wn * hn') cap0) := ⟨_, rfl⟩
      rw [← hwF]
      rw [← hwF] at HR HB HOF
      obtain ⟨g0, g1, g2⟩ := gr3_cells HR.out
      have hpl := pixL_len (renA L N) 0 0 wn (wn * hn')
      exact bodyPost_ret (v := .tuple #[.agg #[.int .i64 wn, .int .i64 hn', .slice ao (wn * hn') cap0], .int .i64 0]) (by simp [results, Try.results114, go_sem, g0, g1, g2]) rfl ⟨wn, hn', _, pixL (renA L N) 0 0 wn (wn * hn'), by rw [h0], HB.out, by rw [hpl]; exact HOF.out, fun e => absurd h0 e, fun _ => ⟨rfl, rfl, by simp⟩⟩
    · have hte : (TE != 0) = true := by simp [h0]
      obtain ⟨z0, z1, z2⟩ := gr3_cells hZ5
      have f0 := hZ5.frozen 0
      have f1 := hZ5.frozen 1
      have f2 := hZ5.frozen 2
      have HR := hide (gr3_set hZ5 0 0 (.slice none 0 0))
      clear hT5 hno hyes hZ5 HAdd HF
      go_wp2
      obtain ⟨wF, hwF⟩ : ∃ wF, wF = ((w5.setCell ⟨w.heap.size + 1, 0, none⟩ (.int .i64 0)).setCell ⟨w.heap.size + 1, 1, none⟩ (.int .i64 0)).setCell ⟨w.heap.size + 1, 2, none⟩ (.slice none 0 0) := ⟨_, rfl⟩
      have HBF : Hid (Below w.heap.size w wF) := by
        unfold Hid
        rw [hwF]
        have := HB5.out
        (repeat (any_goals (first | exact Below.refl _ _ | assumption | refine Below.drew ?_ | refine below_drewN ?_ _ | refine Below.setCell ?_ ?_ _ | refine Below.alloc ?_ ?_ _ | omega | (simp; done) | (simp; omega))))
      rw [← hwF]
      rw [← hwF] at HR
      obtain ⟨g0, g1, g2⟩ := gr3_cells HR.out
      exact bodyPost_ret (v := .tuple #[.agg #[.int .i64 0, .int .i64 0, .slice none 0 0], .int .i64 TE]) (by simp [results, Try.results114, go_sem, g0, g1, g2]) rfl ⟨0, 0, .slice none 0 0, [], rfl, HBF.out, World.ownsRow_nil _ _ _ _, fun _ => ⟨rfl, rfl, rfl⟩, fun e => absurd e h0⟩
set_option maxRecDepth 100000 in
set_option maxHeartbeats 4000000 in
theorem glyphRender_any (W H : Int) (ad : Option Addr) (N cc : Nat) (AA : Nat → Option Addr) (C n : Nat → Nat) (X Y K : Nat → Nat → Int) (a b c d x y : Int) (w : World)
    (hN : N ≤ 4294967296) (hn : ∀ i, i < N → n i ≤ 4294967296) (ho : OutAt w ad N AA C n X Y K) :
    Calls Try.prog 81 #[.slice ad N cc, .agg #[.int .i64 a, .int .i64 b, .int .i64 c, .int .i64 d, .int .i64 x, .int .i64 y], .int .i64 W, .int .i64 H] w fun e w' => ∃ rw rh v l, e = .returned (.tuple #[.agg #[.int .i64 rw, .int .i64 rh, v], .int .i64 (renE W H (traceE N n X Y K ⟨a, b, c, d, x, y⟩))]) ∧ Below w.heap.size w w' ∧ w'.ownsRow w.heap.size 5 1 v (List.length l) (u8C l) ∧
      (renE W H (traceE N n X Y K ⟨a, b, c, d, x, y⟩) ≠ 0 → rw = 0 ∧ rh = 0 ∧ l = []) ∧ (renE W H (traceE N n X Y K ⟨a, b, c, d, x, y⟩) = 0 → rw = W ∧ rh = H ∧ l = pixL (renA (traceL n X Y K ⟨a, b, c, d, x, y⟩) N) 0 0 W.toNat (W.toNat * H.toNat)) := by
  obtain ⟨W1, hW1⟩ : ∃ W1, W1 = (w.alloc (.cells #[.int .i64 a, .int .i64 b, .int .i64 c, .int .i64 d, .int .i64 x, .int .i64 y] 39)) := ⟨_, rfl⟩
  obtain ⟨W2, hW2⟩ : ∃ W2, W2 = W1.alloc (.cells #[.int .i64 0, .int .i64 0, .slice none 0 0] 90) := ⟨_, rfl⟩
  have hs1 : W1.heap.size = w.heap.size + 1 := by rw [hW1]; simp
  have hs2 : W2.heap.size = w.heap.size + 2 := by rw [hW2]; simp [hs1]
  have HB2 : Hid (Below w.heap.size w W2) := by unfold Hid; rw [hW2, hW1]; (repeat (any_goals (first | exact Below.refl _ _ | assumption | refine Below.drew ?_ | refine below_drewN ?_ _ | refine Below.setCell ?_ ?_ _ | refine Below.alloc ?_ ?_ _ | omega | (simp; done) | (simp; omega))))
  have HZ : Hid (W2.rowIs (w.heap.size + 1) 90 3 (gr3 0 0 (.slice none 0 0))) := by
    unfold Hid; rw [← hs1, hW2]; exact gr3_row 0 0 (.slice none 0 0) W1 90
  have HCall := hide (canvasRender_any W H ad N cc AA C n X Y K a b c d x y W2 hN hn (ho.below HB2.out))
  clear ho hn
  obtain ⟨RE, hRE⟩ : ∃ RE, RE = renE W H (traceE N n X Y K ⟨a, b, c, d, x, y⟩) := ⟨_, rfl⟩
  obtain ⟨RL, hRL⟩ : ∃ RL, RL = pixL (renA (traceL n X Y K ⟨a, b, c, d, x, y⟩) N) 0 0 W.toNat (W.toNat * H.toNat) := ⟨_, rfl⟩
  rw [← hRE, ← hRL] at HCall
  rw [← hRE, ← hRL]
  clear hRE hRL
  go_enter Try.func81, Try.ntmps81
  go_wp2_with fail
  rw [← hW1, ← hW2]
  refine HCall.out.mono ?_
  rintro e w1 ⟨rw', rh', v, l, rfl, hb1, hown, hq1, hq2⟩
  have hs3 := hb1.size
  have hZ2 := row_below HZ.out hb1 (by omega)
  obtain ⟨z0, z1, z2⟩ := gr3_cells hZ2
  have f0 := hZ2.frozen 0
  have f1 := hZ2.frozen 1
  have f2 := hZ2.frozen 2
  have hsl : w.heap.size + 1 < w1.heap.size := by omega
  obtain ⟨ao, cap0, hv, _⟩ := owns_formN hown
  have HR := hide (gr3_set hZ2 rw' rh' v)
  have hB : Below w.heap.size w w1 := HB2.out.trans (hb1.mono (by omega))
  have HB : Hid (Below w.heap.size w (((w1.setCell ⟨w.heap.size + 1, 0, none⟩ (.int .i64 rw')).setCell ⟨w.heap.size + 1, 1, none⟩ (.int .i64 rh')).setCell ⟨w.heap.size + 1, 2, none⟩ v)) := ((hB.setCell (p := ⟨w.heap.size + 1, 0, none⟩) (by simp) _).setCell (p := ⟨w.heap.size + 1, 1, none⟩) (by simp) _).setCell (p := ⟨w.heap.size + 1, 2, none⟩) (by simp) _
  have HOF : Hid ((((w1.setCell ⟨w.heap.size + 1, 0, none⟩ (.int .i64 rw')).setCell ⟨w.heap.size + 1, 1, none⟩ (.int .i64 rh')).setCell ⟨w.heap.size + 1, 2, none⟩ v).ownsRow w.heap.size 5 1 v l.length (u8C l)) := by
    refine owns_mono (owns_of_block hown (fun q hq => ?_)) (by omega)
    have hq1 := (hown.lt q hq).1
    have hne : q ≠ w.heap.size + 1 := by omega
    rw [set_otherB hne, set_otherB hne, set_otherB hne]
  have HQ := hide (And.intro hq1 hq2)
  subst hv
  clear hown hb1 hZ2 hB HCall hq1 hq2 hW1 hW2
  go_wp2
  obtain ⟨wF, hwF⟩ : ∃ wF, wF = ((w1.setCell ⟨w.heap.size + 1, 0, none⟩ (.int .i64 rw')).setCell ⟨w.heap.size + 1, 1, none⟩ (.int .i64 rh')).setCell ⟨w.heap.size + 1, 2, none⟩ (.slice ao l.length cap0) := ⟨_, rfl⟩
  rw [← hwF]
  rw [← hwF] at HR HB HOF
  obtain ⟨g0, g1, g2⟩ := gr3_cells HR.out
  exact bodyPost_ret (v := .tuple #[.agg #[.int .i64 rw', .int .i64 rh', .slice ao l.length cap0], .int .i64 RE]) (by simp [results, Try.results81, go_sem, g0, g1, g2]) rfl ⟨_, _, _, l, rfl, HB.out, HOF.out, HQ.out.1, HQ.out.2⟩
end Go.Proofs.Ytkhcjkmifddlbaa

/- TrnB -/
namespace Go.Proofs.Ytkhcjkmifddlbaa
open Go.RowKit Go.Deep

/-- Bytes in memory, as they are read. -/
def BtAt (w : World) (a : Option Addr) (l : List Int) : Prop := l = [] ∨ ∃ g, a = some ⟨g, 0, none⟩ ∧ ∀ k (h : k < l.length), w.cell? ⟨g, k, none⟩ = some (.int .u8 l[k])
theorem BtAt.below {w w' : World} {a : Option Addr} {l : List Int} (h : BtAt w a l) (hb : Below w.heap.size w w') : BtAt w' a l := by
  rcases h with h | ⟨g, ha, hc⟩
  · exact .inl h
  · refine .inr ⟨g, ha, fun k hk => ?_⟩
    have hl : g < w.heap.size := World.block_lt_of_cell? w _ (hc k hk)
    exact (hb.cell (p := ⟨g, k, none⟩) hl).trans (hc k hk)
theorem owns_bt {w : World} {base : Nat} {v : Value} {l : List Int} (h : w.ownsRow base 5 1 v l.length (u8C l)) : ∃ ao cap, v = .slice ao l.length cap ∧ BtAt w ao l := by
  obtain ⟨ao, cap, rfl, hao⟩ := owns_formN h
  refine ⟨ao, cap, rfl, ?_⟩
  rcases Nat.eq_zero_or_pos l.length with h0 | h0
  · exact .inl (List.eq_nil_of_length_eq_zero h0)
  · obtain ⟨g, rfl⟩ := hao h0
    refine .inr ⟨g, rfl, fun k hk => ?_⟩
    have hc := h.cellAt k (by omega)
    rw [hc]
    simp [u8C, hk]

set_option maxRecDepth 100000 in
set_option maxHeartbeats 1000000 in
theorem ksamePix_any (a a' : Option Addr) (c c' : Nat) (l : List Int) (w : World) (hn : l.length ≤ 4096) (h1 : BtAt w a l) (h2 : BtAt w a' l) :
    Calls Try.prog 43 #[.slice a l.length c, .slice a' l.length c'] w fun e w' => e = .returned (.bool true) ∧ ∃ nd, w' = w.drewN nd := by
  have H1 := hide h1
  have H2 := hide h2
  obtain ⟨n, hne⟩ : ∃ n, n = l.length := ⟨_, rfl⟩
  rw [← hne] at hn ⊢
  have HNe := hide hne
  clear h1 h2 hne
  go_enter Try.func43, Try.ntmps43
  go_wp2_with fail
  go_loopw [5] (fun i wr => ∃ k nd : Nat, k ≤ n ∧ i = .int .i64 k ∧ wr = w.drewN nd) (fun i _ => n - (intOf i).toNat)
  case atStart => exact ⟨0, 0, by omega, rfl, rfl⟩
  case round =>
    obtain ⟨k, nd, hk, rfl, rfl⟩ := hrel
    by_cases hlt : k < n
    · have hl : k < l.length := by rw [← HNe.out]; exact hlt
      obtain h0 | ⟨b, rfl, hc⟩ := H1.out
      · rw [h0] at hl; simp at hl
      obtain h0 | ⟨b', rfl, hc'⟩ := H2.out
      · rw [h0] at hl; simp at hl
      have q0 := hc k hl
      have q1 := hc' k hl
      obtain ⟨z, hz⟩ : ∃ z, z = l[k] := ⟨_, rfl⟩
      rw [← hz] at q0 q1
      clear hc hc' hz
      have g0 : (0 : Int) ≤ (k : Int) := by omega
      have g1 : (k : Int) < (n : Int) := by omega
      have hd1 : decide ((k : Int) < (n : Int)) = true := by simp; omega
      go_wp2
      go_quiet (fail)
      go_wp2
      go_roundw
      case rel => exact ⟨k + 1, nd + nq, by omega, by go_num, rfl⟩
      case measure => simp [intOf]; omega
    · have hd0 : decide ((k : Int) < (n : Int)) = false := by simp; omega
      go_wp2
      go_ret
      exact ⟨rfl, nd, rfl⟩

set_option maxRecDepth 100000 in
set_option maxHeartbeats 4000000 in
theorem kshown_any (W H : Nat) (ad : Option Addr) (N cc : Nat) (AA : Nat → Option Addr) (C n : Nat → Nat) (X Y K : Nat → Nat → Int) (a b c d x y : Int) (w : World) (hW : 1 ≤ W ∧ W ≤ 64) (hH : 1 ≤ H ∧ H ≤ 64)
    (hN : N ≤ 4294967296) (hn : ∀ i, i < N → n i ≤ 4294967296) (ho : OutAt w ad N AA C n X Y K) (hE : traceE N n X Y K ⟨a, b, c, d, x, y⟩ = 0) :
    Calls Try.prog 41 #[.slice ad N cc, .agg #[.int .i64 a, .int .i64 b, .int .i64 c, .int .i64 d, .int .i64 x, .int .i64 y], .int .i64 W, .int .i64 H] w fun e w' => ∃ v, e = .returned (.tuple #[.agg #[.int .i64 W, .int .i64 H, v], .bool true]) ∧ Below w.heap.size w w' ∧ ∃ ao cap, v = .slice ao (W * H) cap ∧ BtAt w' ao (pixL (renA (traceL n X Y K ⟨a, b, c, d, x, y⟩) N) 0 0 W (W * H)) := by
  have hWH : W * H ≤ 4096 := Nat.mul_le_mul hW.2 hH.2
  obtain ⟨wh, hwh⟩ : ∃ wh, wh = W * H := ⟨_, rfl⟩
  have hni : (W : Int) * (H : Int) = (wh : Int) := by rw [hwh]; simp
  have w1 : IntKind.i64.wrap ((W : Int) * (H : Int)) = (wh : Int) := by rw [hni]; exact wrap_ok _ (by omega) (by omega)
  have hRE : renE W H (traceE N n X Y K ⟨a, b, c, d, x, y⟩) = 0 := by
    have : newB (W : Int) (H : Int) 0 = true := by simp [newB, sideB]; omega
    unfold renE
    rw [this, hE]; rfl
  obtain ⟨W0, hW0⟩ : ∃ W0, W0 = w.alloc (.cells #[.int .i64 a, .int .i64 b, .int .i64 c, .int .i64 d, .int .i64 x, .int .i64 y] 39) := ⟨_, rfl⟩
  obtain ⟨W1, hW1⟩ : ∃ W1, W1 = W0.alloc (.cells #[.int .i64 0, .int .i64 0, .slice none 0 0] 90) := ⟨_, rfl⟩
  have hB1 : Below w.heap.size w W1 := by rw [hW1, hW0]; (repeat (any_goals (first | exact Below.refl _ _ | assumption | refine Below.drew ?_ | refine below_drewN ?_ _ | refine Below.setCell ?_ ?_ _ | refine Below.alloc ?_ ?_ _ | omega | (simp; done) | (simp; omega))))
  have hs1 : W1.heap.size = w.heap.size + 1 + 1 := by rw [hW1, hW0]; simp
  have hG1 : W1.rowIs (w.heap.size + 1) 90 3 (gr3 0 0 (.slice none 0 0)) := by
    have h := gr3_row 0 0 (.slice none 0 0) W0 90
    rw [hW1]
    rw [show W0.heap.size = w.heap.size + 1 by rw [hW0]; simp] at h
    exact h
  have HRen := hide (glyphRender_any W H ad N cc AA C n X Y K a b c d x y W1 hN hn (ho.below hB1))
  rw [hRE] at HRen
  have HB1 := hide hB1
  have HG1 := hide hG1
  rw [← hwh]
  clear hB1 hG1 ho hn hE hRE hni
  go_enter Try.func41, Try.ntmps41
  go_wp2_with fail
  rw [← hW0, ← hW1]
  refine HRen.out.mono ?_
  rintro e w2 ⟨rw1, rh1, v, l, rfl, hb2, hown, hq1, hq2⟩
  obtain ⟨rfl, rfl, hl⟩ := hq2 trivial
  have hll : l.length = wh := by rw [hl, pixL_len, hwh]; simp
  obtain ⟨ao, cap, rfl, _⟩ := owns_bt hown
  have HOwn := hide hown
  rw [hll]
  have hs2 := hb2.size
  have hG2 := row_below HG1.out hb2 (by omega)
  have HB2 := hide (HB1.out.trans (hb2.mono (by omega)))
  have HLe : Hid (l = pixL (renA (traceL n X Y K ⟨a, b, c, d, x, y⟩) N) 0 0 W wh) := by unfold Hid; rw [hl, hwh]; simp
  obtain ⟨gb, hgb⟩ : ∃ gb, gb = w.heap.size + 1 := ⟨_, rfl⟩
  rw [← hgb] at hG2
  try rw [← hgb]
  have hgl : gb < w2.heap.size := by omega
  have hwg : w.heap.size ≤ gb := by omega
  have hs1g : gb + 1 = W1.heap.size := by omega
  obtain ⟨g0, g1, g2⟩ := gr3_cells hG2
  have z0 := hG2.frozen 0
  have z1 := hG2.frozen 1
  have z2 := hG2.frozen 2
  have HG2 := hide hG2
  clear hb2 hown hq1 hq2 hl hgb hG2 hwh hW0 hW1 HRen HG1 hll
  go_wp2_with fail
  go_region
  obtain ⟨W3, hW3⟩ : ∃ W3, W3 = ((((w2.setCell ⟨gb, 0, none⟩ (.int .i64 W)).setCell ⟨gb, 1, none⟩ (.int .i64 H)).setCell ⟨gb, 2, none⟩ (.slice ao wh cap)).alloc (.cells #[.int .i64 W, .int .i64 H, .slice ao wh cap] 90)).drew := ⟨_, rfl⟩
  have hG3 : W3.rowIs gb 90 3 (gr3 W H (.slice ao wh cap)) := by rw [hW3]; exact ((gr3_set HG2.out _ _ _).alloc _).drew
  have hB3 : Below w.heap.size w W3 := by
    have := HB2.out
    rw [hW3]
    (repeat (any_goals (first | exact Below.refl _ _ | assumption | refine Below.drew ?_ | refine below_drewN ?_ _ | refine Below.setCell ?_ ?_ _ | refine Below.alloc ?_ ?_ _ | omega | (simp; done) | (simp; omega))))
  have hT3 : Touch (fun q => q = gb) w2 W3 := by rw [hW3]; exact (((((Touch.refl (fun q => q = gb) w2).setCell (p := ⟨gb, 0, none⟩) (.inl rfl) _).setCell (p := ⟨gb, 1, none⟩) (.inl rfl) _).setCell (p := ⟨gb, 2, none⟩) (.inl rfl) _).alloc _).drew
  have hown3 := owns_of_block HOwn.out (fun q hq => hT3.block q (HOwn.out.lt q hq).2 (fun e => by have := (HOwn.out.lt q hq).1; omega))
  obtain ⟨ao3, cap3, he3, hbt3⟩ := owns_bt hown3
  simp only [Value.slice.injEq] at he3
  obtain ⟨rfl, _, rfl⟩ := he3
  rw [← hW3]
  clear hW3 g0 g1 g2 z0 z1 z2 HG2 HB2 hT3 hown3
  obtain ⟨g0, g1, g2⟩ := gr3_cells hG3
  go_wp2
  refine bodyPost_ret (v := .tuple #[.agg #[.int .i64 W, .int .i64 H, .slice ao wh cap], .bool true]) (by simp [results, Try.results41, go_sem, g0, g1, g2]) rfl ⟨_, rfl, hB3, ao, cap, rfl, by rw [← HLe.out]; exact hbt3⟩
end Go.Proofs.Ytkhcjkmifddlbaa

/- TrnC -/
namespace Go.Proofs.Ytkhcjkmifddlbaa
open Go.RowKit Go.Deep

set_option maxRecDepth 100000 in
set_option maxHeartbeats 8000000 in
theorem kturnedLaw_any (ad : Option Addr) (N cc : Nat) (A : Nat → Option Addr) (C n : Nat → Nat) (X Y K : Nat → Nat → Int) (a b c d x y zw zh zk : Int) (w : World) (hN : (N : Int) ≤ 9223372036854775807) (ho : OutAt w ad N A C n X Y K)
    (hX : ∀ j i, -9223372036854775808 ≤ X j i ∧ X j i ≤ 9223372036854775807) (hY : ∀ j i, -9223372036854775808 ≤ Y j i ∧ Y j i ≤ 9223372036854775807) (hK : ∀ j i, -9223372036854775808 ≤ K j i ∧ K j i ≤ 9223372036854775807)
    (hw : -9223372036854775808 ≤ zw ∧ zw ≤ 9223372036854775807) (hh : -9223372036854775808 ≤ zh ∧ zh ≤ 9223372036854775807) (hk : -9223372036854775808 ≤ zk ∧ zk ≤ 9223372036854775807) :
    Calls Try.prog 12 #[.slice ad N cc, .agg #[.int .i64 a, .int .i64 b, .int .i64 c, .int .i64 d, .int .i64 x, .int .i64 y], .int .i64 zw, .int .i64 zh, .int .i64 zk] w fun e w' => e = .returned (.bool true) ∧ Below w.heap.size w w' := by
  obtain ⟨W, hW⟩ : ∃ W, W = windowN zw := ⟨_, rfl⟩
  obtain ⟨H, hH⟩ : ∃ H, H = windowN zh := ⟨_, rfl⟩
  have hW1 : 1 ≤ W ∧ W ≤ 64 := by rw [hW]; exact (windowN_rng zw).1
  have hH1 : 1 ≤ H ∧ H ≤ 64 := by rw [hH]; exact (windowN_rng zh).1
  have rS := pickV_rng zk 2 (by omega)
  obtain ⟨st, hstv⟩ : ∃ st, st = pickV zk 2 := ⟨_, rfl⟩
  have hst2 : st = 0 ∨ st = 1 := by omega
  have hWH : W * H ≤ 4096 := Nat.mul_le_mul hW1.2 hH1.2
  have hWH1 : 1 ≤ W * H := Nat.mul_pos (by omega) (by omega)
  obtain ⟨wh, hwh⟩ : ∃ wh, wh = W * H := ⟨_, rfl⟩
  rw [← hwh] at hWH hWH1
  have hni : (W : Int) * (H : Int) = (wh : Int) := by rw [hwh]; simp
  have rA := pickV_rng zk (wh : Int) (by omega)
  obtain ⟨at', hat⟩ : ∃ q : Nat, (q : Int) = pickV zk wh := ⟨(pickV zk wh).toNat, by omega⟩
  obtain ⟨T, hT⟩ : ∃ T, T = tameL n X Y K N := ⟨_, rfl⟩
  have HE := hide (tame_trace n X Y K N a b c d x y)
  have HOk : Hid (OutOk T.length (ptLen T) (ptXX T) (ptYY T) (ptKK T)) := by unfold Hid; rw [hT]; exact tame_okO n X Y K N
  have HMp := hide (tame_mapO a b c d x y)
  rw [← hT] at HE
  have HFa := hide (trace_facts HE.out)
  have HLen : Hid (∀ j, j < T.length → ptLen T j ≤ 4294967296) := fun j hj => by rw [hT] at hj ⊢; have := (tameL_facts n X Y K N hj).2.1; unfold ptLen; omega
  have hT4 : T.length ≤ 4 := by rw [hT]; exact tmO_len _ _ _ _ _ _
  obtain ⟨R, hR⟩ : ∃ R, R = traceL (ptLen T) (ptXX T) (ptYY T) (ptKK T) (tameM a b c d x y) := ⟨_, rfl⟩
  have HR := hide hR
  rw [← hR] at HFa
  obtain ⟨ma, hma⟩ : ∃ z, z = nearV a 2047 := ⟨_, rfl⟩
  obtain ⟨mb, hmb⟩ : ∃ z, z = nearV b 2047 := ⟨_, rfl⟩
  obtain ⟨mc, hmc⟩ : ∃ z, z = nearV c 2047 := ⟨_, rfl⟩
  obtain ⟨md, hmd⟩ : ∃ z, z = nearV d 2047 := ⟨_, rfl⟩
  obtain ⟨mx, hmx⟩ : ∃ z, z = nearV x 4095 := ⟨_, rfl⟩
  obtain ⟨my, hmy⟩ : ∃ z, z = nearV y 4095 := ⟨_, rfl⟩
  have hTM : tameM a b c d x y = ⟨ma, mb, mc, md, mx, my⟩ := by unfold tameM; rw [hma, hmb, hmc, hmd, hmx, hmy]
  have HMap := hide (fun w => ktameMap_any a b c d x y w)
  rw [← hma, ← hmb, ← hmc, ← hmd, ← hmx, ← hmy] at HMap
  rw [hTM] at HE HR HMp
  have HTame := hide (fun w' (h : OutAt w' ad N A C n X Y K) => ktame_any (-2047) 4095 (-2047) 4095 ad N cc A C n X Y K w' openF_ok hN h hX hY hK)
  have HTT : Hid (tmO ⟨-2047, 4095, -2047, 4095⟩ n X Y K N = T) := hT.symm
  rw [HTT.out] at HTame
  have HWin := hide (fun w => window_any zw w hw.1 hw.2)
  have HWih := hide (fun w => window_any zh w hh.1 hh.2)
  rw [← hW] at HWin
  rw [← hH] at HWih
  have HPs := hide (fun w => pick_any zk 2 w hk.1 hk.2 (by omega))
  rw [← hstv] at HPs
  have HPa := hide (fun w => pick_any zk (wh : Int) w hk.1 hk.2 (by omega))
  rw [← hat] at HPa
  have hatl : at' < wh := by omega
  have HK := hide hk
  have hw98 : IntKind.i64.wrap ((W : Int) * (H : Int)) = (wh : Int) := by rw [hni]; exact wrap_ok _ (by omega) (by omega)
  have hqd : at' / W < H := by
    rw [Nat.div_lt_iff_lt_mul (by omega), Nat.mul_comm, ← hwh]; omega
  have hqm : at' % W < W := Nat.mod_lt _ (by omega)
  have HQm : Hid ((at' : Int).tmod (W : Int) = ((at' % W : Nat) : Int)) := by unfold Hid; rw [Int.tmod_eq_emod_of_nonneg (by omega)]; push_cast; rfl
  have HQd : Hid ((at' : Int).tdiv (W : Int) = ((at' / W : Nat) : Int)) := by unfold Hid; rw [Int.tdiv_eq_ediv_of_nonneg (by omega)]; push_cast; rfl
  have HWh := hide hwh
  clear hwh hni
  have HO := hide ho
  have HMr := hide (mp6_row a b c d x y w 39)
  have HB1 : Hid (Below w.heap.size w (w.alloc (.cells #[.int .i64 a, .int .i64 b, .int .i64 c, .int .i64 d, .int .i64 x, .int .i64 y] 39))) := (Below.refl _ _).alloc (Nat.le_refl _) _
  clear ho hX hY hK hW hH hstv hT hR hma hmb hmc hmd hmx hmy hTM rS HTT hw hh hk hat rA
  go_enter Try.func12, Try.ntmps12
  go_wp2_with fail
  obtain ⟨W1, hW1e⟩ : ∃ W1, W1 = w.alloc (.cells #[.int .i64 a, .int .i64 b, .int .i64 c, .int .i64 d, .int .i64 x, .int .i64 y] 39) := ⟨_, rfl⟩
  rw [← hW1e] at HMr HB1 ⊢
  have hs1 : W1.heap.size = w.heap.size + 1 := by rw [hW1e]; simp
  clear hW1e
  refine (kopen_any W1).mono ?_
  rintro e w2 ⟨rfl, hb2⟩
  have hs2 := hb2.size
  obtain ⟨W2, hW2⟩ : ∃ W2, W2 = w2.alloc (.cells #[.int .i64 (-2047), .int .i64 4095, .int .i64 (-2047), .int .i64 4095] 72) := ⟨_, rfl⟩
  have hb22 : Below w2.heap.size w2 W2 := by rw [hW2]; exact (Below.refl _ _).alloc (Nat.le_refl _) _
  have hsW2 : W2.heap.size = w2.heap.size + 1 := by rw [hW2]; simp
  have hb12 : Below W1.heap.size W1 W2 := hb2.trans (hb22.mono hs2)
  have HM2 := hide (row_below HMr.out hb12 (by omega))
  have HB2 := hide (HB1.out.trans (hb12.mono (by omega)))
  have HW2 := hide hW2
  clear hb2 hb22 hb12 hW2
  go_wp2_with fail
  rw [← HW2.out]
  refine (HTame.out W2 (HO.out.below HB2.out)).mono ?_
  rintro e w3 ⟨v, V, rfl, hb3, hP3⟩
  obtain ⟨pad, pcc, PA, PC, rfl, hO3⟩ := hP3.out
  have hs3 := hb3.size
  have hM3 := row_below HM2.out hb3 (by omega)
  obtain ⟨d0, d1, d2, d3, d4, d5⟩ := mp6_cells hM3
  have hM3l := hM3.lt
  have hO3' : OutAt w3 pad T.length PA PC (ptLen T) (ptXX T) (ptYY T) (ptKK T) := hO3
  have HO3 := hide hO3'
  have HB3 := hide (HB2.out.trans (hb3.mono (by omega)))
  clear hb3 hP3 hO3 hO3' hM3 HTame HW2
  go_wp2_with fail
  refine (HMap.out w3).mono ?_
  rintro e w4 ⟨rfl, hb4⟩
  have hs4 := hb4.size
  obtain ⟨W4, hW4⟩ : ∃ W4, W4 = w4.alloc (.cells #[.int .i64 ma, .int .i64 mb, .int .i64 mc, .int .i64 md, .int .i64 mx, .int .i64 my] 39) := ⟨_, rfl⟩
  have hb44 : Below w4.heap.size w4 W4 := by rw [hW4]; exact (Below.refl _ _).alloc (Nat.le_refl _) _
  have hb34 : Below w3.heap.size w3 W4 := hb4.trans (hb44.mono hs4)
  have hsW4 : W4.heap.size = w4.heap.size + 1 := by rw [hW4]; simp
  obtain ⟨mb4, hmb4⟩ : ∃ q, q = w4.heap.size := ⟨_, rfl⟩
  have HM4 : Hid (W4.rowIs mb4 39 6 (mp6 ma mb mc md mx my)) := by unfold Hid; rw [hW4, hmb4]; exact mp6_row ma mb mc md mx my w4 39
  have HO4 := hide (HO3.out.below hb34)
  have HB4 := hide (HB3.out.trans (hb34.mono (by omega)))
  have HW4 := hide (And.intro hW4 hmb4)
  have hm4l : mb4 < W4.heap.size := by omega
  clear d0 d1 d2 d3 d4 d5 hb4 hb44 hb34 hW4 hsW4 hmb4 hM3l HO3 HM2
  go_wp2_with fail
  rw [← HW4.out.1]
  try rw [← HW4.out.2]
  refine (HWin.out _).mono ?_
  rintro e w' ⟨rfl, hw'⟩
  rw [hw']
  clear hw'
  go_wp2_with fail
  refine (HWih.out _).mono ?_
  rintro e w' ⟨rfl, hw'⟩
  rw [hw']
  clear hw'
  clear HWin HWih HMap HW4
  have HTu := hide (kturned_any pad T.length pcc PA PC (ptLen T) (ptXX T) (ptYY T) (ptKK T) zk W4 hT4 (fun j hj => ⟨(HOk.out.2 j hj).1, (HOk.out.2 j hj).2.1⟩) HO4.out HK.out)
  go_wp2_with fail
  refine HTu.out.mono ?_
  rintro e w5 ⟨vq, VQ, rfl, hb5, hP5⟩
  obtain ⟨qad, qcc, QA, QC, rfl, hQ5⟩ := hP5.out
  obtain ⟨Q, hQ⟩ : ∃ Q, Q = tuL T.length (ptLen T) (ptXX T) (ptYY T) (ptKK T) zk := ⟨_, rfl⟩
  rw [← hQ] at hQ5
  have HOkQ : Hid (OutOk T.length (fun j => (Q j).length) (fun j => ptX (Q j)) (fun j => ptY (Q j)) (fun j => kd (Q j))) := by unfold Hid; rw [hQ]; exact ok_turn HOk.out zk
  have HArQ : Hid (∀ i j, Num.areaV (traceL (fun j => (Q j).length) (fun j => ptX (Q j)) (fun j => ptY (Q j)) (fun j => kd (Q j)) ⟨ma, mb, mc, md, mx, my⟩) T.length i j = Num.areaV R T.length i j) := fun i j => by rw [hQ, HR.out]; exact area_turn HOk.out HMp.out.2 zk i j
  have hs5 := hb5.size
  have HQ5 := hide hQ5
  have HO5 := hide (HO4.out.below hb5)
  have HM5 := hide (row_below HM4.out hb5 hm4l)
  have HB5 := hide (HB4.out.trans (hb5.mono (by have := HB4.out.size; omega)))
  clear hb5 hP5 hQ5 hQ HTu HO4 HM4 hm4l
  have HBa := hide (kbackwards_any qad T.length qcc QA QC (fun j => (Q j).length) (fun j => ptX (Q j)) (fun j => ptY (Q j)) (fun j => kd (Q j)) w5 hT4 (fun j hj => ⟨(HOkQ.out.2 j hj).1, (HOkQ.out.2 j hj).2.1⟩) HQ5.out)
  go_wp2_with fail
  refine HBa.out.mono ?_
  rintro e w6 ⟨vb, VB, rfl, hb6, hP6⟩
  obtain ⟨bad, bcc, BA, BC, rfl, hQ6⟩ := hP6.out
  obtain ⟨P, hP⟩ : ∃ P, P = bkL (fun j => (Q j).length) (fun j => ptX (Q j)) (fun j => ptY (Q j)) (fun j => kd (Q j)) := ⟨_, rfl⟩
  rw [← hP] at hQ6
  have HOkP : Hid (OutOk T.length (fun j => (P j).length) (fun j => ptX (P j)) (fun j => ptY (P j)) (fun j => kd (P j))) := by unfold Hid; rw [hP]; exact ok_back HOkQ.out
  have HArP : Hid (∀ i j, Num.areaV (traceL (fun j => (P j).length) (fun j => ptX (P j)) (fun j => ptY (P j)) (fun j => kd (P j)) ⟨ma, mb, mc, md, mx, my⟩) T.length i j = -Num.areaV R T.length i j) := fun i j => by rw [hP, ← HArQ.out]; exact area_back HOkQ.out HMp.out.2 i j
  have hs6 := hb6.size
  have HP6 := hide hQ6
  have HQ6 := hide (HQ5.out.below hb6)
  have HO6 := hide (HO5.out.below hb6)
  have hM6 := row_below HM5.out hb6 HM5.out.lt
  have HB6 := hide (HB5.out.trans (hb6.mono (by have := HB5.out.size; omega)))
  obtain ⟨d0, d1, d2, d3, d4, d5⟩ := mp6_cells hM6
  have hM6l := hM6.lt
  have HM6 := hide hM6
  clear hb6 hP6 hQ6 hP HBa HO5 HQ5 HM5 hM6
  have HE1 := hide (ok_trace HOk.out HMp.out.1 HMp.out.2)
  have HEq := hide (ok_trace HOkQ.out HMp.out.1 HMp.out.2)
  have HEp := hide (ok_trace HOkP.out HMp.out.1 HMp.out.2)
  obtain ⟨px, hpx⟩ : ∃ l, l = pixL (renA R T.length) 0 0 W wh := ⟨_, rfl⟩
  have hpl : px.length = wh := by rw [hpx, pixL_len]
  have HS1 := hide (kshown_any W H pad T.length pcc PA PC (ptLen T) (ptXX T) (ptYY T) (ptKK T) ma mb mc md mx my w6 hW1 hH1 (by omega) HLen.out HO6.out HE1.out)
  rw [← HR.out, ← HWh.out, ← hpx] at HS1
  have HPx := hide hpx
  clear hpx
  go_wp2_with fail
  refine HS1.out.mono ?_
  rintro e w7 ⟨v7, rfl, hb7, ao7, cap7, rfl, hbt7⟩
  have hs7 := hb7.size
  obtain ⟨W7, hW7⟩ : ∃ W7, W7 = w7.alloc (.cells #[.int .i64 W, .int .i64 H, .slice ao7 wh cap7] 90) := ⟨_, rfl⟩
  have hbW7 : Below w7.heap.size w7 W7 := by rw [hW7]; exact (Below.refl _ _).alloc (Nat.le_refl _) _
  have hb77 : Below w6.heap.size w6 W7 := hb7.trans (hbW7.mono hs7)
  have hg7 : W7.rowIs w7.heap.size 90 3 (gr3 W H (.slice ao7 wh cap7)) := by rw [hW7]; exact gr3_row _ _ _ _ _
  obtain ⟨g7, hg7e⟩ : ∃ g, g = w7.heap.size := ⟨_, rfl⟩
  rw [← hg7e] at hg7
  have HW7 := hide (And.intro hW7 hg7e)
  have HG7 := hide hg7
  have hg7l := hg7.lt
  have HBt7 := hide (hbt7.below hbW7)
  have HQ7 := hide (HQ6.out.below hb77)
  have HP7 := hide (HP6.out.below hb77)
  have HO7 := hide (HO6.out.below hb77)
  have HB7 := hide (HB6.out.trans (hb77.mono (by have := HB6.out.size; omega)))
  have hM7w := row_below HM6.out hb7 hM6l
  have HM7 := hide (row_below HM6.out hb77 hM6l)
  clear d0 d1 d2 d3 d4 d5
  obtain ⟨d0, d1, d2, d3, d4, d5⟩ := mp6_cells hM7w
  have hM7l := hM7w.lt
  clear hb7 hbt7 hbW7 hb77 hg7 hW7 hg7e HS1 HQ6 HP6 HO6 HM6 hM7w hM6l
  have HS2 := hide (kshown_any W H qad T.length qcc QA QC (fun j => (Q j).length) (fun j => ptX (Q j)) (fun j => ptY (Q j)) (fun j => kd (Q j)) ma mb mc md mx my W7 hW1 hH1 (by omega) (fun j hj => by have := (HOkQ.out.2 j hj).2.1; simp only at this ⊢; omega) HQ7.out HEq.out)
  rw [← HWh.out, pixL_same (B := renA R T.length) (fun i j => by unfold renA; rw [HArQ.out]), ← HPx.out] at HS2
  go_wp2_with fail
  rw [← HW7.out.1]
  try rw [← HW7.out.2]
  refine HS2.out.mono ?_
  rintro e w8 ⟨v8, rfl, hb8, ao8, cap8, rfl, hbt8⟩
  have hs8 := hb8.size
  obtain ⟨W8, hW8⟩ : ∃ W8, W8 = w8.alloc (.cells #[.int .i64 W, .int .i64 H, .slice ao8 wh cap8] 90) := ⟨_, rfl⟩
  have hbW8 : Below w8.heap.size w8 W8 := by rw [hW8]; exact (Below.refl _ _).alloc (Nat.le_refl _) _
  have hb88 : Below W7.heap.size W7 W8 := hb8.trans (hbW8.mono hs8)
  have hg8 : W8.rowIs w8.heap.size 90 3 (gr3 W H (.slice ao8 wh cap8)) := by rw [hW8]; exact gr3_row _ _ _ _ _
  obtain ⟨g8, hg8e⟩ : ∃ g, g = w8.heap.size := ⟨_, rfl⟩
  rw [← hg8e] at hg8
  have HW8 := hide (And.intro hW8 hg8e)
  have HG8 := hide hg8
  have hg8l := hg8.lt
  have HG78 := hide (row_below HG7.out hb88 hg7l)
  have HBt8 := hide (hbt8.below hbW8)
  have HBt78 := hide (HBt7.out.below hb88)
  have HP8 := hide (HP7.out.below hb88)
  have HO8 := hide (HO7.out.below hb88)
  have HB8 := hide (HB7.out.trans (hb88.mono (by have := HB7.out.size; omega)))
  have hM8w := row_below HM7.out hb8 HM7.out.lt
  have HM8 := hide (row_below HM7.out hb88 HM7.out.lt)
  clear d0 d1 d2 d3 d4 d5
  obtain ⟨d0, d1, d2, d3, d4, d5⟩ := mp6_cells hM8w
  have hM8l := hM8w.lt
  clear hb8 hbt8 hbW8 hb88 hg8 hW8 hg8e HS2 HQ7 HP7 HO7 HM7 hM8w hM7l HW7 HG7 HBt7 hg7l
  have HS3 := hide (kshown_any W H bad T.length bcc BA BC (fun j => (P j).length) (fun j => ptX (P j)) (fun j => ptY (P j)) (fun j => kd (P j)) ma mb mc md mx my W8 hW1 hH1 (by omega) (fun j hj => by have := (HOkP.out.2 j hj).2.1; simp only at this ⊢; omega) HP8.out HEp.out)
  rw [← HWh.out, pixL_same (B := renA R T.length) (fun i j => by unfold renA; rw [HArP.out, byteV_neg]), ← HPx.out] at HS3
  go_wp2_with fail
  rw [← HW8.out.1]
  try rw [← HW8.out.2]
  refine HS3.out.mono ?_
  rintro e w9 ⟨v9, rfl, hb9, ao9, cap9, rfl, hbt9⟩
  have hs9 := hb9.size
  obtain ⟨W9, hW9⟩ : ∃ W9, W9 = w9.alloc (.cells #[.int .i64 W, .int .i64 H, .slice ao9 wh cap9] 90) := ⟨_, rfl⟩
  have hbW9 : Below w9.heap.size w9 W9 := by rw [hW9]; exact (Below.refl _ _).alloc (Nat.le_refl _) _
  have hb99 : Below W8.heap.size W8 W9 := hb9.trans (hbW9.mono hs9)
  have hg9 : W9.rowIs w9.heap.size 90 3 (gr3 W H (.slice ao9 wh cap9)) := by rw [hW9]; exact gr3_row _ _ _ _ _
  obtain ⟨g9, hg9e⟩ : ∃ g, g = w9.heap.size := ⟨_, rfl⟩
  rw [← hg9e] at hg9
  have HW9 := hide (And.intro hW9 hg9e)
  have HG9 := hide hg9
  have hg9l := hg9.lt
  have HG79 := hide (row_below HG78.out hb99 HG78.out.lt)
  have HG89 := hide (row_below HG8.out hb99 hg8l)
  have HBt9 := hide (hbt9.below hbW9)
  have HBt79 := hide (HBt78.out.below hb99)
  have HBt89 := hide (HBt8.out.below hb99)
  have HO9 := hide (HO8.out.below hb99)
  have HB9 := hide (HB8.out.trans (hb99.mono (by have := HB8.out.size; omega)))
  have hM9w := row_below HM8.out hb9 HM8.out.lt
  have HM9 := hide (row_below HM8.out hb99 HM8.out.lt)
  clear d0 d1 d2 d3 d4 d5
  obtain ⟨d0, d1, d2, d3, d4, d5⟩ := mp6_cells hM9w
  have hM9l := hM9w.lt
  clear hb9 hbt9 hbW9 hb99 hg9 hW9 hg9e HS3 HP8 HO8 HM8 hM9w hM8l HW8 HG8 HBt8 hg8l HG78 HBt78
  have HLd := hide (fun w' (hb : Below W9.heap.size W9 w') => laid_any W H st pad T.length pcc PA PC (ptLen T) (ptXX T) (ptYY T) (ptKK T) ma mb mc md mx my w' hW1 hH1 hst2 (by omega) HLen.out (HO9.out.below hb) HE1.out)
  rw [← HR.out] at HLd
  go_wp2_with fail
  rw [← HW9.out.1]
  try rw [← HW9.out.2]
  clear d0 d1 d2 d3 d4 d5 hM9l HW9
  obtain ⟨d0, d1, d2, d3, d4, d5⟩ := mp6_cells HM9.out
  have hM9l := HM9.out.lt
  go_region_with (first | (go_at_call 21; refine (HPs.out _).mono ?_; rintro e w' ⟨rfl, hw'⟩; rw [hw']; clear hw') | (go_at_call 28; refine (HLd.out _ (by first | exact Below.refl _ _ | exact (Below.refl _ _).drew)).mono ?_; rintro e w10 ⟨bk, S, rfl, hb10, hC10, hS10⟩))
  all_goals
    have hdr : W9.drew.heap.size = W9.heap.size := rfl
    have hs10 := hb10.size
    have hb90 : Below W9.heap.size W9 w10 := ((Below.refl _ _).drew).trans (hb10.mono (Nat.le_of_eq hdr.symm))
    have HC10 := hide hC10
    have HB10 := hide (HB9.out.trans (hb90.mono (by have := HB9.out.size; omega)))
    have HG70 := hide (row_below HG79.out hb90 HG79.out.lt)
    have HG80 := hide (row_below HG89.out hb90 HG89.out.lt)
    have HG90 := hide (row_below HG9.out hb90 hg9l)
    have HBt70 := hide (HBt79.out.below hb90)
    have HBt80 := hide (HBt89.out.below hb90)
    have HBt90 := hide (HBt9.out.below hb90)
    clear hb10 hC10 hS10 hb90 hdr HLd HO9 d0 d1 d2 d3 d4 d5 hM9l HM9 HG79 HG89 HG9 HBt79 HBt89 HBt9
    obtain ⟨qi, hqi⟩ : ∃ q, q = at' % W := ⟨_, rfl⟩
    obtain ⟨qj, hqj⟩ : ∃ q, q = at' / W := ⟨_, rfl⟩
    have HByte : Hid (∃ h : at' < px.length, px[at'] = byteV (Num.areaV R T.length qi qj)) := by
      refine ⟨by omega, ?_⟩
      have e := HPx.out
      rw [hqi, hqj]
      subst e
      simp [pixL, renA]
    rw [← hqi] at hqm HQm
    rw [← hqj] at hqd HQd
    clear hqi hqj
    have hAe : areaE W H qi qj = 0 := by unfold areaE; rw [if_pos (by omega)]
    have hAn : areaN W H (fun i j => Num.areaV R T.length i j) qi qj = Num.areaV R T.length qi qj := by unfold areaN; rw [if_pos (by omega)]; simp
    have HAr := hide (fun w' (hb : Below w10.heap.size w10 w') => glyphArea_any bk W H 1 _ _ _ _ qi qj _ w' (HC10.out.below hb) hW1 hH1 (by omega))
    rw [hAe, hAn] at HAr
    have h3 := Num.areaV_bd (L := R) (N := T.length) (M := 44400) (qi : Int) (qj : Int) (fun q hq => (HFa.out.2 q hq).1)
    have h4 : -1500000000 ≤ Num.areaV R T.length qi qj ∧ Num.areaV R T.length qi qj ≤ 1500000000 := by omega
    obtain ⟨V, hV⟩ : ∃ Z, Z = Num.areaV R T.length qi qj := ⟨_, rfl⟩
    rw [← hV] at HAr h4 HByte
    have HSh := hide (fun w' => shade_any V w' (by omega) (by omega))
    clear hV h3 hAe hAn HC10
    have hn0 : ¬ (W : Int) = 0 := by omega
    have hn1 : ¬ W = 0 := by omega
    have hn2 : ((W : Int) == 0) = false := by simp; omega
    have hqm1 := HQm.out
    have hqd1 := HQd.out
    have hw2 : IntKind.i64.wrap (qi : Int) = (qi : Int) := wrap_ok _ (by omega) (by omega)
    have hw3 : IntKind.i64.wrap (qj : Int) = (qj : Int) := wrap_ok _ (by omega) (by omega)
    go_wp2_with fail
    refine (HPa.out _).mono ?_
    rintro e w' ⟨rfl, hw'⟩
    rw [hw']
    clear hw'
    go_wp2_with fail
    go_region_with (go_at_call 38; refine (HAr.out _ (by first | exact Below.refl _ _ | exact (Below.refl _ _).drew)).mono ?_; rintro e w11 ⟨rfl, hb11⟩)
    all_goals
      have hdr : w10.drew.heap.size = w10.heap.size := rfl
      have hs11 := hb11.size
      have hb01 : Below w10.heap.size w10 w11 := ((Below.refl _ _).drew).trans (hb11.mono (Nat.le_of_eq hdr.symm))
      have HB11 := hide (HB10.out.trans (hb01.mono (by have := HB10.out.size; omega)))
      have HG71 := hide (row_below HG70.out hb01 HG70.out.lt)
      have HG81 := hide (row_below HG80.out hb01 HG80.out.lt)
      have HG91 := hide (row_below HG90.out hb01 HG90.out.lt)
      have HBt71 := hide (HBt70.out.below hb01)
      have HBt81 := hide (HBt80.out.below hb01)
      have HBt91 := hide (HBt90.out.below hb01)
      clear hb11 hdr hb01 HAr HG70 HG80 HG90 HBt70 HBt80 HBt90 hn0 hn1 hn2 hqm1 hqd1 hw2 hw3
      go_wp2_with fail
      refine (HSh.out _).mono ?_
      rintro e w' ⟨rfl, hw'⟩
      rw [hw']
      clear hw'
      obtain ⟨_, _, k7⟩ := gr3_cells HG71.out
      obtain ⟨_, _, k8⟩ := gr3_cells HG81.out
      obtain ⟨_, _, k9⟩ := gr3_cells HG91.out
      have hl7 := HG71.out.lt
      have hl8 := HG81.out.lt
      have hl9 := HG91.out.lt
      have HSm1 := hide (fun nd => ksamePix_any ao7 ao8 cap7 cap8 px (w11.drewN nd) (by omega) (HBt71.out.below (below_drewN (Below.refl _ _) _)) (HBt81.out.below (below_drewN (Below.refl _ _) _)))
      have HSm2 := hide (fun nd => ksamePix_any ao7 ao9 cap7 cap9 px (w11.drewN nd) (by omega) (HBt71.out.below (below_drewN (Below.refl _ _) _)) (HBt91.out.below (below_drewN (Below.refl _ _) _)))
      rw [hpl] at HSm1 HSm2
      go_wp2_with fail
      refine (HSm1.out 0).mono ?_
      rintro e w' ⟨rfl, nd1, hw'⟩
      rw [hw']
      clear hw'
      go_wp2_with fail
      refine (HSm2.out _).mono ?_
      rintro e w' ⟨rfl, nd2, hw'⟩
      rw [hw']
      clear hw'
      obtain ⟨hap, hbyte⟩ := HByte.out
      rcases HBt71.out with h0 | ⟨gp, rfl, hcp⟩
      · rw [h0] at hap; simp at hap
      have kp := hcp at' hap
      rw [hbyte] at kp
      have hlp : gp < w11.heap.size := World.block_lt_of_cell? w11 _ kp
      have a0 : (0 : Int) ≤ (at' : Int) := by omega
      have a1 : (at' : Int) < (wh : Int) := by omega
      clear hcp hbyte hap
      go_wp2
      go_ret
      exact ⟨rfl, below_drewN HB11.out _⟩
end Go.Proofs.Ytkhcjkmifddlbaa
