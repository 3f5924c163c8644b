/- Joined: FlC, ClsY, ClsZ. -/
import Derived.Test.YtkhcjkmifddlbaaPart10
/- FlC -/
namespace Go.Proofs.Ytkhcjkmifddlbaa
open Go.RowKit Go.Deep

/-- The tame outline of an argument, and its trace. -/
def tameL (n : Nat → Nat) (X Y K : Nat → Nat → Int) (N : Nat) : List (List (Int × Int × Int)) := tmO openF n X Y K N
def tameM (a b c d x y : Int) : Num.Mp := ⟨nearV a 2047, nearV b 2047, nearV c 2047, nearV d 2047, nearV x 4095, nearV y 4095⟩
def ptLen (T : List (List (Int × Int × Int))) (j : Nat) : Nat := (nth T j).length
def ptXX (T : List (List (Int × Int × Int))) (j : Nat) : Nat → Int := ptX (nth T j)
def ptYY (T : List (List (Int × Int × Int))) (j : Nat) : Nat → Int := ptY (nth T j)
def ptKK (T : List (List (Int × Int × Int))) (j : Nat) : Nat → Int := kd (nth T j)
theorem nth_mem {T : List (List (Int × Int × Int))} {j : Nat} (h : j < T.length) : nth T j ∈ T := by unfold nth; simp [h]
theorem openF_ok : openF.Ok := by unfold Fd.Ok openF; simp
/-- What a tame outline is like. -/
theorem tameL_facts (n : Nat → Nat) (X Y K : Nat → Nat → Int) (N : Nat) {j : Nat} (hj : j < (tameL n X Y K N).length) : 2 ≤ (nth (tameL n X Y K N) j).length ∧ (nth (tameL n X Y K N) j).length ≤ 48 ∧ KOk (nth (tameL n X Y K N) j) ∧ PtIn (-2047) 2047 (-2047) 2047 (nth (tameL n X Y K N) j) := by
  obtain ⟨c, hc, e⟩ := tmO_mem openF n X Y K N _ (nth_mem hj)
  have h := tmR_facts openF (by simp [openF]) (by simp [openF]) (X c) (Y c) (K c) hc
  rw [← e] at h
  exact h
theorem tame_trace (n : Nat → Nat) (X Y K : Nat → Nat → Int) (N : Nat) (a b c d x y : Int) : traceE (tameL n X Y K N).length (ptLen (tameL n X Y K N)) (ptXX (tameL n X Y K N)) (ptYY (tameL n X Y K N)) (ptKK (tameL n X Y K N)) (tameM a b c d x y) = 0 := by
  have hx := nearV_rng x 4095 (by omega)
  have hy := nearV_rng y 4095 (by omega)
  obtain ⟨hf, hm⟩ := tame_map (x := nearV x 4095) (y := nearV y 4095) (nearV_rng a 2047 (by omega)) (nearV_rng b 2047 (by omega)) (nearV_rng c 2047 (by omega)) (nearV_rng d 2047 (by omega)) (by omega) (by omega)
  exact tame_ok (B := 2047) (tmO_len _ _ _ _ _ _) (fun j hj => tameL_facts n X Y K N hj) (by omega) hf hm
theorem tame_pos (n : Nat → Nat) (X Y K : Nat → Nat → Int) (N : Nat) (a b c d x y : Int) {j : Nat} (hj : j < (tameL n X Y K N).length) : 0 < (traceL (ptLen (tameL n X Y K N)) (ptXX (tameL n X Y K N)) (ptYY (tameL n X Y K N)) (ptKK (tameL n X Y K N)) (tameM a b c d x y) j).length :=
  trace_pos (tame_trace n X Y K N a b c d x y) (fun _ hj => ⟨(tameL_facts n X Y K N hj).1, kok_bad (tameL_facts n X Y K N hj).2.2.1⟩) hj
theorem outF_one (F : Int → Int → Int → Int → Int) (R : Nat → List (Int × Int)) (r : Nat) : Num.outF F R (r + 1) = Num.outF F R r + Num.ringF F (R r) := rfl
theorem crossF_bd (l : List (Int × Int)) (i j : Int) (k : Nat) : -(k : Int) ≤ Num.sumZ (Num.chF (Num.chX i j) l) k ∧ Num.sumZ (Num.chF (Num.chX i j) l) k ≤ (k : Int) := by
  have h := Num.sumZ_bd (f := Num.chF (Num.chX i j) l) (B := 1) k (fun q _ => Num.cross_bd _ _ _ _ _ _)
  omega
theorem crossO_bd (R : Nat → List (Int × Int)) (i j : Int) {m : Nat} (h : ∀ q, q < m → (R q).length ≤ 44400) (r : Nat) (hr : r ≤ m) : -(44400 * (r : Int)) ≤ Num.outF (Num.chX i j) R r ∧ Num.outF (Num.chX i j) R r ≤ 44400 * (r : Int) :=
  Num.sumZ_bd (f := fun q => Num.ringF (Num.chX i j) (R q)) (B := 44400) r (fun q hq => by
    have h1 := crossF_bd (R q) i j (R q).length
    have h2 := h q (by omega)
    unfold Num.ringF
    omega)
theorem inS_of {R : List (Int × Int)} (h : ∀ p ∈ R, Num.inB p.1 p.2 = true) {k : Nat} (hk : k < R.length) : InS R[k].1 R[k].2 := Num.inB_yes (h _ (List.getElem_mem hk))

set_option maxRecDepth 100000 in
set_option maxHeartbeats 8000000 in
theorem kflat_any (ad : Option Addr) (N cc : Nat) (A : Nat → Option Addr) (C n : Nat → Nat) (X Y K : Nat → Nat → Int) (a b c d x y zw zh zi zj zs : Int) (w : World) (hN : (N : Int) ≤ 9223372036854775807) (ho : OutAt w ad N A C n X Y K)
    (hX : ∀ j i, -9223372036854775808 ≤ X j i ∧ X j i ≤ 9223372036854775807) (hY : ∀ j i, -9223372036854775808 ≤ Y j i ∧ Y j i ≤ 9223372036854775807) (hK : ∀ j i, -9223372036854775808 ≤ K j i ∧ K j i ≤ 9223372036854775807)
    (hw : -9223372036854775808 ≤ zw ∧ zw ≤ 9223372036854775807) (hh : -9223372036854775808 ≤ zh ∧ zh ≤ 9223372036854775807) (hi : -9223372036854775808 ≤ zi ∧ zi ≤ 9223372036854775807) (hj : -9223372036854775808 ≤ zj ∧ zj ≤ 9223372036854775807) (hst : -9223372036854775808 ≤ zs ∧ zs ≤ 9223372036854775807) :
    Calls Try.prog 10 #[.slice ad N cc, .agg #[.int .i64 a, .int .i64 b, .int .i64 c, .int .i64 d, .int .i64 x, .int .i64 y], .int .i64 zw, .int .i64 zh, .int .i64 zi, .int .i64 zj, .int .i64 zs] w fun e w' => e = .returned (.bool true) ∧ Below w.heap.size w w' := by
  obtain ⟨W, hW⟩ : ∃ W, W = windowN zw := ⟨_, rfl⟩
  obtain ⟨H, hH⟩ : ∃ H, H = windowN zh := ⟨_, rfl⟩
  have hW1 : 1 ≤ W ∧ W ≤ 64 := by rw [hW]; exact (windowN_rng zw).1
  have hH1 : 1 ≤ H ∧ H ≤ 64 := by rw [hH]; exact (windowN_rng zh).1
  have rI := pickV_rng zi (W : Int) (by omega)
  have rJ := pickV_rng zj (H : Int) (by omega)
  obtain ⟨I, hI⟩ : ∃ I : Nat, (I : Int) = pickV zi W := ⟨(pickV zi W).toNat, by omega⟩
  obtain ⟨J, hJ⟩ : ∃ J : Nat, (J : Int) = pickV zj H := ⟨(pickV zj H).toNat, by omega⟩
  have hIW : I < W := by omega
  have hJH : J < H := by omega
  have rS := pickV_rng zs 2 (by omega)
  obtain ⟨st, hstv⟩ : ∃ st, st = pickV zs 2 := ⟨_, rfl⟩
  have hst2 : st = 0 ∨ st = 1 := by omega
  obtain ⟨T, hT⟩ : ∃ T, T = tameL n X Y K N := ⟨_, rfl⟩
  have HE := hide (tame_trace n X Y K N a b c d x y)
  have HPos : Hid (∀ j, j < T.length → 0 < (traceL (ptLen T) (ptXX T) (ptYY T) (ptKK T) (tameM a b c d x y) j).length) := fun j hj => by rw [hT] at hj ⊢; exact tame_pos n X Y K N a b c d x y hj
  rw [← hT] at HE
  have HFa := hide (trace_facts HE.out)
  have HLen : Hid (∀ j, j < T.length → ptLen T j ≤ 4294967296) := fun j hj => by rw [hT] at hj ⊢; have := (tameL_facts n X Y K N hj).2.1; unfold ptLen; omega
  have hT4 : T.length ≤ 4 := by rw [hT]; exact tmO_len _ _ _ _ _ _
  obtain ⟨R, hR⟩ : ∃ R, R = traceL (ptLen T) (ptXX T) (ptYY T) (ptKK T) (tameM a b c d x y) := ⟨_, rfl⟩
  have HR := hide hR
  rw [← hR] at HPos HFa
  obtain ⟨ma, hma⟩ : ∃ z, z = nearV a 2047 := ⟨_, rfl⟩
  obtain ⟨mb, hmb⟩ : ∃ z, z = nearV b 2047 := ⟨_, rfl⟩
  obtain ⟨mc, hmc⟩ : ∃ z, z = nearV c 2047 := ⟨_, rfl⟩
  obtain ⟨md, hmd⟩ : ∃ z, z = nearV d 2047 := ⟨_, rfl⟩
  obtain ⟨mx, hmx⟩ : ∃ z, z = nearV x 4095 := ⟨_, rfl⟩
  obtain ⟨my, hmy⟩ : ∃ z, z = nearV y 4095 := ⟨_, rfl⟩
  have hTM : tameM a b c d x y = ⟨ma, mb, mc, md, mx, my⟩ := by unfold tameM; rw [hma, hmb, hmc, hmd, hmx, hmy]
  have HMap := hide (fun w => ktameMap_any a b c d x y w)
  rw [← hma, ← hmb, ← hmc, ← hmd, ← hmx, ← hmy] at HMap
  rw [hTM] at HE HR
  have HTame := hide (fun w' (h : OutAt w' ad N A C n X Y K) => ktame_any (-2047) 4095 (-2047) 4095 ad N cc A C n X Y K w' openF_ok hN h hX hY hK)
  have HTT : Hid (tmO ⟨-2047, 4095, -2047, 4095⟩ n X Y K N = T) := hT.symm
  rw [HTT.out] at HTame
  have HWin := hide (fun w => window_any zw w hw.1 hw.2)
  have HWih := hide (fun w => window_any zh w hh.1 hh.2)
  rw [← hW] at HWin
  rw [← hH] at HWih
  have HPi := hide (fun w => pick_any zi (W : Int) w hi.1 hi.2 (by omega))
  have HPj := hide (fun w => pick_any zj (H : Int) w hj.1 hj.2 (by omega))
  have HPs := hide (fun w => pick_any zs 2 w hst.1 hst.2 (by omega))
  rw [← hI] at HPi
  rw [← hJ] at HPj
  rw [← hstv] at HPs
  have hI64 : I < 64 := by omega
  have hJ64 : J < 64 := by omega
  have HO := hide ho
  have HMr := hide (mp6_row a b c d x y w 39)
  have HB1 : Hid (Below w.heap.size w (w.alloc (.cells #[.int .i64 a, .int .i64 b, .int .i64 c, .int .i64 d, .int .i64 x, .int .i64 y] 39))) := (Below.refl _ _).alloc (Nat.le_refl _) _
  clear ho hX hY hK hW hH hI hJ hstv hT hR hma hmb hmc hmd hmx hmy hTM rI rJ rS HTT hw hh hi hj hst
  go_enter Try.func10, Try.ntmps10
  go_wp2_with fail
  obtain ⟨W1, hW1e⟩ : ∃ W1, W1 = w.alloc (.cells #[.int .i64 a, .int .i64 b, .int .i64 c, .int .i64 d, .int .i64 x, .int .i64 y] 39) := ⟨_, rfl⟩
  rw [← hW1e] at HMr HB1 ⊢
  have hs1 : W1.heap.size = w.heap.size + 1 := by rw [hW1e]; simp
  clear hW1e
  refine (kopen_any W1).mono ?_
  rintro e w2 ⟨rfl, hb2⟩
  have hs2 := hb2.size
  obtain ⟨W2, hW2⟩ : ∃ W2, W2 = w2.alloc (.cells #[.int .i64 (-2047), .int .i64 4095, .int .i64 (-2047), .int .i64 4095] 72) := ⟨_, rfl⟩
  have hb22 : Below w2.heap.size w2 W2 := by rw [hW2]; exact (Below.refl _ _).alloc (Nat.le_refl _) _
  have hsW2 : W2.heap.size = w2.heap.size + 1 := by rw [hW2]; simp
  have hb12 : Below W1.heap.size W1 W2 := hb2.trans (hb22.mono hs2)
  have HM2 := hide (row_below HMr.out hb12 (by omega))
  have HB2 := hide (HB1.out.trans (hb12.mono (by omega)))
  have HW2 := hide hW2
  clear hb2 hb22 hb12 hW2
  go_wp2_with fail
  rw [← HW2.out]
  refine (HTame.out W2 (HO.out.below HB2.out)).mono ?_
  rintro e w3 ⟨v, V, rfl, hb3, hP3⟩
  obtain ⟨pad, pcc, PA, PC, rfl, hO3⟩ := hP3.out
  have hs3 := hb3.size
  have hM3 := row_below HM2.out hb3 (by omega)
  obtain ⟨d0, d1, d2, d3, d4, d5⟩ := mp6_cells hM3
  have hM3l := hM3.lt
  have hO3' : OutAt w3 pad T.length PA PC (ptLen T) (ptXX T) (ptYY T) (ptKK T) := hO3
  have HO3 := hide hO3'
  have HB3 := hide (HB2.out.trans (hb3.mono (by omega)))
  clear hb3 hP3 hO3 hO3' hM3 HTame HW2
  go_wp2_with fail
  refine (HMap.out w3).mono ?_
  rintro e w4 ⟨rfl, hb4⟩
  have hs4 := hb4.size
  obtain ⟨W4, hW4⟩ : ∃ W4, W4 = w4.alloc (.cells #[.int .i64 ma, .int .i64 mb, .int .i64 mc, .int .i64 md, .int .i64 mx, .int .i64 my] 39) := ⟨_, rfl⟩
  have hb44 : Below w4.heap.size w4 W4 := by rw [hW4]; exact (Below.refl _ _).alloc (Nat.le_refl _) _
  have hb34 : Below w3.heap.size w3 W4 := hb4.trans (hb44.mono hs4)
  have hsW4 : W4.heap.size = w4.heap.size + 1 := by rw [hW4]; simp
  obtain ⟨mb4, hmb4⟩ : ∃ q, q = w4.heap.size := ⟨_, rfl⟩
  have HM4 : Hid (W4.rowIs mb4 39 6 (mp6 ma mb mc md mx my)) := by unfold Hid; rw [hW4, hmb4]; exact mp6_row ma mb mc md mx my w4 39
  have HO4 := hide (HO3.out.below hb34)
  have HB4 := hide (HB3.out.trans (hb34.mono (by omega)))
  have HW4 := hide (And.intro hW4 hmb4)
  have hm4l : mb4 < W4.heap.size := by omega
  clear d0 d1 d2 d3 d4 d5 hb4 hb44 hb34 hW4 hsW4 hmb4 hM3l HO3 HM2
  go_wp2_with fail
  rw [← HW4.out.1]
  try rw [← HW4.out.2]
  refine (HWin.out _).mono ?_
  rintro e w' ⟨rfl, hw'⟩
  rw [hw']
  clear hw'
  go_wp2_with fail
  refine (HWih.out _).mono ?_
  rintro e w' ⟨rfl, hw'⟩
  rw [hw']
  clear hw'
  go_wp2_with fail
  refine (HPi.out _).mono ?_
  rintro e w' ⟨rfl, hw'⟩
  rw [hw']
  clear hw'
  go_wp2_with fail
  refine (HPj.out _).mono ?_
  rintro e w' ⟨rfl, hw'⟩
  rw [hw']
  clear hw' HWin HWih HPi HPj HMap HW4
  obtain ⟨d0, d1, d2, d3, d4, d5⟩ := mp6_cells HM4.out
  have HTrc := hide (ktraced_any pad T.length pcc PA PC (ptLen T) (ptXX T) (ptYY T) (ptKK T) ma mb mc md mx my W4 (by omega) HLen.out HO4.out HE.out (by rw [← HR.out]; exact HPos.out))
  rw [← HR.out] at HTrc
  go_wp2_with fail
  refine HTrc.out.mono ?_
  rintro e w5 ⟨vl, VL, rfl, hb5, hS5⟩
  obtain ⟨la, lcap, rfl, hla⟩ := owns_formN hS5.outer
  have hs5 := hb5.size
  have HS5 := hide hS5
  have HLa := hide hla
  have HO5 := hide (HO4.out.below hb5)
  have HB5 := hide (HB4.out.trans (hb5.mono (by have := HB4.out.size; omega)))
  have hM5 := row_below HM4.out hb5 hm4l
  clear d0 d1 d2 d3 d4 d5
  obtain ⟨d0, d1, d2, d3, d4, d5⟩ := mp6_cells hM5
  have hm5l := hM5.lt
  have HLd := hide (fun w' (hb : Below w5.heap.size w5 w') => laid_any W H st pad T.length pcc PA PC (ptLen T) (ptXX T) (ptYY T) (ptKK T) ma mb mc md mx my w' hW1 hH1 hst2 (by omega) HLen.out (HO5.out.below hb) HE.out)
  rw [← HR.out] at HLd
  clear hb5 hS5 hla hM5 HTrc HO4 HM4
  go_wp2_with fail
  go_region_with (first | (go_at_call 21; refine (HPs.out _).mono ?_; rintro e w' ⟨rfl, hw'⟩; rw [hw']; clear hw') | (go_at_call 28; refine (HLd.out _ (by first | exact Below.refl _ _ | exact (Below.refl _ _).drew)).mono ?_; rintro e w6 ⟨bk, S, rfl, hb6, hC6, hS6⟩))
  all_goals
    have hdr : w5.drew.heap.size = w5.heap.size := rfl
    have hs6 := hb6.size
    have hb56 : Below w5.heap.size w5 w6 := ((Below.refl _ _).drew).trans (hb6.mono (Nat.le_of_eq hdr.symm))
    have HS6 := hide (HS5.out.below hb56)
    have HC6 := hide hC6
    have HB6 := hide (HB5.out.trans (hb56.mono (by have := HB5.out.size; omega)))
    clear hb6 hC6 hS6 hb56 hdr HLd HO5 d0 d1 d2 d3 d4 d5
    go_wp2_with fail
    go_loopw [24, 25] (fun t24 t25 wr => ∃ r : Nat, r ≤ T.length ∧ t25 = .int .i64 r ∧ t24 = .int .i64 (Num.outF (Num.chX I J) R r) ∧ (∀ q, q < r → ∀ k, k < (R q).length → Num.chM I J (R q) k = false) ∧ Below w6.heap.size w6 wr) (fun _ t _ => T.length - (intOf t).toNat)
    case atStart => exact ⟨0, by omega, rfl, rfl, fun q hq => by omega, Below.refl _ _⟩
    case round =>
      obtain ⟨wo, rfl⟩ : ∃ wo, wo = wr := ⟨_, rfl⟩
      obtain ⟨r, hr, rfl, rfl, hno, hbo⟩ := hrel
      have hszo := hbo.size
      have HNo := hide hno
      have HBo := hide hbo
      clear hno hbo
      by_cases hlt : r < T.length
      · have hd1 : decide ((r : Int) < (T.length : Int)) = true := by simp; omega
        obtain ⟨g, rfl⟩ := HLa.out (by omega)
        obtain ⟨Z0, hZ0⟩ : ∃ Z, Z = Num.outF (Num.chX I J) R r := ⟨_, rfl⟩
        rw [← hZ0]
        have HZ0 := hide hZ0
        have HZ0b : Hid (-177600 ≤ Z0 ∧ Z0 ≤ 177600) := by
          unfold Hid
          have h1 := crossO_bd R I J (m := T.length) (fun q hq => (HFa.out.2 q hq).1) r hr
          rw [hZ0]; omega
        clear hZ0
        go_wp2_with fail
        go_loopw [24, 26] (fun t24 t26 wr => ∃ k : Nat, k ≤ (R r).length ∧ t26 = .int .i64 k ∧ t24 = .int .i64 (Z0 + Num.sumZ (Num.chF (Num.chX I J) (R r)) k) ∧ (∀ q, q < k → Num.chM I J (R r) q = false) ∧ Below w6.heap.size w6 wr) (fun _ t _ => (R r).length - (intOf t).toNat)
        case atStart => exact ⟨0, by omega, rfl, by simp [Num.sumZ], fun q hq => by omega, HBo.out⟩
        case round =>
          obtain ⟨k, hk, rfl, rfl, hnk, hbk⟩ := hrel
          have hszk := hbk.size
          have hSr := HS6.out.below hbk
          have hc := hSr.outer.cellAt r (by omega)
          rw [List.getElem?_map, List.getElem?_range hlt] at hc
          simp only [Option.map_some] at hc
          obtain ⟨ra, rc, hvr, hra⟩ := owns_formN (hSr.inner r hlt)
          rw [hvr] at hc
          have r0 : (0 : Int) ≤ (r : Int) := by omega
          have r1 : (r : Int) < (T.length : Int) := by omega
          obtain ⟨_, hRl⟩ := HFa.out
          obtain ⟨hRl1, hRin⟩ := hRl r hlt
          obtain ⟨len, hlen⟩ : ∃ len, len = (R r).length := ⟨_, rfl⟩
          by_cases hlk : k < (R r).length
          · obtain ⟨gr, rfl⟩ := hra (by omega)
            have hin := hSr.inner r hlt
            rw [hvr] at hin
            have hnx := Num.nxR_lt hlk
            have hmod := Num.nxR_mod hlk
            obtain ⟨nx, hnxe⟩ : ∃ nx, nx = Num.nxR (R r).length k := ⟨_, rfl⟩
            rw [← hnxe] at hnx hmod
            obtain ⟨c0, c1⟩ := owns_sp hin k hlk
            obtain ⟨e0, e1⟩ := owns_sp hin nx hnx
            have hP1 := inS_of hRin hlk
            have hQ1 := inS_of hRin hnx
            have HCh : Hid (Num.chM I J (R r) k = Num.meetsV (R r)[k].1 (R r)[k].2 (R r)[nx].1 (R r)[nx].2 I J) := by unfold Hid Num.chM; rw [← hnxe, Num.ats_at hlk, Num.ats_at hnx]
            have HCx : Hid (Num.chF (Num.chX I J) (R r) k = Num.crossV (R r)[k].1 (R r)[k].2 (R r)[nx].1 (R r)[nx].2 I J) := by unfold Hid Num.chF Num.chX; rw [← hnxe, Num.ats_at hlk, Num.ats_at hnx]
            obtain ⟨p, hp⟩ : ∃ p, p = (R r)[k] := ⟨_, rfl⟩
            obtain ⟨q, hq⟩ : ∃ q, q = (R r)[nx] := ⟨_, rfl⟩
            rw [← hp] at c0 c1 hP1 HCh HCx
            rw [← hq] at e0 e1 hQ1 HCh HCx
            obtain ⟨px, py⟩ := p
            obtain ⟨qx, qy⟩ := q
            simp only at c0 c1 e0 e1 hP1 hQ1 HCh HCx
            have hgl : gr < wr.heap.size := (hin.lt gr rfl).2
            have hgl2 : g < wr.heap.size := (hSr.outer.lt g rfl).2
            rw [← hlen] at hc hRl1 hlk hmod hnx hk
            have hk64 : len ≤ 44400 := hRl1
            have hdk : decide ((k : Int) < (len : Int)) = true := by simp; omega
            have j0 : (0 : Int) ≤ (k : Int) := by omega
            have j1 : (k : Int) < (len : Int) := by omega
            have j2 : (0 : Int) ≤ (nx : Int) := by omega
            have j3 : (nx : Int) < (len : Int) := by omega
            have hn0 : ¬ (len : Int) = 0 := by omega
            have hn1 : ¬ len = 0 := by omega
            have hn2 : ((len : Int) == 0) = false := by simp; omega
            have hw1 : IntKind.i64.wrap ((k : Int) + 1) = (k : Int) + 1 := wrap_ok _ (by omega) (by omega)
            have htm : ((k : Int) + 1).tmod (len : Int) = (nx : Int) := by rw [Int.tmod_eq_emod_of_nonneg (by omega), hmod]; push_cast; rfl
            have hw2 : IntKind.i64.wrap (nx : Int) = (nx : Int) := wrap_ok _ (by omega) (by omega)
            have HSt : Hid (Z0 + Num.sumZ (Num.chF (Num.chX I J) (R r)) (k + 1) = (Z0 + Num.sumZ (Num.chF (Num.chX I J) (R r)) k) + Num.crossV px py qx qy I J) := by unfold Hid; rw [← HCx.out]; simp only [Num.sumZ]; omega
            obtain ⟨Zk, hZk⟩ : ∃ Z, Z = Z0 + Num.sumZ (Num.chF (Num.chX I J) (R r)) k := ⟨_, rfl⟩
            have HZk : Hid (-1000000000 ≤ Zk ∧ Zk ≤ 1000000000) := by
              unfold Hid
              have h1 := crossF_bd (R r) I J k
              have h2 := HZ0b.out
              rw [hZk]; omega
            rw [← hZk] at HSt ⊢
            have HNk := hide hnk
            have HBk := hide hbk
            have HNx := hide (And.intro hnxe hmod)
            have HLn := hide hlen
            clear hSr hvr hra hRl hRin hin hnk hbk hp hq hZk hnxe hmod hlen
            go_wp2_with fail
            go_region
            obtain ⟨Wq, hWq⟩ : ∃ Wq, Wq = ((wr.alloc (.cells #[.int .i64 px, .int .i64 py] 41)).alloc (.cells #[.int .i64 qx, .int .i64 qy] 41)).drew := ⟨_, rfl⟩
            have hbq : Below wr.heap.size wr Wq := by rw [hWq]; (repeat (any_goals (first | exact Below.refl _ _ | assumption | refine Below.drew ?_ | refine below_drewN ?_ _ | refine Below.setCell ?_ ?_ _ | refine Below.alloc ?_ ?_ _ | omega | (simp; done) | (simp; omega))))
            have hsq : Wq.heap.size = wr.heap.size + 1 + 1 := by rw [hWq]; simp
            have hrp : Wq.rowIs wr.heap.size 41 2 (spt2 px py) := by
              rw [hWq]
              exact World.rowIs.of_block ((sp_row wr px py).alloc _) rfl
            have hrq : Wq.rowIs (wr.heap.size + 1) 41 2 (spt2 qx qy) := by
              have h := sp_row (wr.alloc (.cells #[.int .i64 px, .int .i64 py] 41)) qx qy
              rw [nblk_alloc] at h
              rw [hWq]
              exact World.rowIs.of_block h rfl
            rw [← hWq]
            obtain ⟨sp, hsp⟩ : ∃ sp, sp = wr.heap.size := ⟨_, rfl⟩
            rw [← hsp] at hrp hrq hsq
            try rw [← hsp]
            have HBq := hide (HBk.out.trans (hbq.mono hszk))
            have HRp := hide hrp
            have HRq := hide hrq
            obtain ⟨s0, s1⟩ := spt2_c hrp
            obtain ⟨t0, t1⟩ := spt2_c hrq
            have hx1 := hrp.lt
            have hx2 := hrq.lt
            have hsz6 : w6.heap.size ≤ sp := by omega
            clear hWq hbq hrp hrq hsp c0 c1 e0 e1 hc
            go_wp2_with fail
            refine (kmeets_any px py qx qy I J Wq hP1 hQ1 hI64 hJ64).mono ?_
            obtain ⟨MV, hMV⟩ : ∃ MV, MV = Num.meetsV px py qx qy I J := ⟨_, rfl⟩
            rw [← hMV]
            have HMV := hide hMV
            clear hMV
            rintro e w7 ⟨rfl, hb7⟩
            have hs7 := hb7.size
            have HB7 := hide (HBq.out.trans (hb7.mono (by omega)))
            have hrp7 := row_below HRp.out hb7 (by omega)
            have hrq7 := row_below HRq.out hb7 (by omega)
            clear s0 s1 t0 t1 hx1 hx2 hb7
            obtain ⟨s0, s1⟩ := spt2_c hrp7
            obtain ⟨t0, t1⟩ := spt2_c hrq7
            have hx1 := hrp7.lt
            have hx2 := hrq7.lt
            clear hrp7 hrq7
            cases MV
            · go_wp2_with fail
              refine (kcrosses_any px py qx qy I J w7 hP1 hQ1 hI64 hJ64).mono ?_
              have hcb := Num.cross_bd px py qx qy I J
              obtain ⟨xv, hxv⟩ : ∃ xv, xv = Num.crossV px py qx qy I J := ⟨_, rfl⟩
              rw [← hxv] at HSt hcb ⊢
              rintro e w8 ⟨rfl, hb8⟩
              have HB8 := hide (HB7.out.trans (hb8.mono (by omega)))
              clear hb8 s0 s1 t0 t1 hx1 hx2 hxv
              have hZb := HZk.out
              go_wp2
              go_roundw
              case rel =>
                refine ⟨k + 1, by have := HLn.out; omega, by go_num, ?_, fun q hq => ?_, HB8.out⟩
                · rw [HSt.out]
                · by_cases e : q = k
                  · rw [e, HCh.out, ← HMV.out]
                  · exact HNk.out q (by omega)
              case measure => have := HLn.out; simp [intOf]; omega
            · go_wp2
              go_ret
              exact ⟨rfl, HB6.out.trans (HB7.out.mono (by have := HB6.out.size; omega))⟩
          · have e : k = (R r).length := by omega
            have hkl : k = len := by omega
            rw [← hlen] at hc
            have hdk : decide ((k : Int) < (len : Int)) = false := by simp; omega
            have hgl2 : g < wr.heap.size := (hSr.outer.lt g rfl).2
            have HNr : Hid (∀ q, q < r + 1 → ∀ k, k < (R q).length → Num.chM I J (R q) k = false) := fun q hq k' hk' => by
              by_cases e2 : q = r
              · subst e2; exact hnk k' (by omega)
              · exact HNo.out q (by omega) k' hk'
            have HZr : Hid (Z0 + Num.sumZ (Num.chF (Num.chX I J) (R r)) k = Num.outF (Num.chX I J) R (r + 1)) := by unfold Hid; rw [outF_one, ← HZ0.out, e]; rfl
            have HBk := hide hbk
            obtain ⟨Zk, hZk⟩ : ∃ Z, Z = Z0 + Num.sumZ (Num.chF (Num.chX I J) (R r)) k := ⟨_, rfl⟩
            rw [← hZk] at HZr ⊢
            have hll : ¬ k < len := by omega
            clear hSr hvr hra hRl hRin hnk hbk hZk hlen e
            go_wp2
            go_roundw
            case rel => exact ⟨r + 1, by omega, by go_num, by rw [HZr.out], HNr.out, HBk.out⟩
            case measure => simp [intOf]; omega
      · have e : r = T.length := by omega
        have hd1 : decide ((r : Int) < (T.length : Int)) = false := by simp; omega
        have h1 := crossO_bd R I J (m := T.length) (fun q hq => (HFa.out.2 q hq).1) r hr
        have hfl : Num.areaV R T.length I J = 8192 * Num.outF (Num.chX I J) R r := by rw [e]; exact Num.flat_out (by rw [← e]; exact HNo.out)
        have HHold := hide (holds_any bk W H 1 I J _ _ _ _ _ wo (HC6.out.below HBo.out) hW1 hH1 (by omega) hIW hJH (fun i j _ _ => by
          have h3 := Num.areaV_bd (L := R) (N := T.length) (M := 44400) (i : Int) (j : Int) (fun q hq => (HFa.out.2 q hq).1)
          omega))
        rw [hfl] at HHold
        obtain ⟨Z, hZ⟩ : ∃ Z, Z = Num.outF (Num.chX I J) R r := ⟨_, rfl⟩
        rw [← hZ] at HHold h1 ⊢
        have hZb : -177600 ≤ Z ∧ Z ≤ 177600 := by omega
        clear hfl hZ h1 e
        go_wp2_with fail
        refine HHold.out.mono ?_
        rintro e w9 ⟨rfl, hb9⟩
        have HB9 := hide ((HB6.out.trans (HBo.out.mono (by have := HB6.out.size; omega))).trans (hb9.mono (by have := HB6.out.size; omega)))
        clear hb9
        go_wp2
        go_ret
        exact ⟨rfl, HB9.out⟩
end Go.Proofs.Ytkhcjkmifddlbaa

/- ClsY -/
namespace Go.Proofs.Ytkhcjkmifddlbaa
open Go.RowKit Go.Deep

theorem leftV_bd {ax ay bx b2 i y : Int} (ha : InS ax ay) (hb : InS bx b2) (h : ay < b2) : 0 ≤ Num.leftV ax ay bx b2 i y ∧ Num.leftV ax ay bx b2 i y ≤ 2097152 := by
  unfold InS at ha hb
  have := Num.clp_rng (v := (64 * i + 64 - ax) * (b2 - ay) - (y - ay) * (bx - ax)) (M := 64 * (b2 - ay)) (by omega)
  unfold Num.leftV
  omega
set_option maxHeartbeats 400000 in
theorem kclipC_any (v lo hi : Int) (w : World) : Calls Try.prog 71 #[.int .i64 v, .int .i64 lo, .int .i64 hi] w fun e w' => e = .returned (.int .i64 (Num.clp v lo hi)) ∧ w' = w := by
  by_cases h1 : v < lo
  · go_enter Try.func71, Try.ntmps71
    go_wp2
    go_ret
    exact ⟨ret_int (by unfold Num.clp; rw [if_pos h1]), rfl⟩
  · by_cases h2 : hi < v
    · go_enter Try.func71, Try.ntmps71
      go_wp2
      go_ret
      exact ⟨ret_int (by unfold Num.clp; rw [if_neg (by omega), if_pos h2]), rfl⟩
    · go_enter Try.func71, Try.ntmps71
      go_wp2
      go_ret
      exact ⟨ret_int (by unfold Num.clp; rw [if_neg (by omega), if_neg (by omega)]), rfl⟩
set_option maxHeartbeats 1000000 in
theorem kleft_any (ax ay bx b2 y : Int) (i : Nat) (w : World) (ha : InS ax ay) (hb : InS bx b2) (hi : i < 64) (hy : -16385 ≤ y ∧ y ≤ 16385) :
    Calls Try.prog 79 #[.agg #[.int .i64 ax, .int .i64 ay], .agg #[.int .i64 bx, .int .i64 b2], .int .i64 i, .int .i64 y] w fun e w' => e = .returned (.int .i64 (Num.leftV ax ay bx b2 i y)) ∧ Below w.heap.size w w' := by
  unfold InS at ha hb
  have h1 := Num.mul_bd (64 * (i : Int) + 64 - ax) (b2 - ay) 32768 32768 (by omega) (by omega)
  have h2 := Num.mul_bd (y - ay) (bx - ax) 32769 32768 (by omega) (by omega)
  unfold Num.leftV
  obtain ⟨p, hp⟩ : ∃ p, (64 * (i : Int) + 64 - ax) * (b2 - ay) = p := ⟨_, rfl⟩
  obtain ⟨q, hq⟩ : ∃ q, (y - ay) * (bx - ax) = q := ⟨_, rfl⟩
  rw [hp] at h1 ⊢
  rw [hq] at h2 ⊢
  go_enter Try.func79, Try.ntmps79
  go_wp2_with (go_at_call 71; refine (kclipC_any _ _ _ _).mono ?_; rintro e w' ⟨rfl, hw'⟩; rw [hw']; clear hw')
  go_ret
  exact ⟨rfl, by (repeat (any_goals (first | exact Below.refl _ _ | assumption | refine Below.drew ?_ | refine below_drewN ?_ _ | refine Below.setCell ?_ ?_ _ | refine Below.alloc ?_ ?_ _ | omega | (simp; done) | (simp; omega))))⟩

/-- A share in memory. -/
def sh3 (a b c : Int) (q : Nat) : Value := [Value.int .i64 a, .int .i64 b, .int .i64 c][q]?.getD undef
theorem sh3_row (a b c : Int) (w : World) (t : TypeId) : (w.alloc (.cells #[.int .i64 a, .int .i64 b, .int .i64 c] t)).rowIs w.heap.size t 3 (sh3 a b c) := by
  refine World.rowIs_alloc w #[.int .i64 a, .int .i64 b, .int .i64 c] t (sh3 a b c) (fun i hi => ?_)
  have hi : i < 3 := hi
  rcases (show i = 0 ∨ i = 1 ∨ i = 2 by omega) with rfl | rfl | rfl <;> rfl
theorem sh3_cells {w : World} {p : Nat} {t : TypeId} {a b c : Int} (h : w.rowIs p t 3 (sh3 a b c)) : w.cell? ⟨p, 0, none⟩ = some (.int .i64 a) ∧ w.cell? ⟨p, 1, none⟩ = some (.int .i64 b) ∧ w.cell? ⟨p, 2, none⟩ = some (.int .i64 c) :=
  ⟨h.cell (i := 0) (by omega), h.cell (i := 1) (by omega), h.cell (i := 2) (by omega)⟩
theorem sh3_set0 {w : World} {p : Nat} {t : TypeId} {a b c : Int} (h : w.rowIs p t 3 (sh3 a b c)) (z : Int) : (w.setCell ⟨p, 0, none⟩ (.int .i64 z)).rowIs p t 3 (sh3 z b c) := by
  refine (h.set 0 _).congr fun q hq => ?_
  rcases (show q = 0 ∨ q = 1 ∨ q = 2 by omega) with rfl | rfl | rfl <;> rfl
theorem sh3_set1 {w : World} {p : Nat} {t : TypeId} {a b c : Int} (h : w.rowIs p t 3 (sh3 a b c)) (z : Int) : (w.setCell ⟨p, 1, none⟩ (.int .i64 z)).rowIs p t 3 (sh3 a z c) := by
  refine (h.set 1 _).congr fun q hq => ?_
  rcases (show q = 0 ∨ q = 1 ∨ q = 2 by omega) with rfl | rfl | rfl <;> rfl
theorem sh3_set2 {w : World} {p : Nat} {t : TypeId} {a b c : Int} (h : w.rowIs p t 3 (sh3 a b c)) (z : Int) : (w.setCell ⟨p, 2, none⟩ (.int .i64 z)).rowIs p t 3 (sh3 a b z) := by
  refine (h.set 2 _).congr fun q hq => ?_
  rcases (show q = 0 ∨ q = 1 ∨ q = 2 by omega) with rfl | rfl | rfl <;> rfl

theorem strip_bd {ax ay bx b2 i t : Int} (ha : InS ax ay) (hb : InS bx b2) (h : ay < b2) (n : Nat) :
    (0 ≤ Num.sumZ (Num.stripL ax ay bx b2 i t) n ∧ Num.sumZ (Num.stripL ax ay bx b2 i t) n ≤ 2097152 * n) ∧ 0 ≤ Num.sumZ (Num.stripH ax ay bx b2 i t) n ∧ Num.sumZ (Num.stripH ax ay bx b2 i t) n ≤ 2097152 * n := by
  have e1 : ∀ k, k < n → 0 ≤ Num.stripL ax ay bx b2 i t k ∧ Num.stripL ax ay bx b2 i t k ≤ 2097152 := fun k _ => by
    have a1 := leftV_bd (i := i) (y := t + k) ha hb h
    have a2 := leftV_bd (i := i) (y := t + k + 1) ha hb h
    unfold Num.stripL
    rcases Num.ls_or (Num.leftV ax ay bx b2 i (t + k)) (Num.leftV ax ay bx b2 i (t + k + 1)) with c | c <;> rw [c] <;> assumption
  have e2 : ∀ k, k < n → 0 ≤ Num.stripH ax ay bx b2 i t k ∧ Num.stripH ax ay bx b2 i t k ≤ 2097152 := fun k _ => by
    have a1 := leftV_bd (i := i) (y := t + k) ha hb h
    have a2 := leftV_bd (i := i) (y := t + k + 1) ha hb h
    unfold Num.stripH
    rcases Num.gr_or (Num.leftV ax ay bx b2 i (t + k)) (Num.leftV ax ay bx b2 i (t + k + 1)) with c | c <;> rw [c] <;> assumption
  have s1 := Num.sumZ_le (g := fun _ => 2097152) n (fun k hk => (e1 k hk).2)
  have s2 := Num.sumZ_le (g := fun _ => 2097152) n (fun k hk => (e2 k hk).2)
  rw [Num.sumZ_const] at s1 s2
  exact ⟨⟨Num.sumZ_nn n (fun k hk => (e1 k hk).1), by omega⟩, Num.sumZ_nn n (fun k hk => (e2 k hk).1), by omega⟩

set_option maxRecDepth 100000 in
set_option maxHeartbeats 8000000 in
theorem kshare_any (ax ay bx b2 : Int) (i j : Nat) (w : World) (ha : InS ax ay) (hb : InS bx b2) (hi : i < 64) (hj : j < 64) :
    Calls Try.prog 37 #[.agg #[.int .i64 ax, .int .i64 ay], .agg #[.int .i64 bx, .int .i64 b2], .int .i64 i, .int .i64 j] w fun e w' => e = .returned (.agg #[.int .i64 (Num.lowV ax ay bx b2 i j), .int .i64 (Num.highV ax ay bx b2 i j), .int .i64 (Num.offV ax ay bx b2 i j)]) ∧ Below w.heap.size w w' := by
  have hia := ha
  have hib := hb
  unfold InS at hia hib
  by_cases h : b2 ≤ ay
  · obtain ⟨e1, e2, e3⟩ := Num.close_none (ax := ax) (bx := bx) i j h
    rw [e1, e2, e3]
    clear e1 e2 e3
    go_enter Try.func37, Try.ntmps37
    go_wp2
    refine bodyPost_ret (v := .agg #[.int .i64 0, .int .i64 0, .int .i64 0]) (by simp [results, Try.results37, go_sem]) rfl ⟨rfl, ?_⟩
    (repeat (any_goals (first | exact Below.refl _ _ | assumption | refine Below.drew ?_ | refine below_drewN ?_ _ | refine Below.setCell ?_ ?_ _ | refine Below.alloc ?_ ?_ _ | omega | (simp; done) | (simp; omega))))
  · have hlt : ay < b2 := by omega
    obtain ⟨T, hT⟩ : ∃ T, T = Num.topV ay j := ⟨_, rfl⟩
    obtain ⟨B, hB⟩ : ∃ B, B = Num.botV b2 j := ⟨_, rfl⟩
    obtain ⟨n, hn⟩ : ∃ n, n = (B - T).toNat := ⟨_, rfl⟩
    have hTg := Num.gr_ge ay (64 * (j : Int))
    have hTo := Num.gr_or ay (64 * (j : Int))
    have hBl := Num.ls_le b2 (64 * (j : Int) + 64)
    have hBo := Num.ls_or b2 (64 * (j : Int) + 64)
    have HMost := hide (fun w => kmost_any ay (64 * (j : Int)) w)
    have HLeast := hide (fun w => kleast_any b2 (64 * (j : Int) + 64) w)
    have eT : Num.gr ay (64 * (j : Int)) = T := hT.symm
    have eB : Num.lsV b2 (64 * (j : Int) + 64) = B := hB.symm
    rw [eT] at HMost hTg hTo
    rw [eB] at HLeast hBl hBo
    have hTr : -16384 ≤ T ∧ T ≤ 16384 := by omega
    have hBr : -16384 ≤ B ∧ B ≤ 16384 := by omega
    have hn64 : n ≤ 64 := by omega
    have HLow : Hid (Num.lowV ax ay bx b2 i j = (Num.sumZ (Num.stripL ax ay bx b2 i T) n).tdiv (b2 - ay)) := by unfold Hid Num.lowV; rw [if_neg (by omega), ← hT, ← hB, ← hn]
    have HHigh : Hid (Num.highV ax ay bx b2 i j = (Num.sumZ (Num.stripH ax ay bx b2 i T) n + (b2 - ay) - 1).tdiv (b2 - ay)) := by unfold Hid Num.highV; rw [if_neg (by omega), ← hT, ← hB, ← hn]
    have HOff : Hid (Num.offV ax ay bx b2 i j = if Num.meetsV ax ay bx b2 i j = true then 64 else 0) := by unfold Hid Num.offV; rw [if_neg (by omega)]
    have HBd := hide (fun k => strip_bd (i := (i : Int)) (t := T) ha hb hlt k)
    have HA := hide ha
    have HBb := hide hb
    have HR : Hid ((((w.alloc (.cells #[.int .i64 ax, .int .i64 ay] 41)).alloc (.cells #[.int .i64 bx, .int .i64 b2] 41)).alloc (.cells #[.int .i64 0, .int .i64 0, .int .i64 0] 83)).rowIs w.heap.size 41 2 (spt2 ax ay)) := ((sp_row w ax ay).alloc _).alloc _
    have HR2 : Hid ((((w.alloc (.cells #[.int .i64 ax, .int .i64 ay] 41)).alloc (.cells #[.int .i64 bx, .int .i64 b2] 41)).alloc (.cells #[.int .i64 0, .int .i64 0, .int .i64 0] 83)).rowIs (w.heap.size + 1) 41 2 (spt2 bx b2)) := by
      have h := (sp_row (w.alloc (.cells #[.int .i64 ax, .int .i64 ay] 41)) bx b2).alloc (.cells #[.int .i64 0, .int .i64 0, .int .i64 0] 83)
      rw [nblk_alloc] at h
      exact h
    have HR3 : Hid ((((w.alloc (.cells #[.int .i64 ax, .int .i64 ay] 41)).alloc (.cells #[.int .i64 bx, .int .i64 b2] 41)).alloc (.cells #[.int .i64 0, .int .i64 0, .int .i64 0] 83)).rowIs (w.heap.size + 1 + 1) 83 3 (sh3 0 0 0)) := by
      have h := sh3_row 0 0 0 ((w.alloc (.cells #[.int .i64 ax, .int .i64 ay] 41)).alloc (.cells #[.int .i64 bx, .int .i64 b2] 41)) 83
      rw [nblk_alloc, nblk_alloc] at h
      exact h
    clear hT hB ha hb hTg hTo hBl hBo eT eB
    go_enter Try.func37, Try.ntmps37
    go_wp2_with fail
    obtain ⟨W0, hW0⟩ : ∃ W0, W0 = (((w.alloc (.cells #[.int .i64 ax, .int .i64 ay] 41)).alloc (.cells #[.int .i64 bx, .int .i64 b2] 41)).alloc (.cells #[.int .i64 0, .int .i64 0, .int .i64 0] 83)) := ⟨_, rfl⟩
    rw [← hW0] at HR HR2 HR3 ⊢
    obtain ⟨W1, hW1⟩ : ∃ W1, W1 = W0.alloc (.cells #[.int .i64 0, .int .i64 0, .int .i64 0] 83) := ⟨_, rfl⟩
    have hsz0 : W0.heap.size = w.heap.size + 1 + 1 + 1 := by rw [hW0]; simp
    have hB0 : Below w.heap.size w W0 := by rw [hW0]; (repeat (any_goals (first | exact Below.refl _ _ | assumption | refine Below.drew ?_ | refine below_drewN ?_ _ | refine Below.setCell ?_ ?_ _ | refine Below.alloc ?_ ?_ _ | omega | (simp; done) | (simp; omega))))
    obtain ⟨pa, hpa⟩ : ∃ pa, pa = w.heap.size := ⟨_, rfl⟩
    rw [← hpa] at HR HR2 HR3 hsz0
    try rw [← hpa]
    have r1 := HR.out.alloc (.cells #[.int .i64 0, .int .i64 0, .int .i64 0] 83)
    have r2 := HR2.out.alloc (.cells #[.int .i64 0, .int .i64 0, .int .i64 0] 83)
    have r3 := HR3.out.alloc (.cells #[.int .i64 0, .int .i64 0, .int .i64 0] 83)
    have r4 := sh3_row 0 0 0 W0 83
    rw [← hW1] at r1 r2 r3 r4 ⊢
    rw [hsz0] at r4
    have hB1 : Below w.heap.size w W1 := by rw [hW1]; exact hB0.alloc (by omega) _
    clear hW0 hW1 hsz0 HR HR2 HR3 hB0
    obtain ⟨pb, hpb⟩ : ∃ pb, pb = pa + 1 := ⟨_, rfl⟩
    obtain ⟨pr, hpr⟩ : ∃ pr, pr = pa + 1 + 1 := ⟨_, rfl⟩
    obtain ⟨ps, hps⟩ : ∃ ps, ps = pa + 1 + 1 + 1 := ⟨_, rfl⟩
    rw [← hpr] at r3
    rw [← hps] at r4
    rw [← hpb] at r2
    rw [← hps, ← hpr, ← hpb]
    have hord : pa < pb ∧ pb < pr ∧ pr < ps := by omega
    have hwpa : w.heap.size ≤ pa := by omega
    have hne1 : pa ≠ ps := by omega
    have hne2 : pb ≠ ps := by omega
    have hne3 : pr ≠ ps := by omega
    have hl1 := r4.lt
    have HRows := hide (And.intro r1 (And.intro r2 (And.intro r3 r4)))
    have HB1 := hide hB1
    clear hps hpr hpb hpa r1 r2 r3 r4 hB1
    refine (HMost.out _).mono ?_
    rintro e w' ⟨rfl, hw'⟩
    rw [hw']
    clear hw'
    go_wp2_with fail
    go_loopw [11] (fun t11 wr => ∃ k : Nat, k ≤ n ∧ t11 = .int .i64 (T + k) ∧ Below w.heap.size w wr ∧ wr.rowIs pa 41 2 (spt2 ax ay) ∧ wr.rowIs pb 41 2 (spt2 bx b2) ∧ wr.rowIs pr 83 3 (sh3 0 0 0) ∧ wr.rowIs ps 83 3 (sh3 (Num.sumZ (Num.stripL ax ay bx b2 i T) k) (Num.sumZ (Num.stripH ax ay bx b2 i T) k) 0)) (fun t _ => n - (intOf t - T).toNat)
    case atStart => exact ⟨0, by omega, by simp, HB1.out, HRows.out.1, HRows.out.2.1, HRows.out.2.2.1, HRows.out.2.2.2⟩
    case round =>
      obtain ⟨k, hk, rfl, hbr, r1, r2, r3, r4⟩ := hrel
      have hsr := hbr.size
      have hk64 : (k : Int) ≤ 64 := by omega
      have hbd := HBd.out k
      obtain ⟨c0, c1⟩ := spt2_c r1
      obtain ⟨d0, d1⟩ := spt2_c r2
      have hl1 := r1.lt
      have hl2 := r2.lt
      have hl3 := r3.lt
      have hl4 := r4.lt
      have HR := hide (And.intro r1 (And.intro r2 (And.intro r3 r4)))
      have HB := hide hbr
      clear r1 r2 r3 r4 hbr
      by_cases hlk : k < n
      · have hdk : decide (T + (k : Int) < B) = true := by simp; omega
        have hlB : T + (k : Int) < B := by omega
        go_wp2_with fail
        refine (HLeast.out _).mono ?_
        rintro e w' ⟨rfl, hw'⟩
        rw [hw']
        clear hw'
        go_wp2_with fail
        refine (kleft_any ax ay bx b2 (T + k) i wr HA.out HBb.out hi (by omega)).mono ?_
        obtain ⟨u, hu⟩ : ∃ u, u = Num.leftV ax ay bx b2 i (T + k) := ⟨_, rfl⟩
        rw [← hu]
        have hub : 0 ≤ u ∧ u ≤ 2097152 := by rw [hu]; exact leftV_bd HA.out HBb.out hlt
        have HU := hide hu
        clear hu
        rintro e w2 ⟨rfl, hb2⟩
        have hs2 := hb2.size
        obtain ⟨r1, r2, r3, r4⟩ := HR.out
        have r1 := row_below r1 hb2 hl1
        have r2 := row_below r2 hb2 hl2
        have r3 := row_below r3 hb2 hl3
        have r4 := row_below r4 hb2 hl4
        have hB2 := HB.out.trans (hb2.mono hsr)
        clear c0 c1 d0 d1 hl1 hl2 hl3 hl4 HR HB hb2
        obtain ⟨c0, c1⟩ := spt2_c r1
        obtain ⟨d0, d1⟩ := spt2_c r2
        have hl1 := r1.lt
        have hl2 := r2.lt
        have hl3 := r3.lt
        have hl4 := r4.lt
        have HR := hide (And.intro r1 (And.intro r2 (And.intro r3 r4)))
        have HB := hide hB2
        clear r1 r2 r3 r4 hB2
        go_wp2_with fail
        refine (kleft_any ax ay bx b2 (T + k + 1) i w2 HA.out HBb.out hi (by omega)).mono ?_
        obtain ⟨v, hv⟩ : ∃ v, v = Num.leftV ax ay bx b2 i (T + k + 1) := ⟨_, rfl⟩
        rw [← hv]
        have hvb : 0 ≤ v ∧ v ≤ 2097152 := by rw [hv]; exact leftV_bd HA.out HBb.out hlt
        have HV := hide hv
        clear hv
        rintro e w3 ⟨rfl, hb3⟩
        have hs3 := hb3.size
        obtain ⟨r1, r2, r3, r4⟩ := HR.out
        have r1 := row_below r1 hb3 hl1
        have r2 := row_below r2 hb3 hl2
        have r3 := row_below r3 hb3 hl3
        have r4 := row_below r4 hb3 hl4
        have hB3 := HB.out.trans (hb3.mono (by omega))
        clear c0 c1 d0 d1 hl1 hl2 hl3 hl4 HR HB hb3
        have HStL : Hid (Num.sumZ (Num.stripL ax ay bx b2 i T) (k + 1) = Num.sumZ (Num.stripL ax ay bx b2 i T) k + Num.lsV u v) := by unfold Hid; rw [HU.out, HV.out]; rfl
        have HStH : Hid (Num.sumZ (Num.stripH ax ay bx b2 i T) (k + 1) = Num.sumZ (Num.stripH ax ay bx b2 i T) k + Num.gr u v) := by unfold Hid; rw [HU.out, HV.out]; rfl
        obtain ⟨SL, hSL⟩ : ∃ S, S = Num.sumZ (Num.stripL ax ay bx b2 i T) k := ⟨_, rfl⟩
        obtain ⟨SH, hSH⟩ : ∃ S, S = Num.sumZ (Num.stripH ax ay bx b2 i T) k := ⟨_, rfl⟩
        rw [← hSL] at hbd r4 HStL
        rw [← hSH] at hbd r4 HStH
        have hLo := Num.ls_or u v
        have hGo := Num.gr_or u v
        obtain ⟨m1, hm1⟩ : ∃ m, m = Num.lsV u v := ⟨_, rfl⟩
        obtain ⟨m2, hm2⟩ : ∃ m, m = Num.gr u v := ⟨_, rfl⟩
        have HLs := hide (fun w => kleast_any u v w)
        have HGr := hide (fun w => kmost_any u v w)
        rw [← hm1] at HLs hLo HStL
        rw [← hm2] at HGr hGo HStH
        have hm1b : 0 ≤ m1 ∧ m1 ≤ 2097152 := by omega
        have hm2b : 0 ≤ m2 ∧ m2 ≤ 2097152 := by omega
        obtain ⟨x0, x1, x2⟩ := sh3_cells r4
        have z0 := r4.frozen 0
        have z1 := r4.frozen 1
        have hl4 := r4.lt
        have w1 : IntKind.i64.wrap (SL + m1) = SL + m1 := wrap_ok _ (by omega) (by omega)
        have w2 : IntKind.i64.wrap (SH + m2) = SH + m2 := wrap_ok _ (by omega) (by omega)
        have HR := hide (And.intro r1 (And.intro r2 (And.intro r3 r4)))
        have HB := hide hB3
        clear r1 r2 r3 r4 hB3 hSL hSH hm1 hm2 hLo hGo
        go_wp2_with fail
        go_region_with (go_at_call 77; refine (HLs.out _).mono ?_; rintro e w' ⟨rfl, hw'⟩; rw [hw']; clear hw')
        all_goals
          obtain ⟨W4, hW4⟩ : ∃ W4, W4 = (w3.setCell ⟨ps, 0, none⟩ (.int .i64 (SL + m1))).drew := ⟨_, rfl⟩
          have q1 : W4.rowIs pa 41 2 (spt2 ax ay) := by rw [hW4]; exact (HR.out.1.setOther (a := ⟨ps, 0, none⟩) hne1 _).drew
          have q2 : W4.rowIs pb 41 2 (spt2 bx b2) := by rw [hW4]; exact (HR.out.2.1.setOther (a := ⟨ps, 0, none⟩) hne2 _).drew
          have q3 : W4.rowIs pr 83 3 (sh3 0 0 0) := by rw [hW4]; exact (HR.out.2.2.1.setOther (a := ⟨ps, 0, none⟩) hne3 _).drew
          have q4 : W4.rowIs ps 83 3 (sh3 (SL + m1) SH 0) := by rw [hW4]; exact (sh3_set0 HR.out.2.2.2 _).drew
          have hB4 : Below w.heap.size w W4 := by rw [hW4]; exact (HB.out.setCell (p := ⟨ps, 0, none⟩) (show w.heap.size ≤ ps by omega) _).drew
          rw [← hW4]
          clear hW4 x0 x1 x2 z0 z1 hl4 HR HB
          obtain ⟨x0, x1, x2⟩ := sh3_cells q4
          have z1 := q4.frozen 1
          have hl4 := q4.lt
          have HR := hide (And.intro q1 (And.intro q2 (And.intro q3 q4)))
          have HB := hide hB4
          clear q1 q2 q3 q4 hB4
          go_wp2_with fail
          go_region_with (go_at_call 76; refine (HGr.out _).mono ?_; rintro e w' ⟨rfl, hw'⟩; rw [hw']; clear hw')
          all_goals
            obtain ⟨W5, hW5⟩ : ∃ W5, W5 = (W4.setCell ⟨ps, 1, none⟩ (.int .i64 (SH + m2))).drew := ⟨_, rfl⟩
            have q1 : W5.rowIs pa 41 2 (spt2 ax ay) := by rw [hW5]; exact (HR.out.1.setOther (a := ⟨ps, 1, none⟩) hne1 _).drew
            have q2 : W5.rowIs pb 41 2 (spt2 bx b2) := by rw [hW5]; exact (HR.out.2.1.setOther (a := ⟨ps, 1, none⟩) hne2 _).drew
            have q3 : W5.rowIs pr 83 3 (sh3 0 0 0) := by rw [hW5]; exact (HR.out.2.2.1.setOther (a := ⟨ps, 1, none⟩) hne3 _).drew
            have q4 : W5.rowIs ps 83 3 (sh3 (SL + m1) (SH + m2) 0) := by rw [hW5]; exact (sh3_set1 HR.out.2.2.2 _).drew
            have hB5 : Below w.heap.size w W5 := by rw [hW5]; exact (HB.out.setCell (p := ⟨ps, 1, none⟩) (show w.heap.size ≤ ps by omega) _).drew
            rw [← HStL.out, ← HStH.out] at q4
            rw [← hW5]
            clear hW5 x0 x1 x2 z1 hl4 HR HB
            have HR := hide (And.intro q1 (And.intro q2 (And.intro q3 q4)))
            have HB := hide hB5
            clear q1 q2 q3 q4 hB5
            go_wp2
            go_roundw
            case rel => exact ⟨k + 1, by omega, by rw [show T + ((k + 1 : Nat) : Int) = T + k + 1 by omega], HB.out, HR.out.1, HR.out.2.1, HR.out.2.2.1, HR.out.2.2.2⟩
            case measure => simp [intOf]; omega
      · have hdk : decide (T + (k : Int) < B) = false := by simp; omega
        have hlB : ¬ T + (k : Int) < B := by omega
        have e : k = n := by omega
        subst e
        obtain ⟨SL, hSL⟩ : ∃ S, S = Num.sumZ (Num.stripL ax ay bx b2 i T) k := ⟨_, rfl⟩
        obtain ⟨SH, hSH⟩ : ∃ S, S = Num.sumZ (Num.stripH ax ay bx b2 i T) k := ⟨_, rfl⟩
        rw [← hSL] at hbd HLow HR
        rw [← hSH] at hbd HHigh HR
        obtain ⟨D, hD⟩ : ∃ D, D = b2 - ay := ⟨_, rfl⟩
        have hD1 : 1 ≤ D ∧ D ≤ 32768 := by omega
        rw [← hD] at HLow HHigh
        have t1 := Num.tdiv_le SL D (by omega) 1000000000 (by omega) (by omega)
        have t2 := Num.tdiv_le (SH + D - 1) D (by omega) 1000000000 (by omega) (by omega)
        obtain ⟨q1, hq1⟩ : ∃ q, q = SL.tdiv D := ⟨_, rfl⟩
        obtain ⟨q2, hq2⟩ : ∃ q, q = (SH + D - 1).tdiv D := ⟨_, rfl⟩
        rw [← hq1] at t1 HLow
        rw [← hq2] at t2 HHigh
        have e1 : SL.tdiv D = q1 := hq1.symm
        have e2 : (SH + D - 1).tdiv D = q2 := hq2.symm
        rw [hD] at e1 e2
        have hn0 : ¬ b2 - ay = 0 := by omega
        have hn2 : ((b2 - ay) == 0) = false := by simp; omega
        have w1 : IntKind.i64.wrap q1 = q1 := wrap_ok _ (by omega) (by omega)
        have w2 : IntKind.i64.wrap q2 = q2 := wrap_ok _ (by omega) (by omega)
        have w3 : IntKind.i64.wrap (SH + (b2 - ay)) = SH + (b2 - ay) := wrap_ok _ (by omega) (by omega)
        have w4 : IntKind.i64.wrap (SH + (b2 - ay) - 1) = SH + (b2 - ay) - 1 := wrap_ok _ (by omega) (by omega)
        clear hSL hSH hq1 hq2 hD HBd
        go_wp2_with fail
        refine (HLeast.out _).mono ?_
        rintro e w' ⟨rfl, hw'⟩
        rw [hw']
        clear hw'
        obtain ⟨x0, x1, x2⟩ := sh3_cells HR.out.2.2.2
        have z0 := HR.out.2.2.2.frozen 0
        have z1 := HR.out.2.2.2.frozen 1
        go_wp2_with fail
        obtain ⟨W6, hW6⟩ : ∃ W6, W6 = (wr.setCell ⟨ps, 0, none⟩ (.int .i64 q1)).setCell ⟨ps, 1, none⟩ (.int .i64 q2) := ⟨_, rfl⟩
        have y3 : W6.rowIs pr 83 3 (sh3 0 0 0) := by rw [hW6]; exact (HR.out.2.2.1.setOther (a := ⟨ps, 0, none⟩) hne3 _).setOther (a := ⟨ps, 1, none⟩) hne3 _
        have y4 : W6.rowIs ps 83 3 (sh3 q1 q2 0) := by rw [hW6]; exact sh3_set1 (sh3_set0 HR.out.2.2.2 _) _
        have hB6 : Below w.heap.size w W6 := by rw [hW6]; exact (HB.out.setCell (p := ⟨ps, 0, none⟩) (show w.heap.size ≤ ps by omega) _).setCell (p := ⟨ps, 1, none⟩) (show w.heap.size ≤ ps by omega) _
        rw [← hW6]
        clear hW6 x0 x1 x2 z0 z1 HR HB hl1 hl2 hl3 hl4 c0 c1 d0 d1
        refine (kmeets_any ax ay bx b2 i j W6 HA.out HBb.out hi hj).mono ?_
        obtain ⟨MV, hMV⟩ : ∃ MV, MV = Num.meetsV ax ay bx b2 i j := ⟨_, rfl⟩
        rw [← hMV] at HOff ⊢
        clear hMV
        rintro e w7 ⟨rfl, hb7⟩
        have y3 := row_below y3 hb7 y3.lt
        have y4 := row_below y4 hb7 y4.lt
        obtain ⟨x0, x1, x2⟩ := sh3_cells y4
        obtain ⟨v0, v1, v2⟩ := sh3_cells y3
        have z2 := y4.frozen 2
        have u0 := y3.frozen 0
        have u1 := y3.frozen 1
        have u2 := y3.frozen 2
        have hl3 := y3.lt
        have hl4 := y4.lt
        have hB7 := hide (hB6.trans (hb7.mono (by have := hB6.size; omega)))
        have Y3 := hide y3
        clear hb7 hB6 y3 y4 e1 e2 w1 w2 w3 w4 hn0 hn2
        cases MV
        · go_wp2
          obtain ⟨W8, hW8⟩ : ∃ W8, W8 = (((w7.setCell ⟨pr, 0, none⟩ (.int .i64 q1)).setCell ⟨pr, 1, none⟩ (.int .i64 q2)).setCell ⟨pr, 2, none⟩ (.int .i64 0)) := ⟨_, rfl⟩
          have y8 : W8.rowIs pr 83 3 (sh3 q1 q2 0) := by rw [hW8]; exact sh3_set2 (sh3_set1 (sh3_set0 Y3.out _) _) _
          have hB8 : Below w.heap.size w W8 := by
            have := hB7.out
            rw [hW8]
            (repeat (any_goals (first | exact Below.refl _ _ | assumption | refine Below.drew ?_ | refine below_drewN ?_ _ | refine Below.setCell ?_ ?_ _ | refine Below.alloc ?_ ?_ _ | omega | (simp; done) | (simp; omega))))
          rw [← hW8]
          obtain ⟨k0, k1, k2⟩ := sh3_cells y8
          refine bodyPost_ret (v := .agg #[.int .i64 q1, .int .i64 q2, .int .i64 0]) (by simp [results, Try.results37, go_sem, k0, k1, k2]) rfl ⟨by rw [HLow.out, HHigh.out, HOff.out]; rfl, hB8⟩
        · go_wp2
          obtain ⟨W8, hW8⟩ : ∃ W8, W8 = ((((w7.setCell ⟨ps, 2, none⟩ (.int .i64 64)).setCell ⟨pr, 0, none⟩ (.int .i64 q1)).setCell ⟨pr, 1, none⟩ (.int .i64 q2)).setCell ⟨pr, 2, none⟩ (.int .i64 64)) := ⟨_, rfl⟩
          have y8 : W8.rowIs pr 83 3 (sh3 q1 q2 64) := by rw [hW8]; exact sh3_set2 (sh3_set1 (sh3_set0 (Y3.out.setOther (a := ⟨ps, 2, none⟩) hne3 _) _) _) _
          have hB8 : Below w.heap.size w W8 := by
            have := hB7.out
            rw [hW8]
            (repeat (any_goals (first | exact Below.refl _ _ | assumption | refine Below.drew ?_ | refine below_drewN ?_ _ | refine Below.setCell ?_ ?_ _ | refine Below.alloc ?_ ?_ _ | omega | (simp; done) | (simp; omega))))
          rw [← hW8]
          obtain ⟨k0, k1, k2⟩ := sh3_cells y8
          refine bodyPost_ret (v := .agg #[.int .i64 q1, .int .i64 q2, .int .i64 64]) (by simp [results, Try.results37, go_sem, k0, k1, k2]) rfl ⟨by rw [HLow.out, HHigh.out, HOff.out]; rfl, hB8⟩
end Go.Proofs.Ytkhcjkmifddlbaa

/- ClsZ -/
namespace Go.Proofs.Ytkhcjkmifddlbaa
open Go.RowKit Go.Deep

def clL (i j : Int) (ax ay bx b2 : Int) : Int := Num.loC ax ay bx b2 i j
def clH (i j : Int) (ax ay bx b2 : Int) : Int := Num.hiC ax ay bx b2 i j
theorem share_bd {ax ay bx b2 : Int} (i : Int) {j : Nat} (ha : InS ax ay) (hb : InS bx b2) : (0 ≤ Num.lowV ax ay bx b2 i j ∧ Num.lowV ax ay bx b2 i j ≤ 200000000) ∧ (0 ≤ Num.highV ax ay bx b2 i j ∧ Num.highV ax ay bx b2 i j ≤ 200000000) ∧ 0 ≤ Num.offV ax ay bx b2 i j ∧ Num.offV ax ay bx b2 i j ≤ 64 := by
  have hia := ha
  have hib := hb
  unfold InS at hia hib
  by_cases h : b2 ≤ ay
  · obtain ⟨e1, e2, e3⟩ := Num.close_none (ax := ax) (bx := bx) i j h
    rw [e1, e2, e3]; omega
  · have hg := Num.gr_ge ay (64 * (j : Int))
    have hl := Num.ls_le b2 (64 * (j : Int) + 64)
    have hn : (Num.botV b2 j - Num.topV ay j).toNat ≤ 64 := by unfold Num.botV Num.topV; omega
    have s := strip_bd (i := i) (t := Num.topV ay j) ha hb (by omega) (Num.botV b2 j - Num.topV ay j).toNat
    unfold Num.lowV Num.highV Num.offV
    rw [if_neg (by omega), if_neg (by omega), if_neg (by omega)]
    obtain ⟨n, hnn⟩ : ∃ n, n = (Num.botV b2 j - Num.topV ay j).toNat := ⟨_, rfl⟩
    rw [← hnn] at hn s ⊢
    have t1 := Num.tdiv_le (Num.sumZ (Num.stripL ax ay bx b2 i (Num.topV ay j)) n) (b2 - ay) (by omega) 200000000 (by omega) (by omega)
    have t2 := Num.tdiv_le (Num.sumZ (Num.stripH ax ay bx b2 i (Num.topV ay j)) n + (b2 - ay) - 1) (b2 - ay) (by omega) 200000000 (by omega) (by omega)
    have p1 := Int.tdiv_nonneg s.1.1 (show 0 ≤ b2 - ay by omega)
    have p2 := Int.tdiv_nonneg (a := Num.sumZ (Num.stripH ax ay bx b2 i (Num.topV ay j)) n + (b2 - ay) - 1) (b := b2 - ay) (by omega) (by omega)
    refine ⟨⟨p1, t1.2⟩, ⟨p2, t2.2⟩, ?_⟩
    split <;> omega
theorem clL_bd {ax ay bx b2 : Int} (i : Int) {j : Nat} (ha : InS ax ay) (hb : InS bx b2) : (-500000000 ≤ clL i j ax ay bx b2 ∧ clL i j ax ay bx b2 ≤ 500000000) ∧ -500000000 ≤ clH i j ax ay bx b2 ∧ clH i j ax ay bx b2 ≤ 500000000 := by
  have s := share_bd i (j := j) ha hb
  have z := share_bd i (j := j) hb ha
  unfold clL clH Num.loC Num.hiC
  omega
theorem clF_bd {l : List (Int × Int)} (h : ∀ p ∈ l, Num.inB p.1 p.2 = true) (i : Int) (j : Nat) (k : Nat) (hk : k ≤ l.length) : (-(500000000 * (k : Int)) ≤ Num.sumZ (Num.chF (clL i j) l) k ∧ Num.sumZ (Num.chF (clL i j) l) k ≤ 500000000 * (k : Int)) ∧ -(500000000 * (k : Int)) ≤ Num.sumZ (Num.chF (clH i j) l) k ∧ Num.sumZ (Num.chF (clH i j) l) k ≤ 500000000 * (k : Int) := by
  have hat : ∀ q, q < l.length → InS (Num.ats l q).1 (Num.ats l q).2 := fun q hq => by rw [Num.ats_at hq]; exact inS_of h hq
  exact ⟨Num.sumZ_bd (f := Num.chF (clL i j) l) (B := 500000000) k (fun q hq => (clL_bd i (hat q (by omega)) (hat _ (Num.nxR_lt (by omega)))).1), Num.sumZ_bd (f := Num.chF (clH i j) l) (B := 500000000) k (fun q hq => (clL_bd i (hat q (by omega)) (hat _ (Num.nxR_lt (by omega)))).2)⟩
theorem clO_bd {R : Nat → List (Int × Int)} {m : Nat} (h : ∀ q, q < m → (R q).length ≤ 44400 ∧ ∀ p ∈ R q, Num.inB p.1 p.2 = true) (i : Int) (j : Nat) (r : Nat) (hr : r ≤ m) : (-(22200000000000 * (r : Int)) ≤ Num.outF (clL i j) R r ∧ Num.outF (clL i j) R r ≤ 22200000000000 * (r : Int)) ∧ -(22200000000000 * (r : Int)) ≤ Num.outF (clH i j) R r ∧ Num.outF (clH i j) R r ≤ 22200000000000 * (r : Int) := by
  have key : ∀ q, q < r → _ := fun q hq => clF_bd (h q (by omega)).2 i j (R q).length (Nat.le_refl _)
  exact ⟨Num.sumZ_bd (f := fun q => Num.ringF (clL i j) (R q)) (B := 22200000000000) r (fun q hq => by have := key q hq; have := (h q (by omega)).1; unfold Num.ringF; omega), Num.sumZ_bd (f := fun q => Num.ringF (clH i j) (R q)) (B := 22200000000000) r (fun q hq => by have := key q hq; have := (h q (by omega)).1; unfold Num.ringF; omega)⟩

set_option maxRecDepth 100000 in
set_option maxHeartbeats 8000000 in
theorem kclose_any (ad : Option Addr) (N cc : Nat) (A : Nat → Option Addr) (C n : Nat → Nat) (X Y K : Nat → Nat → Int) (a b c d x y zw zh zi zj zs : Int) (w : World) (hN : (N : Int) ≤ 9223372036854775807) (ho : OutAt w ad N A C n X Y K)
    (hX : ∀ j i, -9223372036854775808 ≤ X j i ∧ X j i ≤ 9223372036854775807) (hY : ∀ j i, -9223372036854775808 ≤ Y j i ∧ Y j i ≤ 9223372036854775807) (hK : ∀ j i, -9223372036854775808 ≤ K j i ∧ K j i ≤ 9223372036854775807)
    (hw : -9223372036854775808 ≤ zw ∧ zw ≤ 9223372036854775807) (hh : -9223372036854775808 ≤ zh ∧ zh ≤ 9223372036854775807) (hi : -9223372036854775808 ≤ zi ∧ zi ≤ 9223372036854775807) (hj : -9223372036854775808 ≤ zj ∧ zj ≤ 9223372036854775807) (hst : -9223372036854775808 ≤ zs ∧ zs ≤ 9223372036854775807) :
    Calls Try.prog 11 #[.slice ad N cc, .agg #[.int .i64 a, .int .i64 b, .int .i64 c, .int .i64 d, .int .i64 x, .int .i64 y], .int .i64 zw, .int .i64 zh, .int .i64 zi, .int .i64 zj, .int .i64 zs] w fun e w' => e = .returned (.bool true) ∧ Below w.heap.size w w' := by
  obtain ⟨W, hW⟩ : ∃ W, W = windowN zw := ⟨_, rfl⟩
  obtain ⟨H, hH⟩ : ∃ H, H = windowN zh := ⟨_, rfl⟩
  have hW1 : 1 ≤ W ∧ W ≤ 64 := by rw [hW]; exact (windowN_rng zw).1
  have hH1 : 1 ≤ H ∧ H ≤ 64 := by rw [hH]; exact (windowN_rng zh).1
  have rI := pickV_rng zi (W : Int) (by omega)
  have rJ := pickV_rng zj (H : Int) (by omega)
  obtain ⟨I, hI⟩ : ∃ I : Nat, (I : Int) = pickV zi W := ⟨(pickV zi W).toNat, by omega⟩
  obtain ⟨J, hJ⟩ : ∃ J : Nat, (J : Int) = pickV zj H := ⟨(pickV zj H).toNat, by omega⟩
  have hIW : I < W := by omega
  have hJH : J < H := by omega
  have rS := pickV_rng zs 2 (by omega)
  obtain ⟨st, hstv⟩ : ∃ st, st = pickV zs 2 := ⟨_, rfl⟩
  have hst2 : st = 0 ∨ st = 1 := by omega
  obtain ⟨T, hT⟩ : ∃ T, T = tameL n X Y K N := ⟨_, rfl⟩
  have HE := hide (tame_trace n X Y K N a b c d x y)
  have HPos : Hid (∀ j, j < T.length → 0 < (traceL (ptLen T) (ptXX T) (ptYY T) (ptKK T) (tameM a b c d x y) j).length) := fun j hj => by rw [hT] at hj ⊢; exact tame_pos n X Y K N a b c d x y hj
  rw [← hT] at HE
  have HFa := hide (trace_facts HE.out)
  have HLen : Hid (∀ j, j < T.length → ptLen T j ≤ 4294967296) := fun j hj => by rw [hT] at hj ⊢; have := (tameL_facts n X Y K N hj).2.1; unfold ptLen; omega
  have hT4 : T.length ≤ 4 := by rw [hT]; exact tmO_len _ _ _ _ _ _
  obtain ⟨R, hR⟩ : ∃ R, R = traceL (ptLen T) (ptXX T) (ptYY T) (ptKK T) (tameM a b c d x y) := ⟨_, rfl⟩
  have HR := hide hR
  rw [← hR] at HPos HFa
  obtain ⟨ma, hma⟩ : ∃ z, z = nearV a 2047 := ⟨_, rfl⟩
  obtain ⟨mb, hmb⟩ : ∃ z, z = nearV b 2047 := ⟨_, rfl⟩
  obtain ⟨mc, hmc⟩ : ∃ z, z = nearV c 2047 := ⟨_, rfl⟩
  obtain ⟨md, hmd⟩ : ∃ z, z = nearV d 2047 := ⟨_, rfl⟩
  obtain ⟨mx, hmx⟩ : ∃ z, z = nearV x 4095 := ⟨_, rfl⟩
  obtain ⟨my, hmy⟩ : ∃ z, z = nearV y 4095 := ⟨_, rfl⟩
  have hTM : tameM a b c d x y = ⟨ma, mb, mc, md, mx, my⟩ := by unfold tameM; rw [hma, hmb, hmc, hmd, hmx, hmy]
  have HMap := hide (fun w => ktameMap_any a b c d x y w)
  rw [← hma, ← hmb, ← hmc, ← hmd, ← hmx, ← hmy] at HMap
  rw [hTM] at HE HR
  have HTame := hide (fun w' (h : OutAt w' ad N A C n X Y K) => ktame_any (-2047) 4095 (-2047) 4095 ad N cc A C n X Y K w' openF_ok hN h hX hY hK)
  have HTT : Hid (tmO ⟨-2047, 4095, -2047, 4095⟩ n X Y K N = T) := hT.symm
  rw [HTT.out] at HTame
  have HWin := hide (fun w => window_any zw w hw.1 hw.2)
  have HWih := hide (fun w => window_any zh w hh.1 hh.2)
  rw [← hW] at HWin
  rw [← hH] at HWih
  have HPi := hide (fun w => pick_any zi (W : Int) w hi.1 hi.2 (by omega))
  have HPj := hide (fun w => pick_any zj (H : Int) w hj.1 hj.2 (by omega))
  have HPs := hide (fun w => pick_any zs 2 w hst.1 hst.2 (by omega))
  rw [← hI] at HPi
  rw [← hJ] at HPj
  rw [← hstv] at HPs
  have hI64 : I < 64 := by omega
  have hJ64 : J < 64 := by omega
  have HO := hide ho
  have HMr := hide (mp6_row a b c d x y w 39)
  have HB1 : Hid (Below w.heap.size w (w.alloc (.cells #[.int .i64 a, .int .i64 b, .int .i64 c, .int .i64 d, .int .i64 x, .int .i64 y] 39))) := (Below.refl _ _).alloc (Nat.le_refl _) _
  clear ho hX hY hK hW hH hI hJ hstv hT hR hma hmb hmc hmd hmx hmy hTM rI rJ rS HTT hw hh hi hj hst
  go_enter Try.func11, Try.ntmps11
  go_wp2_with fail
  obtain ⟨W1, hW1e⟩ : ∃ W1, W1 = w.alloc (.cells #[.int .i64 a, .int .i64 b, .int .i64 c, .int .i64 d, .int .i64 x, .int .i64 y] 39) := ⟨_, rfl⟩
  rw [← hW1e] at HMr HB1 ⊢
  have hs1 : W1.heap.size = w.heap.size + 1 := by rw [hW1e]; simp
  clear hW1e
  refine (kopen_any W1).mono ?_
  rintro e w2 ⟨rfl, hb2⟩
  have hs2 := hb2.size
  obtain ⟨W2, hW2⟩ : ∃ W2, W2 = w2.alloc (.cells #[.int .i64 (-2047), .int .i64 4095, .int .i64 (-2047), .int .i64 4095] 72) := ⟨_, rfl⟩
  have hb22 : Below w2.heap.size w2 W2 := by rw [hW2]; exact (Below.refl _ _).alloc (Nat.le_refl _) _
  have hsW2 : W2.heap.size = w2.heap.size + 1 := by rw [hW2]; simp
  have hb12 : Below W1.heap.size W1 W2 := hb2.trans (hb22.mono hs2)
  have HM2 := hide (row_below HMr.out hb12 (by omega))
  have HB2 := hide (HB1.out.trans (hb12.mono (by omega)))
  have HW2 := hide hW2
  clear hb2 hb22 hb12 hW2
  go_wp2_with fail
  rw [← HW2.out]
  refine (HTame.out W2 (HO.out.below HB2.out)).mono ?_
  rintro e w3 ⟨v, V, rfl, hb3, hP3⟩
  obtain ⟨pad, pcc, PA, PC, rfl, hO3⟩ := hP3.out
  have hs3 := hb3.size
  have hM3 := row_below HM2.out hb3 (by omega)
  obtain ⟨d0, d1, d2, d3, d4, d5⟩ := mp6_cells hM3
  have hM3l := hM3.lt
  have hO3' : OutAt w3 pad T.length PA PC (ptLen T) (ptXX T) (ptYY T) (ptKK T) := hO3
  have HO3 := hide hO3'
  have HB3 := hide (HB2.out.trans (hb3.mono (by omega)))
  clear hb3 hP3 hO3 hO3' hM3 HTame HW2
  go_wp2_with fail
  refine (HMap.out w3).mono ?_
  rintro e w4 ⟨rfl, hb4⟩
  have hs4 := hb4.size
  obtain ⟨W4, hW4⟩ : ∃ W4, W4 = w4.alloc (.cells #[.int .i64 ma, .int .i64 mb, .int .i64 mc, .int .i64 md, .int .i64 mx, .int .i64 my] 39) := ⟨_, rfl⟩
  have hb44 : Below w4.heap.size w4 W4 := by rw [hW4]; exact (Below.refl _ _).alloc (Nat.le_refl _) _
  have hb34 : Below w3.heap.size w3 W4 := hb4.trans (hb44.mono hs4)
  have hsW4 : W4.heap.size = w4.heap.size + 1 := by rw [hW4]; simp
  obtain ⟨mb4, hmb4⟩ : ∃ q, q = w4.heap.size := ⟨_, rfl⟩
  have HM4 : Hid (W4.rowIs mb4 39 6 (mp6 ma mb mc md mx my)) := by unfold Hid; rw [hW4, hmb4]; exact mp6_row ma mb mc md mx my w4 39
  have HO4 := hide (HO3.out.below hb34)
  have HB4 := hide (HB3.out.trans (hb34.mono (by omega)))
  have HW4 := hide (And.intro hW4 hmb4)
  have hm4l : mb4 < W4.heap.size := by omega
  clear d0 d1 d2 d3 d4 d5 hb4 hb44 hb34 hW4 hsW4 hmb4 hM3l HO3 HM2
  go_wp2_with fail
  rw [← HW4.out.1]
  try rw [← HW4.out.2]
  refine (HWin.out _).mono ?_
  rintro e w' ⟨rfl, hw'⟩
  rw [hw']
  clear hw'
  go_wp2_with fail
  refine (HWih.out _).mono ?_
  rintro e w' ⟨rfl, hw'⟩
  rw [hw']
  clear hw'
  go_wp2_with fail
  refine (HPi.out _).mono ?_
  rintro e w' ⟨rfl, hw'⟩
  rw [hw']
  clear hw'
  go_wp2_with fail
  refine (HPj.out _).mono ?_
  rintro e w' ⟨rfl, hw'⟩
  rw [hw']
  clear hw' HWin HWih HPi HPj HMap HW4
  obtain ⟨d0, d1, d2, d3, d4, d5⟩ := mp6_cells HM4.out
  have HTrc := hide (ktraced_any pad T.length pcc PA PC (ptLen T) (ptXX T) (ptYY T) (ptKK T) ma mb mc md mx my W4 (by omega) HLen.out HO4.out HE.out (by rw [← HR.out]; exact HPos.out))
  rw [← HR.out] at HTrc
  go_wp2_with fail
  refine HTrc.out.mono ?_
  rintro e w5 ⟨vl, VL, rfl, hb5, hS5⟩
  obtain ⟨la, lcap, rfl, hla⟩ := owns_formN hS5.outer
  have hs5 := hb5.size
  have HS5 := hide hS5
  have HLa := hide hla
  have HO5 := hide (HO4.out.below hb5)
  have HB5 := hide (HB4.out.trans (hb5.mono (by have := HB4.out.size; omega)))
  have hM5 := row_below HM4.out hb5 hm4l
  clear d0 d1 d2 d3 d4 d5
  obtain ⟨d0, d1, d2, d3, d4, d5⟩ := mp6_cells hM5
  have hm5l := hM5.lt
  have HLd := hide (fun w' (hb : Below w5.heap.size w5 w') => laid_any W H st pad T.length pcc PA PC (ptLen T) (ptXX T) (ptYY T) (ptKK T) ma mb mc md mx my w' hW1 hH1 hst2 (by omega) HLen.out (HO5.out.below hb) HE.out)
  rw [← HR.out] at HLd
  clear hb5 hS5 hla hM5 HTrc HO4 HM4
  go_wp2_with fail
  go_region_with (first | (go_at_call 21; refine (HPs.out _).mono ?_; rintro e w' ⟨rfl, hw'⟩; rw [hw']; clear hw') | (go_at_call 28; refine (HLd.out _ (by first | exact Below.refl _ _ | exact (Below.refl _ _).drew)).mono ?_; rintro e w6 ⟨bk, S, rfl, hb6, hC6, hS6⟩))
  all_goals
    have hdr : w5.drew.heap.size = w5.heap.size := rfl
    have hs6 := hb6.size
    have hb56 : Below w5.heap.size w5 w6 := ((Below.refl _ _).drew).trans (hb6.mono (Nat.le_of_eq hdr.symm))
    have HS6 := hide (HS5.out.below hb56)
    have HC6 := hide hC6
    have HB6 := hide (HB5.out.trans (hb56.mono (by have := HB5.out.size; omega)))
    clear hb6 hC6 hS6 hb56 hdr HLd HO5 d0 d1 d2 d3 d4 d5
    go_wp2_with fail
    go_loopw [24, 25, 26] (fun t24 t25 t26 wr => ∃ r : Nat, r ≤ T.length ∧ t26 = .int .i64 r ∧ t24 = .int .i64 (Num.outF (clL I J) R r) ∧ t25 = .int .i64 (Num.outF (clH I J) R r) ∧ Below w6.heap.size w6 wr) (fun _ _ t _ => T.length - (intOf t).toNat)
    case atStart => exact ⟨0, by omega, rfl, rfl, rfl, Below.refl _ _⟩
    case round =>
      obtain ⟨wo, rfl⟩ : ∃ wo, wo = wr := ⟨_, rfl⟩
      obtain ⟨r, hr, rfl, rfl, rfl, hbo⟩ := hrel
      have hszo := hbo.size
      have HBo := hide hbo
      clear hbo
      have h1 := clO_bd (R := R) (m := T.length) HFa.out.2 I J r hr
      by_cases hlt : r < T.length
      · have hd1 : decide ((r : Int) < (T.length : Int)) = true := by simp; omega
        obtain ⟨g, rfl⟩ := HLa.out (by omega)
        obtain ⟨Z0, hZ0⟩ : ∃ Z, Z = Num.outF (clL I J) R r := ⟨_, rfl⟩
        obtain ⟨Y0, hY0⟩ : ∃ Z, Z = Num.outF (clH I J) R r := ⟨_, rfl⟩
        rw [← hZ0, ← hY0] at h1 ⊢
        have HZ0 := hide (And.intro hZ0 hY0)
        have HZ0b : Hid ((-88800000000000 ≤ Z0 ∧ Z0 ≤ 88800000000000) ∧ -88800000000000 ≤ Y0 ∧ Y0 ≤ 88800000000000) := by unfold Hid; omega
        clear hZ0 hY0 h1
        go_wp2_with fail
        go_loopw [24, 25, 27] (fun t24 t25 t27 wr => ∃ k : Nat, k ≤ (R r).length ∧ t27 = .int .i64 k ∧ t24 = .int .i64 (Z0 + Num.sumZ (Num.chF (clL I J) (R r)) k) ∧ t25 = .int .i64 (Y0 + Num.sumZ (Num.chF (clH I J) (R r)) k) ∧ Below w6.heap.size w6 wr) (fun _ _ t _ => (R r).length - (intOf t).toNat)
        case atStart => exact ⟨0, by omega, rfl, by simp [Num.sumZ], by simp [Num.sumZ], HBo.out⟩
        case round =>
          obtain ⟨k, hk, rfl, rfl, rfl, hbk⟩ := hrel
          have hszk := hbk.size
          have hSr := HS6.out.below hbk
          have hc := hSr.outer.cellAt r (by omega)
          rw [List.getElem?_map, List.getElem?_range hlt] at hc
          simp only [Option.map_some] at hc
          obtain ⟨ra, rc, hvr, hra⟩ := owns_formN (hSr.inner r hlt)
          rw [hvr] at hc
          have r0 : (0 : Int) ≤ (r : Int) := by omega
          have r1 : (r : Int) < (T.length : Int) := by omega
          obtain ⟨_, hRl⟩ := HFa.out
          obtain ⟨hRl1, hRin⟩ := hRl r hlt
          have hzk := clF_bd hRin I J k hk
          obtain ⟨len, hlen⟩ : ∃ len, len = (R r).length := ⟨_, rfl⟩
          by_cases hlk : k < (R r).length
          · obtain ⟨gr, rfl⟩ := hra (by omega)
            have hin := hSr.inner r hlt
            rw [hvr] at hin
            have hnx := Num.nxR_lt hlk
            have hmod := Num.nxR_mod hlk
            obtain ⟨nx, hnxe⟩ : ∃ nx, nx = Num.nxR (R r).length k := ⟨_, rfl⟩
            rw [← hnxe] at hnx hmod
            obtain ⟨c0, c1⟩ := owns_sp hin k hlk
            obtain ⟨e0, e1⟩ := owns_sp hin nx hnx
            have hP1 := inS_of hRin hlk
            have hQ1 := inS_of hRin hnx
            have HCl : Hid (Num.chF (clL I J) (R r) k = Num.loC (R r)[k].1 (R r)[k].2 (R r)[nx].1 (R r)[nx].2 I J) := by unfold Hid Num.chF clL; rw [← hnxe, Num.ats_at hlk, Num.ats_at hnx]
            have HCh : Hid (Num.chF (clH I J) (R r) k = Num.hiC (R r)[k].1 (R r)[k].2 (R r)[nx].1 (R r)[nx].2 I J) := by unfold Hid Num.chF clH; rw [← hnxe, Num.ats_at hlk, Num.ats_at hnx]
            obtain ⟨p, hp⟩ : ∃ p, p = (R r)[k] := ⟨_, rfl⟩
            obtain ⟨q, hq⟩ : ∃ q, q = (R r)[nx] := ⟨_, rfl⟩
            rw [← hp] at c0 c1 hP1 HCl HCh
            rw [← hq] at e0 e1 hQ1 HCl HCh
            obtain ⟨px, py⟩ := p
            obtain ⟨qx, qy⟩ := q
            simp only at c0 c1 e0 e1 hP1 hQ1 HCl HCh
            have hgl : gr < wr.heap.size := (hin.lt gr rfl).2
            have hgl2 : g < wr.heap.size := (hSr.outer.lt g rfl).2
            rw [← hlen] at hc hRl1 hlk hmod hnx hk
            have hk64 : len ≤ 44400 := hRl1
            have hdk : decide ((k : Int) < (len : Int)) = true := by simp; omega
            have j0 : (0 : Int) ≤ (k : Int) := by omega
            have j1 : (k : Int) < (len : Int) := by omega
            have j2 : (0 : Int) ≤ (nx : Int) := by omega
            have j3 : (nx : Int) < (len : Int) := by omega
            have hn0 : ¬ (len : Int) = 0 := by omega
            have hn1 : ¬ len = 0 := by omega
            have hn2 : ((len : Int) == 0) = false := by simp; omega
            have hw1 : IntKind.i64.wrap ((k : Int) + 1) = (k : Int) + 1 := wrap_ok _ (by omega) (by omega)
            have htm : ((k : Int) + 1).tmod (len : Int) = (nx : Int) := by rw [Int.tmod_eq_emod_of_nonneg (by omega), hmod]; push_cast; rfl
            have hw2 : IntKind.i64.wrap (nx : Int) = (nx : Int) := wrap_ok _ (by omega) (by omega)
            have sb1 := share_bd I (j := J) hP1 hQ1
            have sb2 := share_bd I (j := J) hQ1 hP1
            unfold Num.loC at HCl
            unfold Num.hiC at HCh
            have HSh1 := hide (fun w' => kshare_any px py qx qy I J w' hP1 hQ1 hI64 hJ64)
            have HSh2 := hide (fun w' => kshare_any qx qy px py I J w' hQ1 hP1 hI64 hJ64)
            obtain ⟨a1, ha1⟩ : ∃ z, z = Num.lowV px py qx qy I J := ⟨_, rfl⟩
            obtain ⟨a2, ha2⟩ : ∃ z, z = Num.highV px py qx qy I J := ⟨_, rfl⟩
            obtain ⟨a3, ha3⟩ : ∃ z, z = Num.offV px py qx qy I J := ⟨_, rfl⟩
            obtain ⟨b1, hb1⟩ : ∃ z, z = Num.lowV qx qy px py I J := ⟨_, rfl⟩
            obtain ⟨b2, hb2⟩ : ∃ z, z = Num.highV qx qy px py I J := ⟨_, rfl⟩
            obtain ⟨b3, hb3⟩ : ∃ z, z = Num.offV qx qy px py I J := ⟨_, rfl⟩
            rw [← ha1, ← ha2, ← ha3] at sb1 HSh1
            rw [← hb1, ← hb2, ← hb3] at sb2 HSh2
            rw [← ha1, ← hb2, ← ha3, ← hb3] at HCl
            rw [← ha2, ← hb1, ← ha3, ← hb3] at HCh
            clear ha1 ha2 ha3 hb1 hb2 hb3
            have HSt : Hid (Z0 + Num.sumZ (Num.chF (clL I J) (R r)) (k + 1) = Z0 + Num.sumZ (Num.chF (clL I J) (R r)) k + a1 - b2 - a3 - b3) := by unfold Hid; simp only [Num.sumZ]; rw [HCl.out]; omega
            have HTt : Hid (Y0 + Num.sumZ (Num.chF (clH I J) (R r)) (k + 1) = Y0 + Num.sumZ (Num.chF (clH I J) (R r)) k + a2 - b1 + a3 + b3) := by unfold Hid; simp only [Num.sumZ]; rw [HCh.out]; omega
            obtain ⟨Zk, hZk⟩ : ∃ Z, Z = Z0 + Num.sumZ (Num.chF (clL I J) (R r)) k := ⟨_, rfl⟩
            obtain ⟨Yk, hYk⟩ : ∃ Z, Z = Y0 + Num.sumZ (Num.chF (clH I J) (R r)) k := ⟨_, rfl⟩
            have HZk : Hid ((-1000000000000000 ≤ Zk ∧ Zk ≤ 1000000000000000) ∧ -1000000000000000 ≤ Yk ∧ Yk ≤ 1000000000000000) := by
              unfold Hid
              have h2 := HZ0b.out
              rw [hZk, hYk]; omega
            rw [← hZk] at HSt ⊢
            rw [← hYk] at HTt ⊢
            have HBk := hide hbk
            have HNx := hide (And.intro hnxe hmod)
            have HLn := hide hlen
            clear hSr hvr hra hRl hRin hin hbk hp hq hZk hYk hnxe hmod hlen hzk HCl HCh
            go_wp2_with fail
            go_region
            obtain ⟨Wq, hWq⟩ : ∃ Wq, Wq = ((wr.alloc (.cells #[.int .i64 px, .int .i64 py] 41)).alloc (.cells #[.int .i64 qx, .int .i64 qy] 41)).drew := ⟨_, rfl⟩
            have hbq : Below wr.heap.size wr Wq := by rw [hWq]; (repeat (any_goals (first | exact Below.refl _ _ | assumption | refine Below.drew ?_ | refine below_drewN ?_ _ | refine Below.setCell ?_ ?_ _ | refine Below.alloc ?_ ?_ _ | omega | (simp; done) | (simp; omega))))
            have hsq : Wq.heap.size = wr.heap.size + 1 + 1 := by rw [hWq]; simp
            have hrp : Wq.rowIs wr.heap.size 41 2 (spt2 px py) := by
              rw [hWq]
              exact World.rowIs.of_block ((sp_row wr px py).alloc _) rfl
            have hrq : Wq.rowIs (wr.heap.size + 1) 41 2 (spt2 qx qy) := by
              have h := sp_row (wr.alloc (.cells #[.int .i64 px, .int .i64 py] 41)) qx qy
              rw [nblk_alloc] at h
              rw [hWq]
              exact World.rowIs.of_block h rfl
            rw [← hWq]
            obtain ⟨sp, hsp⟩ : ∃ sp, sp = wr.heap.size := ⟨_, rfl⟩
            rw [← hsp] at hrp hrq hsq
            try rw [← hsp]
            have HBq := hide (HBk.out.trans (hbq.mono hszk))
            have HRp := hide hrp
            have HRq := hide hrq
            obtain ⟨s0, s1⟩ := spt2_c hrp
            obtain ⟨t0, t1⟩ := spt2_c hrq
            have hx1 := hrp.lt
            have hx2 := hrq.lt
            have hsz6 : w6.heap.size ≤ sp := by omega
            clear hWq hbq hrp hrq hsp c0 c1 e0 e1 hc
            go_wp2_with fail
            refine (HSh1.out Wq).mono ?_
            rintro e w7 ⟨rfl, hb7⟩
            have hs7 := hb7.size
            obtain ⟨W7, hW7⟩ : ∃ W, W = w7.alloc (.cells #[.int .i64 a1, .int .i64 a2, .int .i64 a3] 83) := ⟨_, rfl⟩
            have hbW7 : Below w7.heap.size w7 W7 := by rw [hW7]; exact (Below.refl _ _).alloc (Nat.le_refl _) _
            have hsW7 : W7.heap.size = w7.heap.size + 1 := by rw [hW7]; simp
            have hbq7 := hb7.trans (hbW7.mono hs7)
            have HB7 := hide (HBq.out.trans (hbq7.mono (by omega)))
            have hrp7 := row_below HRp.out hb7 (by omega)
            have hrq7 := row_below HRq.out hb7 (by omega)
            have hr7 : W7.rowIs w7.heap.size 83 3 (sh3 a1 a2 a3) := by rw [hW7]; exact sh3_row _ _ _ _ _
            obtain ⟨b7, hb7e⟩ : ∃ b, b = w7.heap.size := ⟨_, rfl⟩
            rw [← hb7e] at hr7
            have HW7 := hide (And.intro hW7 hb7e)
            clear s0 s1 t0 t1 hx1 hx2 hb7 hbW7 hbq7 hW7 hb7e HRp HRq
            obtain ⟨s0, s1⟩ := spt2_c hrp7
            obtain ⟨t0, t1⟩ := spt2_c hrq7
            have hx1 := hrp7.lt
            have hx2 := hrq7.lt
            have hx3 := hr7.lt
            have HR7 := hide hr7
            clear hrp7 hrq7 hr7
            go_wp2_with fail
            rw [← HW7.out.1]
            try rw [← HW7.out.2]
            refine (HSh2.out W7).mono ?_
            rintro e w8 ⟨rfl, hb8⟩
            have hs8 := hb8.size
            have hr78 := row_below HR7.out hb8 hx3
            have HB8 := hide (HB7.out.trans (hb8.mono (by have := HB7.out.size; omega)))
            obtain ⟨u0, u1, u2⟩ := sh3_cells hr78
            have hx4 := hr78.lt
            have hZb := HZk.out
            clear s0 s1 t0 t1 hx1 hx2 hb8 hr78 HR7 HW7 hx3
            have hsz8 : w6.heap.size ≤ w8.heap.size := by have := HB8.out.size; omega
            go_wp2
            go_roundw
            case rel =>
              refine ⟨k + 1, by have := HLn.out; omega, by go_num, ?_, ?_, ?_⟩
              · rw [HSt.out]
              · rw [HTt.out]
              · exact HB8.out.alloc (by omega) _
            case measure => have := HLn.out; simp [intOf]; omega
          · have e : k = (R r).length := by omega
            have hkl : k = len := by omega
            rw [← hlen] at hc
            have hdk : decide ((k : Int) < (len : Int)) = false := by simp; omega
            have hgl2 : g < wr.heap.size := (hSr.outer.lt g rfl).2
            have HZr : Hid (Z0 + Num.sumZ (Num.chF (clL I J) (R r)) k = Num.outF (clL I J) R (r + 1)) := by unfold Hid; rw [outF_one, ← HZ0.out.1, e]; rfl
            have HYr : Hid (Y0 + Num.sumZ (Num.chF (clH I J) (R r)) k = Num.outF (clH I J) R (r + 1)) := by unfold Hid; rw [outF_one, ← HZ0.out.2, e]; rfl
            have HBk := hide hbk
            obtain ⟨Zk, hZk⟩ : ∃ Z, Z = Z0 + Num.sumZ (Num.chF (clL I J) (R r)) k := ⟨_, rfl⟩
            obtain ⟨Yk, hYk⟩ : ∃ Z, Z = Y0 + Num.sumZ (Num.chF (clH I J) (R r)) k := ⟨_, rfl⟩
            rw [← hZk] at HZr ⊢
            rw [← hYk] at HYr ⊢
            have hll : ¬ k < len := by omega
            clear hSr hvr hra hRl hRin hbk hZk hYk hlen e hzk
            go_wp2
            go_roundw
            case rel => exact ⟨r + 1, by omega, by go_num, by rw [HZr.out], by rw [HYr.out], HBk.out⟩
            case measure => simp [intOf]; omega
      · have e : r = T.length := by omega
        have hd1 : decide ((r : Int) < (T.length : Int)) = false := by simp; omega
        have hco := Num.close_out R T.length I J
        have hco1 : 2 * Num.outF (clL I J) R r ≤ Num.areaV R T.length I J := by rw [e]; exact hco.1
        have hco2 : Num.areaV R T.length I J ≤ 2 * Num.outF (clH I J) R r := by rw [e]; exact hco.2
        have hAe : areaE W H I J = 0 := by unfold areaE; rw [if_pos (by omega)]
        have hAn : areaN W H (fun i j => Num.areaV R T.length i j) I J = Num.areaV R T.length I J := by unfold areaN; rw [if_pos (by omega)]; simp
        have HAr := hide (glyphArea_any bk W H 1 _ _ _ _ I J _ wo (HC6.out.below HBo.out) hW1 hH1 (by omega))
        rw [hAe, hAn] at HAr
        have h3 := Num.areaV_bd (L := R) (N := T.length) (M := 44400) (I : Int) (J : Int) (fun q hq => (HFa.out.2 q hq).1)
        have h4 : -1500000000 ≤ Num.areaV R T.length I J ∧ Num.areaV R T.length I J ≤ 1500000000 := by omega
        obtain ⟨Z, hZ⟩ : ∃ Z, Z = Num.outF (clL I J) R r := ⟨_, rfl⟩
        obtain ⟨Y, hY⟩ : ∃ Z, Z = Num.outF (clH I J) R r := ⟨_, rfl⟩
        obtain ⟨V, hV⟩ : ∃ Z, Z = Num.areaV R T.length I J := ⟨_, rfl⟩
        rw [← hZ] at hco1 h1 ⊢
        rw [← hY] at hco2 h1 ⊢
        rw [← hV] at hco1 hco2 HAr h4
        have hb1 : decide (2 * Z ≤ V) = true := by simp; omega
        have hb2 : decide (V ≤ 2 * Y) = true := by simp; omega
        have hzb : (-88800000000000 ≤ Z ∧ Z ≤ 88800000000000) ∧ -88800000000000 ≤ Y ∧ Y ≤ 88800000000000 := by omega
        clear hZ hY hV hco h3 h1 hAe hAn e
        go_wp2_with fail
        refine HAr.out.mono ?_
        rintro e w9 ⟨rfl, hb9⟩
        have HB9 := hide ((HB6.out.trans (HBo.out.mono (by have := HB6.out.size; omega))).trans (hb9.mono (by have := HB6.out.size; omega)))
        clear hb9
        go_wp2
        go_ret
        exact ⟨rfl, HB9.out⟩
end Go.Proofs.Ytkhcjkmifddlbaa
