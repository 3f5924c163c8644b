/- Joined: FlC. -/
import Derived.Test.YtkhcjkmifddlbaaPart10
/- FlC -/
namespace Go.Proofs.Ytkhcjkmifddlbaa
open Go.RowKit Go.Deep

/-- The tame outline of an argument, and its trace. -/
def tameL (n : Nat → Nat) (X Y K : Nat → Nat → Int) (N : Nat) : List (List (Int × Int × Int)) := tmO openF n X Y K N
def tameM (a b c d x y : Int) : Num.Mp := ⟨nearV a 2047, nearV b 2047, nearV c 2047, nearV d 2047, nearV x 4095, nearV y 4095⟩
def ptLen (T : List (List (Int × Int × Int))) (j : Nat) : Nat := (nth T j).length
def ptXX (T : List (List (Int × Int × Int))) (j : Nat) : Nat → Int := ptX (nth T j)
def ptYY (T : List (List (Int × Int × Int))) (j : Nat) : Nat → Int := ptY (nth T j)
def ptKK (T : List (List (Int × Int × Int))) (j : Nat) : Nat → Int := kd (nth T j)
theorem nth_mem {T : List (List (Int × Int × Int))} {j : Nat} (h : j < T.length) : nth T j ∈ T := by unfold nth; simp [h]
theorem openF_ok : openF.Ok := by unfold Fd.Ok openF; simp
/-- What a tame outline is like. -/
theorem tameL_facts (n : Nat → Nat) (X Y K : Nat → Nat → Int) (N : Nat) {j : Nat} (hj : j < (tameL n X Y K N).length) : 2 ≤ (nth (tameL n X Y K N) j).length ∧ (nth (tameL n X Y K N) j).length ≤ 48 ∧ KOk (nth (tameL n X Y K N) j) ∧ PtIn (-2047) 2047 (-2047) 2047 (nth (tameL n X Y K N) j) := by
  obtain ⟨c, hc, e⟩ := tmO_mem openF n X Y K N _ (nth_mem hj)
  have h := tmR_facts openF (by simp [openF]) (by simp [openF]) (X c) (Y c) (K c) hc
  rw [← e] at h
  exact h
theorem tame_trace (n : Nat → Nat) (X Y K : Nat → Nat → Int) (N : Nat) (a b c d x y : Int) : traceE (tameL n X Y K N).length (ptLen (tameL n X Y K N)) (ptXX (tameL n X Y K N)) (ptYY (tameL n X Y K N)) (ptKK (tameL n X Y K N)) (tameM a b c d x y) = 0 := by
  have hx := nearV_rng x 4095 (by omega)
  have hy := nearV_rng y 4095 (by omega)
  obtain ⟨hf, hm⟩ := tame_map (x := nearV x 4095) (y := nearV y 4095) (nearV_rng a 2047 (by omega)) (nearV_rng b 2047 (by omega)) (nearV_rng c 2047 (by omega)) (nearV_rng d 2047 (by omega)) (by omega) (by omega)
  exact tame_ok (B := 2047) (tmO_len _ _ _ _ _ _) (fun j hj => tameL_facts n X Y K N hj) (by omega) hf hm
theorem tame_pos (n : Nat → Nat) (X Y K : Nat → Nat → Int) (N : Nat) (a b c d x y : Int) {j : Nat} (hj : j < (tameL n X Y K N).length) : 0 < (traceL (ptLen (tameL n X Y K N)) (ptXX (tameL n X Y K N)) (ptYY (tameL n X Y K N)) (ptKK (tameL n X Y K N)) (tameM a b c d x y) j).length :=
  trace_pos (tame_trace n X Y K N a b c d x y) (fun _ hj => ⟨(tameL_facts n X Y K N hj).1, kok_bad (tameL_facts n X Y K N hj).2.2.1⟩) hj
theorem outF_one (F : Int → Int → Int → Int → Int) (R : Nat → List (Int × Int)) (r : Nat) : Num.outF F R (r + 1) = Num.outF F R r + Num.ringF F (R r) := rfl
theorem crossF_bd (l : List (Int × Int)) (i j : Int) (k : Nat) : -(k : Int) ≤ Num.sumZ (Num.chF (Num.chX i j) l) k ∧ Num.sumZ (Num.chF (Num.chX i j) l) k ≤ (k : Int) := by
  have h := Num.sumZ_bd (f := Num.chF (Num.chX i j) l) (B := 1) k (fun q _ => Num.cross_bd _ _ _ _ _ _)
  omega
theorem crossO_bd (R : Nat → List (Int × Int)) (i j : Int) {m : Nat} (h : ∀ q, q < m → (R q).length ≤ 44400) (r : Nat) (hr : r ≤ m) : -(44400 * (r : Int)) ≤ Num.outF (Num.chX i j) R r ∧ Num.outF (Num.chX i j) R r ≤ 44400 * (r : Int) :=
  Num.sumZ_bd (f := fun q => Num.ringF (Num.chX i j) (R q)) (B := 44400) r (fun q hq => by
    have h1 := crossF_bd (R q) i j (R q).length
    have h2 := h q (by omega)
    unfold Num.ringF
    omega)
theorem inS_of {R : List (Int × Int)} (h : ∀ p ∈ R, Num.inB p.1 p.2 = true) {k : Nat} (hk : k < R.length) : InS R[k].1 R[k].2 := Num.inB_yes (h _ (List.getElem_mem hk))

set_option maxRecDepth 100000 in
set_option maxHeartbeats 8000000 in
theorem kflat_any (ad : Option Addr) (N cc : Nat) (A : Nat → Option Addr) (C n : Nat → Nat) (X Y K : Nat → Nat → Int) (a b c d x y zw zh zi zj zs : Int) (w : World) (hN : (N : Int) ≤ 9223372036854775807) (ho : OutAt w ad N A C n X Y K)
    (hX : ∀ j i, -9223372036854775808 ≤ X j i ∧ X j i ≤ 9223372036854775807) (hY : ∀ j i, -9223372036854775808 ≤ Y j i ∧ Y j i ≤ 9223372036854775807) (hK : ∀ j i, -9223372036854775808 ≤ K j i ∧ K j i ≤ 9223372036854775807)
    (hw : -9223372036854775808 ≤ zw ∧ zw ≤ 9223372036854775807) (hh : -9223372036854775808 ≤ zh ∧ zh ≤ 9223372036854775807) (hi : -9223372036854775808 ≤ zi ∧ zi ≤ 9223372036854775807) (hj : -9223372036854775808 ≤ zj ∧ zj ≤ 9223372036854775807) (hst : -9223372036854775808 ≤ zs ∧ zs ≤ 9223372036854775807) :
    Calls Try.prog 10 #[.slice ad N cc, .agg #[.int .i64 a, .int .i64 b, .int .i64 c, .int .i64 d, .int .i64 x, .int .i64 y], .int .i64 zw, .int .i64 zh, .int .i64 zi, .int .i64 zj, .int .i64 zs] w fun e w' => e = .returned (.bool true) ∧ Below w.heap.size w w' := by
  obtain ⟨W, hW⟩ : ∃ W, W = windowN zw := ⟨_, rfl⟩
  obtain ⟨H, hH⟩ : ∃ H, H = windowN zh := ⟨_, rfl⟩
  have hW1 : 1 ≤ W ∧ W ≤ 64 := by rw [hW]; exact (windowN_rng zw).1
  have hH1 : 1 ≤ H ∧ H ≤ 64 := by rw [hH]; exact (windowN_rng zh).1
  have rI := pickV_rng zi (W : Int) (by omega)
  have rJ := pickV_rng zj (H : Int) (by omega)
  obtain ⟨I, hI⟩ : ∃ I : Nat, (I : Int) = pickV zi W := ⟨(pickV zi W).toNat, by omega⟩
  obtain ⟨J, hJ⟩ : ∃ J : Nat, (J : Int) = pickV zj H := ⟨(pickV zj H).toNat, by omega⟩
  have hIW : I < W := by omega
  have hJH : J < H := by omega
  have rS := pickV_rng zs 2 (by omega)
  obtain ⟨st, hstv⟩ : ∃ st, st = pickV zs 2 := ⟨_, rfl⟩
  have hst2 : st = 0 ∨ st = 1 := by omega
  obtain ⟨T, hT⟩ : ∃ T, T = tameL n X Y K N := ⟨_, rfl⟩
  have HE := hide (tame_trace n X Y K N a b c d x y)
  have HPos : Hid (∀ j, j < T.length → 0 < (traceL (ptLen T) (ptXX T) (ptYY T) (ptKK T) (tameM a b c d x y) j).length) := fun j hj => by rw [hT] at hj ⊢; exact tame_pos n X Y K N a b c d x y hj
  rw [← hT] at HE
  have HFa := hide (trace_facts HE.out)
  have HLen : Hid (∀ j, j < T.length → ptLen T j ≤ 4294967296) := fun j hj => by rw [hT] at hj ⊢; have := (tameL_facts n X Y K N hj).2.1; unfold ptLen; omega
  have hT4 : T.length ≤ 4 := by rw [hT]; exact tmO_len _ _ _ _ _ _
  obtain ⟨R, hR⟩ : ∃ R, R = traceL (ptLen T) (ptXX T) (ptYY T) (ptKK T) (tameM a b c d x y) := ⟨_, rfl⟩
  have HR := hide hR
  rw [← hR] at HPos HFa
  obtain ⟨ma, hma⟩ : ∃ z, z = nearV a 2047 := ⟨_, rfl⟩
  obtain ⟨mb, hmb⟩ : ∃ z, z = nearV b 2047 := ⟨_, rfl⟩
  obtain ⟨mc, hmc⟩ : ∃ z, z = nearV c 2047 := ⟨_, rfl⟩
  obtain ⟨md, hmd⟩ : ∃ z, z = nearV d 2047 := ⟨_, rfl⟩
  obtain ⟨mx, hmx⟩ : ∃ z, z = nearV x 4095 := ⟨_, rfl⟩
  obtain ⟨my, hmy⟩ : ∃ z, z = nearV y 4095 := ⟨_, rfl⟩
  have hTM : tameM a b c d x y = ⟨ma, mb, mc, md, mx, my⟩ := by unfold tameM; rw [hma, hmb, hmc, hmd, hmx, hmy]
  have HMap := hide (fun w => ktameMap_any a b c d x y w)
  rw [← hma, ← hmb, ← hmc, ← hmd, ← hmx, ← hmy] at HMap
  rw [hTM] at HE HR
  have HTame := hide (fun w' (h : OutAt w' ad N A C n X Y K) => ktame_any (-2047) 4095 (-2047) 4095 ad N cc A C n X Y K w' openF_ok hN h hX hY hK)
  have HTT : Hid (tmO ⟨-2047, 4095, -2047, 4095⟩ n X Y K N = T) := hT.symm
  rw [HTT.out] at HTame
  have HWin := hide (fun w => window_any zw w hw.1 hw.2)
  have HWih := hide (fun w => window_any zh w hh.1 hh.2)
  rw [← hW] at HWin
  rw [← hH] at HWih
  have HPi := hide (fun w => pick_any zi (W : Int) w hi.1 hi.2 (by omega))
  have HPj := hide (fun w => pick_any zj (H : Int) w hj.1 hj.2 (by omega))
  have HPs := hide (fun w => pick_any zs 2 w hst.1 hst.2 (by omega))
  rw [← hI] at HPi
  rw [← hJ] at HPj
  rw [← hstv] at HPs
  have hI64 : I < 64 := by omega
  have hJ64 : J < 64 := by omega
  have HO := hide ho
  have HMr := hide (mp6_row a b c d x y w 39)
  have HB1 : Hid (Below w.heap.size w (w.alloc (.cells #[.int .i64 a, .int .i64 b, .int .i64 c, .int .i64 d, .int .i64 x, .int .i64 y] 39))) := (Below.refl _ _).alloc (Nat.le_refl _) _
  clear ho hX hY hK hW hH hI hJ hstv hT hR hma hmb hmc hmd hmx hmy hTM rI rJ rS HTT hw hh hi hj hst
  go_enter Try.func10, Try.ntmps10
  go_wp2_with fail
  obtain ⟨W1, hW1e⟩ : ∃ W1, W1 = w.alloc (.cells #[.int .i64 a, .int .i64 b, .int .i64 c, .int .i64 d, .int .i64 x, .int .i64 y] 39) := ⟨_, rfl⟩
  rw [← hW1e] at HMr HB1 ⊢
  have hs1 : W1.heap.size = w.heap.size + 1 := by rw [hW1e]; simp
  clear hW1e
  refine (kopen_any W1).mono ?_
  rintro e w2 ⟨rfl, hb2⟩
  have hs2 := hb2.size
  obtain ⟨W2, hW2⟩ : ∃ W2, W2 = w2.alloc (.cells #[.int .i64 (-2047), .int .i64 4095, .int .i64 (-2047), .int .i64 4095] 72) := ⟨_, rfl⟩
  have hb22 : Below w2.heap.size w2 W2 := by rw [hW2]; exact (Below.refl _ _).alloc (Nat.le_refl _) _
  have hsW2 : W2.heap.size = w2.heap.size + 1 := by rw [hW2]; simp
  have hb12 : Below W1.heap.size W1 W2 := hb2.trans (hb22.mono hs2)
  have HM2 := hide (row_below HMr.out hb12 (by omega))
  have HB2 := hide (HB1.out.trans (hb12.mono (by omega)))
  have HW2 := hide hW2
  clear hb2 hb22 hb12 hW2
  go_wp2_with fail
  rw [← HW2.out]
  refine (HTame.out W2 (HO.out.below HB2.out)).mono ?_
  rintro e w3 ⟨v, V, rfl, hb3, hP3⟩
  obtain ⟨pad, pcc, PA, PC, rfl, hO3⟩ := hP3.out
  have hs3 := hb3.size
  have hM3 := row_below HM2.out hb3 (by omega)
  obtain ⟨d0, d1, d2, d3, d4, d5⟩ := mp6_cells hM3
  have hM3l := hM3.lt
  have hO3' : OutAt w3 pad T.length PA PC (ptLen T) (ptXX T) (ptYY T) (ptKK T) := hO3
  have HO3 := hide hO3'
  have HB3 := hide (HB2.out.trans (hb3.mono (by omega)))
  clear hb3 hP3 hO3 hO3' hM3 HTame HW2
  go_wp2_with fail
  refine (HMap.out w3).mono ?_
  rintro e w4 ⟨rfl, hb4⟩
  have hs4 := hb4.size
  obtain ⟨W4, hW4⟩ : ∃ W4, W4 = w4.alloc (.cells #[.int .i64 ma, .int .i64 mb, .int .i64 mc, .int .i64 md, .int .i64 mx, .int .i64 my] 39) := ⟨_, rfl⟩
  have hb44 : Below w4.heap.size w4 W4 := by rw [hW4]; exact (Below.refl _ _).alloc (Nat.le_refl _) _
  have hb34 : Below w3.heap.size w3 W4 := hb4.trans (hb44.mono hs4)
  have hsW4 : W4.heap.size = w4.heap.size + 1 := by rw [hW4]; simp
  obtain ⟨mb4, hmb4⟩ : ∃ q, q = w4.heap.size := ⟨_, rfl⟩
  have HM4 : Hid (W4.rowIs mb4 39 6 (mp6 ma mb mc md mx my)) := by unfold Hid; rw [hW4, hmb4]; exact mp6_row ma mb mc md mx my w4 39
  have HO4 := hide (HO3.out.below hb34)
  have HB4 := hide (HB3.out.trans (hb34.mono (by omega)))
  have HW4 := hide (And.intro hW4 hmb4)
  have hm4l : mb4 < W4.heap.size := by omega
  clear d0 d1 d2 d3 d4 d5 hb4 hb44 hb34 hW4 hsW4 hmb4 hM3l HO3 HM2
  go_wp2_with fail
  rw [← HW4.out.1]
  try rw [← HW4.out.2]
  refine (HWin.out _).mono ?_
  rintro e w' ⟨rfl, hw'⟩
  rw [hw']
  clear hw'
  go_wp2_with fail
  refine (HWih.out _).mono ?_
  rintro e w' ⟨rfl, hw'⟩
  rw [hw']
  clear hw'
  go_wp2_with fail
  refine (HPi.out _).mono ?_
  rintro e w' ⟨rfl, hw'⟩
  rw [hw']
  clear hw'
  go_wp2_with fail
  refine (HPj.out _).mono ?_
  rintro e w' ⟨rfl, hw'⟩
  rw [hw']
  clear hw' HWin HWih HPi HPj HMap HW4
  obtain ⟨d0, d1, d2, d3, d4, d5⟩ := mp6_cells HM4.out
  have HTrc := hide (ktraced_any pad T.length pcc PA PC (ptLen T) (ptXX T) (ptYY T) (ptKK T) ma mb mc md mx my W4 (by omega) HLen.out HO4.out HE.out (by rw [← HR.out]; exact HPos.out))
  rw [← HR.out] at HTrc
  go_wp2_with fail
  refine HTrc.out.mono ?_
  rintro e w5 ⟨vl, VL, rfl, hb5, hS5⟩
  obtain ⟨la, lcap, rfl, hla⟩ := owns_formN hS5.outer
  have hs5 := hb5.size
  have HS5 := hide hS5
  have HLa := hide hla
  have HO5 := hide (HO4.out.below hb5)
  have HB5 := hide (HB4.out.trans (hb5.mono (by have := HB4.out.size; omega)))
  have hM5 := row_below HM4.out hb5 hm4l
  clear d0 d1 d2 d3 d4 d5
  obtain ⟨d0, d1, d2, d3, d4, d5⟩ := mp6_cells hM5
  have hm5l := hM5.lt
  have HLd := hide (fun w' (hb : Below w5.heap.size w5 w') => laid_any W H st pad T.length pcc PA PC (ptLen T) (ptXX T) (ptYY T) (ptKK T) ma mb mc md mx my w' hW1 hH1 hst2 (by omega) HLen.out (HO5.out.below hb) HE.out)
  rw [← HR.out] at HLd
  clear hb5 hS5 hla hM5 HTrc HO4 HM4
  go_wp2_with fail
  go_region_with (first | (go_at_call 21; refine (HPs.out _).mono ?_; rintro e w' ⟨rfl, hw'⟩; rw [hw']; clear hw') | (go_at_call 28; refine (HLd.out _ (by first | exact Below.refl _ _ | exact (Below.refl _ _).drew)).mono ?_; rintro e w6 ⟨bk, S, rfl, hb6, hC6, hS6⟩))
  all_goals
    have hdr : w5.drew.heap.size = w5.heap.size := rfl
    have hs6 := hb6.size
    have hb56 : Below w5.heap.size w5 w6 := ((Below.refl _ _).drew).trans (hb6.mono (Nat.le_of_eq hdr.symm))
    have HS6 := hide (HS5.out.below hb56)
    have HC6 := hide hC6
    have HB6 := hide (HB5.out.trans (hb56.mono (by have := HB5.out.size; omega)))
    clear hb6 hC6 hS6 hb56 hdr HLd HO5 d0 d1 d2 d3 d4 d5
    go_wp2_with fail
    go_loopw [24, 25] (fun t24 t25 wr => ∃ r : Nat, r ≤ T.length ∧ t25 = .int .i64 r ∧ t24 = .int .i64 (Num.outF (Num.chX I J) R r) ∧ (∀ q, q < r → ∀ k, k < (R q).length → Num.chM I J (R q) k = false) ∧ Below w6.heap.size w6 wr) (fun _ t _ => T.length - (intOf t).toNat)
    case atStart => exact ⟨0, by omega, rfl, rfl, fun q hq => by omega, Below.refl _ _⟩
    case round =>
      obtain ⟨wo, rfl⟩ : ∃ wo, wo = wr := ⟨_, rfl⟩
      obtain ⟨r, hr, rfl, rfl, hno, hbo⟩ := hrel
      have hszo := hbo.size
      have HNo := hide hno
      have HBo := hide hbo
      clear hno hbo
      by_cases hlt : r < T.length
      · have hd1 : decide ((r : Int) < (T.length : Int)) = true := by simp; omega
        obtain ⟨g, rfl⟩ := HLa.out (by omega)
        obtain ⟨Z0, hZ0⟩ : ∃ Z, Z = Num.outF (Num.chX I J) R r := ⟨_, rfl⟩
        rw [← hZ0]
        have HZ0 := hide hZ0
        have HZ0b : Hid (-177600 ≤ Z0 ∧ Z0 ≤ 177600) := by
          unfold Hid
          have h1 := crossO_bd R I J (m := T.length) (fun q hq => (HFa.out.2 q hq).1) r hr
          rw [hZ0]; omega
        clear hZ0
        go_wp2_with fail
        go_loopw [24, 26] (fun t24 t26 wr => ∃ k : Nat, k ≤ (R r).length ∧ t26 = .int .i64 k ∧ t24 = .int .i64 (Z0 + Num.sumZ (Num.chF (Num.chX I J) (R r)) k) ∧ (∀ q, q < k → Num.chM I J (R r) q = false) ∧ Below w6.heap.size w6 wr) (fun _ t _ => (R r).length - (intOf t).toNat)
        case atStart => exact ⟨0, by omega, rfl, by simp [Num.sumZ], fun q hq => by omega, HBo.out⟩
        case round =>
          obtain ⟨k, hk, rfl, rfl, hnk, hbk⟩ := hrel
          have hszk := hbk.size
          have hSr := HS6.out.below hbk
          have hc := hSr.outer.cellAt r (by omega)
          rw [List.getElem?_map, List.getElem?_range hlt] at hc
          simp only [Option.map_some] at hc
          obtain ⟨ra, rc, hvr, hra⟩ := owns_formN (hSr.inner r hlt)
          rw [hvr] at hc
          have r0 : (0 : Int) ≤ (r : Int) := by omega
          have r1 : (r : Int) < (T.length : Int) := by omega
          obtain ⟨_, hRl⟩ := HFa.out
          obtain ⟨hRl1, hRin⟩ := hRl r hlt
          obtain ⟨len, hlen⟩ : ∃ len, len = (R r).length := ⟨_, rfl⟩
          by_cases hlk : k < (R r).length
          · obtain ⟨gr, rfl⟩ := hra (by omega)
            have hin := hSr.inner r hlt
            rw [hvr] at hin
            have hnx := Num.nxR_lt hlk
            have hmod := Num.nxR_mod hlk
            obtain ⟨nx, hnxe⟩ : ∃ nx, nx = Num.nxR (R r).length k := ⟨_, rfl⟩
            rw [← hnxe] at hnx hmod
            obtain ⟨c0, c1⟩ := owns_sp hin k hlk
            obtain ⟨e0, e1⟩ := owns_sp hin nx hnx
            have hP1 := inS_of hRin hlk
            have hQ1 := inS_of hRin hnx
            have HCh : Hid (Num.chM I J (R r) k = Num.meetsV (R r)[k].1 (R r)[k].2 (R r)[nx].1 (R r)[nx].2 I J) := by unfold Hid Num.chM; rw [← hnxe, Num.ats_at hlk, Num.ats_at hnx]
            have HCx : Hid (Num.chF (Num.chX I J) (R r) k = Num.crossV (R r)[k].1 (R r)[k].2 (R r)[nx].1 (R r)[nx].2 I J) := by unfold Hid Num.chF Num.chX; rw [← hnxe, Num.ats_at hlk, Num.ats_at hnx]
            obtain ⟨p, hp⟩ : ∃ p, p = (R r)[k] := ⟨_, rfl⟩
            obtain ⟨q, hq⟩ : ∃ q, q = (R r)[nx] := ⟨_, rfl⟩
            rw [← hp] at c0 c1 hP1 HCh HCx
            rw [← hq] at e0 e1 hQ1 HCh HCx
            obtain ⟨px, py⟩ := p
            obtain ⟨qx, qy⟩ := q
            simp only at c0 c1 e0 e1 hP1 hQ1 HCh HCx
            have hgl : gr < wr.heap.size := (hin.lt gr rfl).2
            have hgl2 : g < wr.heap.size := (hSr.outer.lt g rfl).2
            rw [← hlen] at hc hRl1 hlk hmod hnx hk
            have hk64 : len ≤ 44400 := hRl1
            have hdk : decide ((k : Int) < (len : Int)) = true := by simp; omega
            have j0 : (0 : Int) ≤ (k : Int) := by omega
            have j1 : (k : Int) < (len : Int) := by omega
            have j2 : (0 : Int) ≤ (nx : Int) := by omega
            have j3 : (nx : Int) < (len : Int) := by omega
            have hn0 : ¬ (len : Int) = 0 := by omega
            have hn1 : ¬ len = 0 := by omega
            have hn2 : ((len : Int) == 0) = false := by simp; omega
            have hw1 : IntKind.i64.wrap ((k : Int) + 1) = (k : Int) + 1 := wrap_ok _ (by omega) (by omega)
            have htm : ((k : Int) + 1).tmod (len : Int) = (nx : Int) := by rw [Int.tmod_eq_emod_of_nonneg (by omega), hmod]; push_cast; rfl
            have hw2 : IntKind.i64.wrap (nx : Int) = (nx : Int) := wrap_ok _ (by omega) (by omega)
            have HSt : Hid (Z0 + Num.sumZ (Num.chF (Num.chX I J) (R r)) (k + 1) = (Z0 + Num.sumZ (Num.chF (Num.chX I J) (R r)) k) + Num.crossV px py qx qy I J) := by unfold Hid; rw [← HCx.out]; simp only [Num.sumZ]; omega
            obtain ⟨Zk, hZk⟩ : ∃ Z, Z = Z0 + Num.sumZ (Num.chF (Num.chX I J) (R r)) k := ⟨_, rfl⟩
            have HZk : Hid (-1000000000 ≤ Zk ∧ Zk ≤ 1000000000) := by
              unfold Hid
              have h1 := crossF_bd (R r) I J k
              have h2 := HZ0b.out
              rw [hZk]; omega
            rw [← hZk] at HSt ⊢
            have HNk := hide hnk
            have HBk := hide hbk
            have HNx := hide (And.intro hnxe hmod)
            have HLn := hide hlen
            clear hSr hvr hra hRl hRin hin hnk hbk hp hq hZk hnxe hmod hlen
            go_wp2_with fail
            go_region
            obtain ⟨Wq, hWq⟩ : ∃ Wq, Wq = ((wr.alloc (.cells #[.int .i64 px, .int .i64 py] 41)).alloc (.cells #[.int .i64 qx, .int .i64 qy] 41)).drew := ⟨_, rfl⟩
            have hbq : Below wr.heap.size wr Wq := by rw [hWq]; (repeat (any_goals (first | exact Below.refl _ _ | assumption | refine Below.drew ?_ | refine below_drewN ?_ _ | refine Below.setCell ?_ ?_ _ | refine Below.alloc ?_ ?_ _ | omega | (simp; done) | (simp; omega))))
            have hsq : Wq.heap.size = wr.heap.size + 1 + 1 := by rw [hWq]; simp
            have hrp : Wq.rowIs wr.heap.size 41 2 (spt2 px py) := by
              rw [hWq]
              exact World.rowIs.of_block ((sp_row wr px py).alloc _) rfl
            have hrq : Wq.rowIs (wr.heap.size + 1) 41 2 (spt2 qx qy) := by
              have h := sp_row (wr.alloc (.cells #[.int .i64 px, .int .i64 py] 41)) qx qy
              rw [nblk_alloc] at h
              rw [hWq]
              exact World.rowIs.of_block h rfl
            rw [← hWq]
            obtain ⟨sp, hsp⟩ : ∃ sp, sp = wr.heap.size := ⟨_, rfl⟩
            rw [← hsp] at hrp hrq hsq
            try rw [← hsp]
            have HBq := hide (HBk.out.trans (hbq.mono hszk))
            have HRp := hide hrp
            have HRq := hide hrq
            obtain ⟨s0, s1⟩ := spt2_c hrp
            obtain ⟨t0, t1⟩ := spt2_c hrq
            have hx1 := hrp.lt
            have hx2 := hrq.lt
            have hsz6 : w6.heap.size ≤ sp := by omega
            clear hWq hbq hrp hrq hsp c0 c1 e0 e1 hc
            go_wp2_with fail
            refine (kmeets_any px py qx qy I J Wq hP1 hQ1 hI64 hJ64).mono ?_
            obtain ⟨MV, hMV⟩ : ∃ MV, MV = Num.meetsV px py qx qy I J := ⟨_, rfl⟩
            rw [← hMV]
            have HMV := hide hMV
            clear hMV
            rintro e w7 ⟨rfl, hb7⟩
            have hs7 := hb7.size
            have HB7 := hide (HBq.out.trans (hb7.mono (by omega)))
            have hrp7 := row_below HRp.out hb7 (by omega)
            have hrq7 := row_below HRq.out hb7 (by omega)
            clear s0 s1 t0 t1 hx1 hx2 hb7
            obtain ⟨s0, s1⟩ := spt2_c hrp7
            obtain ⟨t0, t1⟩ := spt2_c hrq7
            have hx1 := hrp7.lt
            have hx2 := hrq7.lt
            clear hrp7 hrq7
            cases MV
            · go_wp2_with fail
              refine (kcrosses_any px py qx qy I J w7 hP1 hQ1 hI64 hJ64).mono ?_
              have hcb := Num.cross_bd px py qx qy I J
              obtain ⟨xv, hxv⟩ : ∃ xv, xv = Num.crossV px py qx qy I J := ⟨_, rfl⟩
              rw [← hxv] at HSt hcb ⊢
              rintro e w8 ⟨rfl, hb8⟩
              have HB8 := hide (HB7.out.trans (hb8.mono (by omega)))
              clear hb8 s0 s1 t0 t1 hx1 hx2 hxv
              have hZb := HZk.out
              go_wp2
              go_roundw
              case rel =>
                refine ⟨k + 1, by have := HLn.out; omega, by go_num, ?_, fun q hq => ?_, HB8.out⟩
                · rw [HSt.out]
                · by_cases e : q = k
                  · rw [e, HCh.out, ← HMV.out]
                  · exact HNk.out q (by omega)
              case measure => have := HLn.out; simp [intOf]; omega
            · go_wp2
              go_ret
              exact ⟨rfl, HB6.out.trans (HB7.out.mono (by have := HB6.out.size; omega))⟩
          · have e : k = (R r).length := by omega
            have hkl : k = len := by omega
            rw [← hlen] at hc
            have hdk : decide ((k : Int) < (len : Int)) = false := by simp; omega
            have hgl2 : g < wr.heap.size := (hSr.outer.lt g rfl).2
            have HNr : Hid (∀ q, q < r + 1 → ∀ k, k < (R q).length → Num.chM I J (R q) k = false) := fun q hq k' hk' => by
              by_cases e2 : q = r
              · subst e2; exact hnk k' (by omega)
              · exact HNo.out q (by omega) k' hk'
            have HZr : Hid (Z0 + Num.sumZ (Num.chF (Num.chX I J) (R r)) k = Num.outF (Num.chX I J) R (r + 1)) := by unfold Hid; rw [outF_one, ← HZ0.out, e]; rfl
            have HBk := hide hbk
            obtain ⟨Zk, hZk⟩ : ∃ Z, Z = Z0 + Num.sumZ (Num.chF (Num.chX I J) (R r)) k := ⟨_, rfl⟩
            rw [← hZk] at HZr ⊢
            have hll : ¬ k < len := by omega
            clear hSr hvr hra hRl hRin hnk hbk hZk hlen e
            go_wp2
            go_roundw
            case rel => exact ⟨r + 1, by omega, by go_num, by rw [HZr.out], HNr.out, HBk.out⟩
            case measure => simp [intOf]; omega
      · have e : r = T.length := by omega
        have hd1 : decide ((r : Int) < (T.length : Int)) = false := by simp; omega
        have h1 := crossO_bd R I J (m := T.length) (fun q hq => (HFa.out.2 q hq).1) r hr
        have hfl : Num.areaV R T.length I J = 8192 * Num.outF (Num.chX I J) R r := by rw [e]; exact Num.flat_out (by rw [← e]; exact HNo.out)
        have HHold := hide (holds_any bk W H 1 I J _ _ _ _ _ wo (HC6.out.below HBo.out) hW1 hH1 (by omega) hIW hJH (fun i j _ _ => by
          have h3 := Num.areaV_bd (L := R) (N := T.length) (M := 44400) (i : Int) (j : Int) (fun q hq => (HFa.out.2 q hq).1)
          omega))
        rw [hfl] at HHold
        obtain ⟨Z, hZ⟩ : ∃ Z, Z = Num.outF (Num.chX I J) R r := ⟨_, rfl⟩
        rw [← hZ] at HHold h1 ⊢
        have hZb : -177600 ≤ Z ∧ Z ≤ 177600 := by omega
        clear hfl hZ h1 e
        go_wp2_with fail
        refine HHold.out.mono ?_
        rintro e w9 ⟨rfl, hb9⟩
        have HB9 := hide ((HB6.out.trans (HBo.out.mono (by have := HB6.out.size; omega))).trans (hb9.mono (by have := HB6.out.size; omega)))
        clear hb9
        go_wp2
        go_ret
        exact ⟨rfl, HB9.out⟩
end Go.Proofs.Ytkhcjkmifddlbaa
