/- The law Near. -/
import Derived.Test.YtkhcjkmifddlbaaNearK
namespace Go.Proofs.Ytkhcjkmifddlbaa
open Go.RowKit Go.Deep

/-- The n spots of a list: X k, Y k. -/
def SpotsAt (w : World) (a : Option Addr) (n : Nat) (X Y : Nat → Int) : Prop :=
  n = 0 ∨ ∃ b off, a = some ⟨b, off, none⟩ ∧ ∀ k, k < n → w.cell? ⟨b, off + k * 2, none⟩ = some (.int .i64 (X k)) ∧ w.cell? ⟨b, off + k * 2 + 1, none⟩ = some (.int .i64 (Y k))

def f8 (f : Nat → Int) (q : Nat) : Value := .int .i64 (f q)
theorem f8_set {w : World} {b : Nat} {t : TypeId} {f : Nat → Int} (h : w.rowIs b t 8 (f8 f)) (i : Nat) (x y : Int) (w' : World) (e : w'.heap[b]? = w.heap[b]?) :
    ((w'.setCell ⟨b, i, none⟩ (.int .i64 x)).setCell ⟨b, i + 1, none⟩ (.int .i64 y)).rowIs b t 8 (f8 fun q => if q = i + 1 then y else if q = i then x else f q) := by
  refine (((h.of_block e).set i _).set (i + 1) _).congr fun q hq => ?_
  unfold f8
  by_cases e1 : q = i + 1
  · simp [e1]
  · by_cases e2 : q = i
    · simp [e2]
    · simp [e1, e2]
theorem f8_in {f : Nat → Int} (h : ∀ q, -16384 ≤ f q ∧ f q ≤ 16384) (i : Nat) {x y : Int} (hx : -16384 ≤ x ∧ x ≤ 16384) (hy : -16384 ≤ y ∧ y ≤ 16384) : ∀ q, -16384 ≤ (if q = i + 1 then y else if q = i then x else f q) ∧ (if q = i + 1 then y else if q = i then x else f q) ≤ 16384 := by
  intro q
  split
  · exact hy
  · split
    · exact hx
    · exact h q

theorem keep_set2 {w : World} {h i i' b o : Nat} {u u' v : Value} (hb : b ≠ h) (hc : w.cell? ⟨b, o, none⟩ = some v) : ((w.setCell ⟨h, i, none⟩ u).setCell ⟨h, i', none⟩ u').drew.cell? ⟨b, o, none⟩ = some v := by
  have e : ((w.setCell ⟨h, i, none⟩ u).setCell ⟨h, i', none⟩ u').heap[b]? = w.heap[b]? := by
    rw [blk_setCell_other _ _ _ _ (by simpa using hb), blk_setCell_other _ _ _ _ (by simpa using hb)]
  have e2 : (((w.setCell ⟨h, i, none⟩ u).setCell ⟨h, i', none⟩ u').drew).cell? ⟨b, o, none⟩ = w.cell? ⟨b, o, none⟩ := by
    show (((w.setCell ⟨h, i, none⟩ u).setCell ⟨h, i', none⟩ u')).cell? ⟨b, o, none⟩ = w.cell? ⟨b, o, none⟩
    unfold World.cell?
    rw [e]
  rw [e2]; exact hc
theorem keep_alloc {w : World} {o1 : Obj} {b o : Nat} {v : Value} (hb : b < w.heap.size) (h : w.cell? ⟨b, o, none⟩ = some v) : (w.alloc o1).drew.cell? ⟨b, o, none⟩ = some v := by
  have e : Below w.heap.size w (w.alloc o1).drew := by (repeat (any_goals (first | exact Below.refl _ _ | assumption | refine Below.drew ?_ | refine below_drewN ?_ _ | refine Below.setCell ?_ ?_ _ | refine Below.alloc ?_ ?_ _ | omega | (simp; done) | (simp; omega))))
  exact (e.cell (p := ⟨b, o, none⟩) hb).trans h
theorem keep_alloc2 {w : World} {o1 o2 : Obj} {b o : Nat} {v : Value} (hb : b < w.heap.size) (h : w.cell? ⟨b, o, none⟩ = some v) : ((w.alloc o1).alloc o2).drew.cell? ⟨b, o, none⟩ = some v := by
  have e : Below w.heap.size w ((w.alloc o1).alloc o2).drew := by (repeat (any_goals (first | exact Below.refl _ _ | assumption | refine Below.drew ?_ | refine below_drewN ?_ _ | refine Below.setCell ?_ ?_ _ | refine Below.alloc ?_ ?_ _ | omega | (simp; done) | (simp; omega))))
  exact (e.cell (p := ⟨b, o, none⟩) hb).trans h
theorem in_of {x y : Int} (hx : -16384 ≤ x ∧ x ≤ 16384) (hy : -16384 ≤ y ∧ y ≤ 16384) : Num.inB x y = true := by
  simp [Num.inB, Num.wi]; omega

set_option maxRecDepth 100000 in
set_option maxHeartbeats 4000000 in
theorem near_any (kd : Int) (a : Option Addr) (n c : Nat) (X Y : Nat → Int) (w : World) (k1 : -9223372036854775808 ≤ kd) (k2 : kd ≤ 9223372036854775807) (ho : SpotsAt w a n X Y) :
    Calls Try.prog 8 #[.int .i64 kd, .slice a n c] w fun e w' => e = .returned (.bool true) ∧ Below w.heap.size w w' := by
  have HO := hide ho
  clear ho
  have HZ : Hid ((w.alloc (.cells #[.int .i64 0, .int .i64 0, .int .i64 0, .int .i64 0, .int .i64 0, .int .i64 0, .int .i64 0, .int .i64 0] 49)).rowIs w.heap.size 49 8 (f8 fun _ => 0)) := by
    unfold Hid
    refine World.rowIs_alloc w _ _ (f8 fun _ => 0) (fun q hq => ?_)
    have hq : q < 8 := hq
    rcases (show q = 0 ∨ q = 1 ∨ q = 2 ∨ q = 3 ∨ q = 4 ∨ q = 5 ∨ q = 6 ∨ q = 7 by omega) with rfl | rfl | rfl | rfl | rfl | rfl | rfl | rfl <;> rfl
  go_enter Try.func8, Try.ntmps8
  go_wp2_with fail
  go_loopw [6] (fun t wr => ∃ (j : Nat) (f : Nat → Int), j ≤ 4 ∧ t = .int .i64 j ∧ Below w.heap.size w wr ∧ wr.rowIs w.heap.size 49 8 (f8 f) ∧ ∀ q, -16384 ≤ f q ∧ f q ≤ 16384) (fun t _ => 4 - (intOf t).toNat)
  case atStart => exact ⟨0, fun _ => 0, by omega, rfl, (Below.refl _ _).alloc (Nat.le_refl _) _, HZ.out, fun _ => by simp⟩
  case round =>
    obtain ⟨j, f, hj, rfl, hb, hrow, hf⟩ := hrel
    have hsz := hrow.lt
    by_cases hgo : j < 4 ∧ j < n
    · obtain ⟨h4, hn⟩ := hgo
      rcases HO.out with h | ⟨b, off, rfl, hc⟩
      · omega
      obtain ⟨s0, s1⟩ := hc j hn
      have hbl : b < w.heap.size := World.block_lt_of_cell? w _ s0
      have q0 := (hb.cell (p := ⟨b, _, none⟩) hbl).trans s0
      have q1 := (hb.cell (p := ⟨b, _, none⟩) hbl).trans s1
      have hbw : b < wr.heap.size := by omega
      have c0 := hrow.cell (i := j * 2) (by omega)
      have c1 := hrow.cell (i := j * 2 + 1) (by omega)
      have z0 := hrow.frozen (j * 2)
      have z1 := hrow.frozen (j * 2 + 1)
      simp only [f8] at c0 c1
      have hd1 : decide ((j : Int) < 4) = true := by simp; omega
      have hd2 : decide ((j : Int) < (n : Int)) = true := by simp; omega
      have g0 : (0 : Int) ≤ (j : Int) := by omega
      have g1 : (j : Int) < (n : Int) := by omega
      have g2 : (j : Int) < 4 := by omega
      have hbne : b ≠ w.heap.size := by omega
      obtain ⟨x, hx⟩ : ∃ x, x = X j := ⟨_, rfl⟩
      obtain ⟨y, hy⟩ : ∃ y, y = Y j := ⟨_, rfl⟩
      rw [← hx] at q0
      rw [← hy] at q1
      have HR := hide hrow
      have HF := hide hf
      have HB := hide hb
      clear hc s0 s1 hx hy hrow hf hb
      go_wp2_with fail
      go_region_held3 (fun w' => w'.cell? ⟨b, off + j * 2, none⟩ = some (.int .i64 x) ∧ w'.cell? ⟨b, off + j * 2 + 1, none⟩ = some (.int .i64 y)) (first | exact ⟨keep_set2 hbne q0, keep_set2 hbne q1⟩ | go_keep) ((go_at_call 20; refine (keepNear_any _ _).mono ?_; rintro e w' ⟨rfl, rfl⟩))
      obtain ⟨wS, hwS⟩ : ∃ wS, wS = ((wr.setCell ⟨w.heap.size, j * 2, none⟩ (.int .i64 (nearN x))).setCell ⟨w.heap.size, j * 2 + 1, none⟩ (.int .i64 (nearN y))).drew := ⟨_, rfl⟩
      rw [← hwS]
      have hR2 : wS.rowIs w.heap.size 49 8 (f8 fun q => if q = j * 2 + 1 then nearN y else if q = j * 2 then nearN x else f q) := by
        rw [hwS]; exact f8_set HR.out (j * 2) (nearN x) (nearN y) wr rfl
      have hB2 : Below w.heap.size w wS := by
        rw [hwS]; exact ((HB.out.setCell (Nat.le_refl _) _).setCell (Nat.le_refl _) _).drew
      have HR2 := hide hR2
      clear hwS hR2 q0 q1 c0 c1 z0 z1
      go_wp2
      go_roundw
      case rel => exact ⟨j + 1, _, by omega, by go_num, hB2, HR2.out, f8_in HF.out (j * 2) (nearN_in x) (nearN_in y)⟩
      case measure => simp [intOf]; omega
    · have hkk := pick3_in kd
      have hk : Num.kindB (⟨pick3 kd, f 0, f 1, f 2, f 3, f 4, f 5, f 6, f 7⟩ : Num.Sg) = true := by
        simp only [Num.kindB]; rcases hkk with h | h | h <;> simp [h]
      have hr : Num.rangeB (⟨pick3 kd, f 0, f 1, f 2, f 3, f 4, f 5, f 6, f 7⟩ : Num.Sg) = true := by
        have h0 := in_of (hf 0) (hf 1)
        have h1 := in_of (hf 2) (hf 3)
        have h2 := in_of (hf 4) (hf 5)
        have h3 := in_of (hf 6) (hf 7)
        simp [Num.rangeB, h0, h1, h2, h3]
      obtain ⟨eE, eL⟩ := curve_yes hk hr
      obtain ⟨eN, n1, n2⟩ := curveN_eq hr
      have hends := Num.near_ends hk hr
      have hstep : ∀ i : Int, 0 ≤ i → i < (Num.curveN (⟨pick3 kd, f 0, f 1, f 2, f 3, f 4, f 5, f 6, f 7⟩ : Num.Sg) : Int) → _ := fun i h1 h2 => Num.near_step hk hr h1 h2
      have HCv := hide (fun w => glyphCurve_any (pick3 kd) (f 0) (f 1) (f 2) (f 3) (f 4) (f 5) (f 6) (f 7) w)
      rw [eE, eL] at HCv
      have HHw := hide (fun (i n : Int) w (h1 : 0 ≤ i) (h2 : i < n) (h3 : n ≤ 111) => halfway_any (pick3 kd) (f 0) (f 1) (f 2) (f 3) (f 4) (f 5) (f 6) (f 7) i n w (hf 0) (hf 1) (hf 2) (hf 3) (hf 4) (hf 5) (hf 6) (hf 7) hkk h1 h2 h3)
      have HBd := hide (fun (i n : Int) (h1 : 0 ≤ i) (h2 : i < n) (h3 : n ≤ 111) => half_bd (hf 0) (hf 1) (hf 2) (hf 3) (hf 4) (hf 5) (hf 6) (hf 7) hkk h1 h2 h3)
      have HRow9 := hide (fun w => sg9_row (pick3 kd) (f 0) (f 1) (f 2) (f 3) (f 4) (f 5) (f 6) (f 7) w 44)
      have HC9 := hide (fun (w : World) (b : Nat) (h : w.rowIs b 44 9 (sg9 (pick3 kd) (f 0) (f 1) (f 2) (f 3) (f 4) (f 5) (f 6) (f 7))) => sg9_cells h)
      obtain ⟨F9, hF9⟩ : ∃ F9, F9 = sg9 (pick3 kd) (f 0) (f 1) (f 2) (f 3) (f 4) (f 5) (f 6) (f 7) := ⟨_, rfl⟩
      rw [← hF9] at HRow9 HC9
      obtain ⟨GG, hGG⟩ : ∃ GG : Num.Sg, GG = (⟨pick3 kd, f 0, f 1, f 2, f 3, f 4, f 5, f 6, f 7⟩ : Num.Sg) := ⟨_, rfl⟩
      have hgx : GG.x0 = f 0 ∧ GG.y0 = f 1 ∧ GG.x1 = f 2 ∧ GG.y1 = f 3 ∧ GG.x2 = f 4 ∧ GG.y2 = f 5 ∧ GG.x3 = f 6 ∧ GG.y3 = f 7 := by rw [hGG]; exact ⟨rfl, rfl, rfl, rfl, rfl, rfl, rfl, rfl⟩
      rw [← hGG] at eN n1 n2 hends hstep HCv HHw HBd
      obtain ⟨gx0, gy0, gx1, gy1, gx2, gy2, gx3, gy3⟩ := hgx
      rw [gx0, gy0, gx3, gy3] at hends
      simp only [gx0, gy0, gx1, gy1, gx2, gy2, gx3, gy3] at hstep
      obtain ⟨N, hN⟩ : ∃ N, N = Num.curveN GG := ⟨_, rfl⟩
      rw [← hN] at n1 n2 hends hstep HCv
      have HEn := hide hends
      have HSt := hide hstep
      have c0 := hrow.cell (i := 0) (by omega)
      have c1 := hrow.cell (i := 1) (by omega)
      have c2 := hrow.cell (i := 2) (by omega)
      have c3 := hrow.cell (i := 3) (by omega)
      have c4 := hrow.cell (i := 4) (by omega)
      have c5 := hrow.cell (i := 5) (by omega)
      have c6 := hrow.cell (i := 6) (by omega)
      have c7 := hrow.cell (i := 7) (by omega)
      simp only [f8] at c0 c1 c2 c3 c4 c5 c6 c7
      obtain ⟨K, hK⟩ : ∃ K, K = pick3 kd := ⟨_, rfl⟩
      have HPk := hide (fun w => keepPick_any kd w k1 k2)
      rw [← hK] at HPk HCv HHw HRow9 HC9
      have HB := hide hb
      have hbl := hrow.lt
      have hexit : (decide ((j : Int) < 4) = false) ∨ (decide ((j : Int) < 4) = true ∧ ¬ j < n) := by
        rcases Nat.lt_or_ge j 4 with h | h
        · right; constructor
          · simp; omega
          · omega
        · left; simp; omega
      clear hkk hk hr eE eL eN hends hstep hF9 hGG gx0 gy0 gx1 gy1 gx2 gy2 gx3 gy3 hN hrow hK hb hgo hf
      rcases hexit with hd1 | ⟨hd1, hd2⟩
      · go_wp2_with fail
        go_region_held3 (fun w' => w'.cell? ⟨w.heap.size, 0, none⟩ = some (.int .i64 (f 0)) ∧ w'.cell? ⟨w.heap.size, 1, none⟩ = some (.int .i64 (f 1)) ∧ w'.cell? ⟨w.heap.size, 2, none⟩ = some (.int .i64 (f 2)) ∧ w'.cell? ⟨w.heap.size, 3, none⟩ = some (.int .i64 (f 3)) ∧ w'.cell? ⟨w.heap.size, 4, none⟩ = some (.int .i64 (f 4)) ∧ w'.cell? ⟨w.heap.size, 5, none⟩ = some (.int .i64 (f 5)) ∧ w'.cell? ⟨w.heap.size, 6, none⟩ = some (.int .i64 (f 6)) ∧ w'.cell? ⟨w.heap.size, 7, none⟩ = some (.int .i64 (f 7))) (first | exact ⟨keep_alloc hbl c0, keep_alloc hbl c1, keep_alloc hbl c2, keep_alloc hbl c3, keep_alloc hbl c4, keep_alloc hbl c5, keep_alloc hbl c6, keep_alloc hbl c7⟩ | go_keep) ((go_at_call 21; refine (HPk.out _).mono ?_; rintro e w' ⟨rfl, rfl⟩))
        all_goals
          obtain ⟨wG, hwG⟩ : ∃ wG, wG = (wr.alloc (.cells #[.int .i64 K, .int .i64 (f 0), .int .i64 (f 1), .int .i64 (f 2), .int .i64 (f 3), .int .i64 (f 4), .int .i64 (f 5), .int .i64 (f 6), .int .i64 (f 7)] 44)).drew := ⟨_, rfl⟩
          rw [← hwG]
          have hGr : wG.rowIs wr.heap.size 44 9 F9 := by rw [hwG]; exact HRow9.out wr
          have hGB : Below w.heap.size w wG := by rw [hwG]; exact (HB.out.alloc (by omega) _).drew
          have hGs : wr.heap.size < wG.heap.size := hGr.lt
          have HGr := hide hGr
          obtain ⟨d0, d1, d2, d3, d4, d5, d6, d7, d8⟩ := HC9.out _ _ hGr
          clear hwG hGr c0 c1 c2 c3 c4 c5 c6 c7
          go_wp2_with fail
          refine (HCv.out _).mono ?_
          rintro e w1 ⟨v, rfl, hb1, hown1⟩
          have hs1 := hb1.size
          have hGr1 := row_below HGr.out hb1 hGs
          have hB1 : Below w.heap.size w w1 := hGB.trans (hb1.mono (by omega))
          rw [spotsU_len] at hown1
          obtain ⟨gc, capc, rfl, hgc1, hgc2⟩ := hown1.form (by omega)
          have hat : ∀ i (hi : i < N + 1), w1.cell? ⟨gc, i * 2, none⟩ = some (.int .i64 (Num.spotX GG N i)) ∧ w1.cell? ⟨gc, i * 2 + 1, none⟩ = some (.int .i64 (Num.spotY GG N i)) := fun i hi => by
            have h := owns_sp (l := spotsU GG N (N + 1)) (by rw [spotsU_len]; exact hown1) i (by rw [spotsU_len]; exact hi)
            simpa [spotsU] using h
          obtain ⟨o0, o1⟩ := hat 0 (by omega)
          obtain ⟨o2, o3⟩ := hat N (by omega)
          simp only [Nat.zero_mul, Nat.zero_add] at o0 o1
          have e0 := HEn.out
          rw [show ((0 : Nat) : Int) = 0 from rfl, e0.1] at o0
          rw [show ((0 : Nat) : Int) = 0 from rfl, e0.2.1] at o1
          rw [e0.2.2.1] at o2
          rw [e0.2.2.2] at o3
          have HAt := hide hat
          have HG1 := hide hGr1
          clear d0 d1 d2 d3 d4 d5 d6 d7 d8 hb1 hown1 hGB hat e0 hGr1
          obtain ⟨d0, d1, d2, d3, d4, d5, d6, d7, d8⟩ := HC9.out _ _ HG1.out
          have hGs1 : wr.heap.size < w1.heap.size := by omega
          have gdA : decide ((N : Int) < 1) = false := by simp; omega
          have gdB : decide ((200 : Int) < (N : Int)) = false := by simp; omega
          have ix0 : (0 : Int) < ((N + 1 : Nat) : Int) := by omega
          have ix1 : (N : Int) < ((N + 1 : Nat) : Int) := by omega
          have ix2 : (0 : Int) ≤ (N : Int) := by omega
          go_wp2_with fail
          go_quiet (fail)
          have hBq : Below w1.heap.size w1 (w1.drewN nq) := below_drewN (Below.refl _ _) nq
          clear o0 o1 o2 o3 d0 d1 d2 d3 d4 d5 d6 d7 d8 gdA gdB ix0 ix1
          go_wp2_with fail
          go_loopw [11] (fun t wr => ∃ i : Nat, i ≤ N ∧ t = .int .i64 i ∧ Below w1.heap.size w1 wr) (fun t _ => N - (intOf t).toNat)
          case atStart => exact ⟨0, by omega, rfl, hBq⟩
          case round =>
            obtain ⟨wB, rfl⟩ : ∃ wB, wB = wr := ⟨wr, rfl⟩
            obtain ⟨i, hi, rfl, hb⟩ := hrel
            have hsb := hb.size
            by_cases hlt : i < N
            · have hdi : decide ((i : Int) < (N : Int)) = true := by simp; omega
              have hGrB := row_below HG1.out hb hGs1
              obtain ⟨d0, d1, d2, d3, d4, d5, d6, d7, d8⟩ := HC9.out _ _ hGrB
              have hGsB := hGrB.lt
              obtain ⟨p0, p1⟩ := HAt.out i (by omega)
              obtain ⟨p2, p3⟩ := HAt.out (i + 1) (by omega)
              have r0 := (hb.cell (p := ⟨gc, i * 2, none⟩) hgc2).trans p0
              have r1 := (hb.cell (p := ⟨gc, i * 2 + 1, none⟩) hgc2).trans p1
              have r2 := (hb.cell (p := ⟨gc, (i + 1) * 2, none⟩) hgc2).trans p2
              have r3 := (hb.cell (p := ⟨gc, (i + 1) * 2 + 1, none⟩) hgc2).trans p3
              obtain ⟨b1, b2, b3, b4⟩ := HBd.out i N (by omega) (by omega) (by omega)
              obtain ⟨t1, t2⟩ := HSt.out i (by omega) (by omega)
              have HW1 := hide (fun w => HHw.out i N w (by omega) (by omega) (by omega))
              rw [show (((i + 1 : Nat)) : Int) = (i : Int) + 1 by omega] at r2 r3
              have HT1 := hide (fun w => tight_any (Num.spotX GG N i) (Num.spotY GG N i) (Num.spotX GG N (i + 1)) (Num.spotY GG N (i + 1)) (Num.halfN GG i N (f 0) (f 2) (f 4) (f 6)) (Num.halfN GG i N (f 1) (f 3) (f 5) (f 7)) (Num.halfD GG N) w b3 b4 b1 b2 t1 t2)
              obtain ⟨sx, hsx⟩ : ∃ z, z = Num.spotX GG N i := ⟨_, rfl⟩
              obtain ⟨sy, hsy⟩ : ∃ z, z = Num.spotY GG N i := ⟨_, rfl⟩
              obtain ⟨tx, htx⟩ : ∃ z, z = Num.spotX GG N (i + 1) := ⟨_, rfl⟩
              obtain ⟨ty, hty⟩ : ∃ z, z = Num.spotY GG N (i + 1) := ⟨_, rfl⟩
              obtain ⟨hx, hhx⟩ : ∃ z, z = Num.halfN GG i N (f 0) (f 2) (f 4) (f 6) := ⟨_, rfl⟩
              obtain ⟨hy, hhy⟩ : ∃ z, z = Num.halfN GG i N (f 1) (f 3) (f 5) (f 7) := ⟨_, rfl⟩
              obtain ⟨hd, hhd⟩ : ∃ z, z = Num.halfD GG N := ⟨_, rfl⟩
              rw [← hsx] at r0 HT1
              rw [← hsy] at r1 HT1
              rw [← htx] at r2 HT1
              rw [← hty] at r3 HT1
              rw [← hhx, ← hhy, ← hhd] at HW1 HT1
              clear hGrB p0 p1 p2 p3 b1 b2 b3 b4 t1 t2 hsx hsy htx hty hhx hhy hhd
              go_wp2_with fail
              refine (HW1.out _).mono ?_
              rintro e w' ⟨rfl, rfl⟩
              have hgcB : gc < wB.heap.size := by omega
              have ix3 : (i : Int) + 1 < ((N + 1 : Nat) : Int) := by omega
              have ix4 : (i : Int) < ((N + 1 : Nat) : Int) := by omega
              have ix5 : (0 : Int) ≤ (i : Int) := by omega
              have ix6 : (0 : Int) ≤ (i : Int) + 1 := by omega
              have ix7 : (i : Int) < (N : Int) + 1 := by omega
              have ix8 : (i : Int) + 1 < (N : Int) + 1 := by omega
              have ix9 : IntKind.i64.wrap ((i : Int) + 1) = (i : Int) + 1 := wrap_ok _ (by omega) (by omega)
              have iy1 : (i : Int) < (N : Int) := by omega
              have iy2 : i < N + 1 := by omega
              have iy3 : i + 1 < N + 1 := by omega
              obtain ⟨wH, hwH⟩ : ∃ wH, wH = wB.alloc (.cells #[.int .i64 K, .int .i64 (f 0), .int .i64 (f 1), .int .i64 (f 2), .int .i64 (f 3), .int .i64 (f 4), .int .i64 (f 5), .int .i64 (f 6), .int .i64 (f 7)] 44) := ⟨_, rfl⟩
              rw [← hwH]
              have hbH : Below wB.heap.size wB wH := by rw [hwH]; exact (Below.refl _ _).alloc (Nat.le_refl _) _
              have hsH := hbH.size
              have q0 := (hbH.cell (p := ⟨gc, i * 2, none⟩) hgcB).trans r0
              have q1 := (hbH.cell (p := ⟨gc, i * 2 + 1, none⟩) hgcB).trans r1
              have q2 := (hbH.cell (p := ⟨gc, (i + 1) * 2, none⟩) hgcB).trans r2
              have q3 := (hbH.cell (p := ⟨gc, (i + 1) * 2 + 1, none⟩) hgcB).trans r3
              have hBH : Below w1.heap.size w1 wH := hb.trans (hbH.mono hsb)
              have hgcH : gc < wH.heap.size := by omega
              clear hwH hbH r0 r1 r2 r3 d0 d1 d2 d3 d4 d5 d6 d7 d8 hb
              go_wp2_with fail
              go_region_held3 (fun w' => w'.cell? ⟨gc, i * 2, none⟩ = some (.int .i64 sx) ∧ w'.cell? ⟨gc, i * 2 + 1, none⟩ = some (.int .i64 sy) ∧ w'.cell? ⟨gc, (i + 1) * 2, none⟩ = some (.int .i64 tx) ∧ w'.cell? ⟨gc, (i + 1) * 2 + 1, none⟩ = some (.int .i64 ty)) (first | exact ⟨keep_alloc2 hgcH q0, keep_alloc2 hgcH q1, keep_alloc2 hgcH q2, keep_alloc2 hgcH q3⟩ | go_keep) ((go_at_call 24; refine (HT1.out _).mono ?_; rintro e w' ⟨rfl, rfl⟩))
              all_goals
                go_wp2
                go_roundw
                case rel => exact ⟨i + 1, by omega, by go_num, by (repeat (any_goals (first | exact Below.refl _ _ | assumption | refine Below.drew ?_ | refine below_drewN ?_ _ | refine Below.setCell ?_ ?_ _ | refine Below.alloc ?_ ?_ _ | omega | (simp; done) | (simp; omega))))⟩
                case measure => simp [intOf]; omega
            · have hdi : decide ((i : Int) < (N : Int)) = false := by simp; omega
              go_wp2
              go_ret
              exact ⟨rfl, hB1.trans (hb.mono (by omega))⟩
      · go_wp2_with fail
        go_region_held3 (fun w' => w'.cell? ⟨w.heap.size, 0, none⟩ = some (.int .i64 (f 0)) ∧ w'.cell? ⟨w.heap.size, 1, none⟩ = some (.int .i64 (f 1)) ∧ w'.cell? ⟨w.heap.size, 2, none⟩ = some (.int .i64 (f 2)) ∧ w'.cell? ⟨w.heap.size, 3, none⟩ = some (.int .i64 (f 3)) ∧ w'.cell? ⟨w.heap.size, 4, none⟩ = some (.int .i64 (f 4)) ∧ w'.cell? ⟨w.heap.size, 5, none⟩ = some (.int .i64 (f 5)) ∧ w'.cell? ⟨w.heap.size, 6, none⟩ = some (.int .i64 (f 6)) ∧ w'.cell? ⟨w.heap.size, 7, none⟩ = some (.int .i64 (f 7))) (first | exact ⟨keep_alloc hbl c0, keep_alloc hbl c1, keep_alloc hbl c2, keep_alloc hbl c3, keep_alloc hbl c4, keep_alloc hbl c5, keep_alloc hbl c6, keep_alloc hbl c7⟩ | go_keep) ((go_at_call 21; refine (HPk.out _).mono ?_; rintro e w' ⟨rfl, rfl⟩))
        all_goals
          obtain ⟨wG, hwG⟩ : ∃ wG, wG = (wr.alloc (.cells #[.int .i64 K, .int .i64 (f 0), .int .i64 (f 1), .int .i64 (f 2), .int .i64 (f 3), .int .i64 (f 4), .int .i64 (f 5), .int .i64 (f 6), .int .i64 (f 7)] 44)).drew := ⟨_, rfl⟩
          rw [← hwG]
          have hGr : wG.rowIs wr.heap.size 44 9 F9 := by rw [hwG]; exact HRow9.out wr
          have hGB : Below w.heap.size w wG := by rw [hwG]; exact (HB.out.alloc (by omega) _).drew
          have hGs : wr.heap.size < wG.heap.size := hGr.lt
          have HGr := hide hGr
          obtain ⟨d0, d1, d2, d3, d4, d5, d6, d7, d8⟩ := HC9.out _ _ hGr
          clear hwG hGr c0 c1 c2 c3 c4 c5 c6 c7
          go_wp2_with fail
          refine (HCv.out _).mono ?_
          rintro e w1 ⟨v, rfl, hb1, hown1⟩
          have hs1 := hb1.size
          have hGr1 := row_below HGr.out hb1 hGs
          have hB1 : Below w.heap.size w w1 := hGB.trans (hb1.mono (by omega))
          rw [spotsU_len] at hown1
          obtain ⟨gc, capc, rfl, hgc1, hgc2⟩ := hown1.form (by omega)
          have hat : ∀ i (hi : i < N + 1), w1.cell? ⟨gc, i * 2, none⟩ = some (.int .i64 (Num.spotX GG N i)) ∧ w1.cell? ⟨gc, i * 2 + 1, none⟩ = some (.int .i64 (Num.spotY GG N i)) := fun i hi => by
            have h := owns_sp (l := spotsU GG N (N + 1)) (by rw [spotsU_len]; exact hown1) i (by rw [spotsU_len]; exact hi)
            simpa [spotsU] using h
          obtain ⟨o0, o1⟩ := hat 0 (by omega)
          obtain ⟨o2, o3⟩ := hat N (by omega)
          simp only [Nat.zero_mul, Nat.zero_add] at o0 o1
          have e0 := HEn.out
          rw [show ((0 : Nat) : Int) = 0 from rfl, e0.1] at o0
          rw [show ((0 : Nat) : Int) = 0 from rfl, e0.2.1] at o1
          rw [e0.2.2.1] at o2
          rw [e0.2.2.2] at o3
          have HAt := hide hat
          have HG1 := hide hGr1
          clear d0 d1 d2 d3 d4 d5 d6 d7 d8 hb1 hown1 hGB hat e0 hGr1
          obtain ⟨d0, d1, d2, d3, d4, d5, d6, d7, d8⟩ := HC9.out _ _ HG1.out
          have hGs1 : wr.heap.size < w1.heap.size := by omega
          have gdA : decide ((N : Int) < 1) = false := by simp; omega
          have gdB : decide ((200 : Int) < (N : Int)) = false := by simp; omega
          have ix0 : (0 : Int) < ((N + 1 : Nat) : Int) := by omega
          have ix1 : (N : Int) < ((N + 1 : Nat) : Int) := by omega
          have ix2 : (0 : Int) ≤ (N : Int) := by omega
          go_wp2_with fail
          go_quiet (fail)
          have hBq : Below w1.heap.size w1 (w1.drewN nq) := below_drewN (Below.refl _ _) nq
          clear o0 o1 o2 o3 d0 d1 d2 d3 d4 d5 d6 d7 d8 gdA gdB ix0 ix1
          go_wp2_with fail
          go_loopw [11] (fun t wr => ∃ i : Nat, i ≤ N ∧ t = .int .i64 i ∧ Below w1.heap.size w1 wr) (fun t _ => N - (intOf t).toNat)
          case atStart => exact ⟨0, by omega, rfl, hBq⟩
          case round =>
            obtain ⟨wB, rfl⟩ : ∃ wB, wB = wr := ⟨wr, rfl⟩
            obtain ⟨i, hi, rfl, hb⟩ := hrel
            have hsb := hb.size
            by_cases hlt : i < N
            · have hdi : decide ((i : Int) < (N : Int)) = true := by simp; omega
              have hGrB := row_below HG1.out hb hGs1
              obtain ⟨d0, d1, d2, d3, d4, d5, d6, d7, d8⟩ := HC9.out _ _ hGrB
              have hGsB := hGrB.lt
              obtain ⟨p0, p1⟩ := HAt.out i (by omega)
              obtain ⟨p2, p3⟩ := HAt.out (i + 1) (by omega)
              have r0 := (hb.cell (p := ⟨gc, i * 2, none⟩) hgc2).trans p0
              have r1 := (hb.cell (p := ⟨gc, i * 2 + 1, none⟩) hgc2).trans p1
              have r2 := (hb.cell (p := ⟨gc, (i + 1) * 2, none⟩) hgc2).trans p2
              have r3 := (hb.cell (p := ⟨gc, (i + 1) * 2 + 1, none⟩) hgc2).trans p3
              obtain ⟨b1, b2, b3, b4⟩ := HBd.out i N (by omega) (by omega) (by omega)
              obtain ⟨t1, t2⟩ := HSt.out i (by omega) (by omega)
              have HW1 := hide (fun w => HHw.out i N w (by omega) (by omega) (by omega))
              rw [show (((i + 1 : Nat)) : Int) = (i : Int) + 1 by omega] at r2 r3
              have HT1 := hide (fun w => tight_any (Num.spotX GG N i) (Num.spotY GG N i) (Num.spotX GG N (i + 1)) (Num.spotY GG N (i + 1)) (Num.halfN GG i N (f 0) (f 2) (f 4) (f 6)) (Num.halfN GG i N (f 1) (f 3) (f 5) (f 7)) (Num.halfD GG N) w b3 b4 b1 b2 t1 t2)
              obtain ⟨sx, hsx⟩ : ∃ z, z = Num.spotX GG N i := ⟨_, rfl⟩
              obtain ⟨sy, hsy⟩ : ∃ z, z = Num.spotY GG N i := ⟨_, rfl⟩
              obtain ⟨tx, htx⟩ : ∃ z, z = Num.spotX GG N (i + 1) := ⟨_, rfl⟩
              obtain ⟨ty, hty⟩ : ∃ z, z = Num.spotY GG N (i + 1) := ⟨_, rfl⟩
              obtain ⟨hx, hhx⟩ : ∃ z, z = Num.halfN GG i N (f 0) (f 2) (f 4) (f 6) := ⟨_, rfl⟩
              obtain ⟨hy, hhy⟩ : ∃ z, z = Num.halfN GG i N (f 1) (f 3) (f 5) (f 7) := ⟨_, rfl⟩
              obtain ⟨hd, hhd⟩ : ∃ z, z = Num.halfD GG N := ⟨_, rfl⟩
              rw [← hsx] at r0 HT1
              rw [← hsy] at r1 HT1
              rw [← htx] at r2 HT1
              rw [← hty] at r3 HT1
              rw [← hhx, ← hhy, ← hhd] at HW1 HT1
              clear hGrB p0 p1 p2 p3 b1 b2 b3 b4 t1 t2 hsx hsy htx hty hhx hhy hhd
              go_wp2_with fail
              refine (HW1.out _).mono ?_
              rintro e w' ⟨rfl, rfl⟩
              have hgcB : gc < wB.heap.size := by omega
              have ix3 : (i : Int) + 1 < ((N + 1 : Nat) : Int) := by omega
              have ix4 : (i : Int) < ((N + 1 : Nat) : Int) := by omega
              have ix5 : (0 : Int) ≤ (i : Int) := by omega
              have ix6 : (0 : Int) ≤ (i : Int) + 1 := by omega
              have ix7 : (i : Int) < (N : Int) + 1 := by omega
              have ix8 : (i : Int) + 1 < (N : Int) + 1 := by omega
              have ix9 : IntKind.i64.wrap ((i : Int) + 1) = (i : Int) + 1 := wrap_ok _ (by omega) (by omega)
              have iy1 : (i : Int) < (N : Int) := by omega
              have iy2 : i < N + 1 := by omega
              have iy3 : i + 1 < N + 1 := by omega
              obtain ⟨wH, hwH⟩ : ∃ wH, wH = wB.alloc (.cells #[.int .i64 K, .int .i64 (f 0), .int .i64 (f 1), .int .i64 (f 2), .int .i64 (f 3), .int .i64 (f 4), .int .i64 (f 5), .int .i64 (f 6), .int .i64 (f 7)] 44) := ⟨_, rfl⟩
              rw [← hwH]
              have hbH : Below wB.heap.size wB wH := by rw [hwH]; exact (Below.refl _ _).alloc (Nat.le_refl _) _
              have hsH := hbH.size
              have q0 := (hbH.cell (p := ⟨gc, i * 2, none⟩) hgcB).trans r0
              have q1 := (hbH.cell (p := ⟨gc, i * 2 + 1, none⟩) hgcB).trans r1
              have q2 := (hbH.cell (p := ⟨gc, (i + 1) * 2, none⟩) hgcB).trans r2
              have q3 := (hbH.cell (p := ⟨gc, (i + 1) * 2 + 1, none⟩) hgcB).trans r3
              have hBH : Below w1.heap.size w1 wH := hb.trans (hbH.mono hsb)
              have hgcH : gc < wH.heap.size := by omega
              clear hwH hbH r0 r1 r2 r3 d0 d1 d2 d3 d4 d5 d6 d7 d8 hb
              go_wp2_with fail
              go_region_held3 (fun w' => w'.cell? ⟨gc, i * 2, none⟩ = some (.int .i64 sx) ∧ w'.cell? ⟨gc, i * 2 + 1, none⟩ = some (.int .i64 sy) ∧ w'.cell? ⟨gc, (i + 1) * 2, none⟩ = some (.int .i64 tx) ∧ w'.cell? ⟨gc, (i + 1) * 2 + 1, none⟩ = some (.int .i64 ty)) (first | exact ⟨keep_alloc2 hgcH q0, keep_alloc2 hgcH q1, keep_alloc2 hgcH q2, keep_alloc2 hgcH q3⟩ | go_keep) ((go_at_call 24; refine (HT1.out _).mono ?_; rintro e w' ⟨rfl, rfl⟩))
              all_goals
                go_wp2
                go_roundw
                case rel => exact ⟨i + 1, by omega, by go_num, by (repeat (any_goals (first | exact Below.refl _ _ | assumption | refine Below.drew ?_ | refine below_drewN ?_ _ | refine Below.setCell ?_ ?_ _ | refine Below.alloc ?_ ?_ _ | omega | (simp; done) | (simp; omega))))⟩
                case measure => simp [intOf]; omega
            · have hdi : decide ((i : Int) < (N : Int)) = false := by simp; omega
              go_wp2
              go_ret
              exact ⟨rfl, hB1.trans (hb.mono (by omega))⟩
end Go.Proofs.Ytkhcjkmifddlbaa
