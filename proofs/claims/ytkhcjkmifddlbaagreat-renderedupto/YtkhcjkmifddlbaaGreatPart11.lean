/- Joined: RefE, HeldY, HeldT, HeldR, HeldQ, LentB, HeldD, PlaceC, Checks, Dry. -/
import Derived.Test.YtkhcjkmifddlbaaGreatPart10
import Derived.Test.YtkhcjkmifddlbaaGreatPart2
import Derived.Test.YtkhcjkmifddlbaaGreatPart6
import Derived.Test.YtkhcjkmifddlbaaGreatPart7
import Derived.Test.YtkhcjkmifddlbaaGreatPart5
import Derived.Test.YtkhcjkmifddlbaaGreatPart9
/- RefE -/
namespace Go.Proofs.YtkhcjkmifddlbaaGreat
open Go.RowKit Go.Deep

theorem gr3_pix {w : World} {p : Nat} {t : TypeId} {a b : Int} {v : Value} (h : w.rowIs p t 3 (gr3 a b v)) (u : Value) : (w.setCell ⟨p, 2, none⟩ u).rowIs p t 3 (gr3 a b u) := by
  refine (h.set 2 _).congr fun q hq => ?_
  rcases (show q = 0 ∨ q = 1 ∨ q = 2 by omega) with rfl | rfl | rfl <;> rfl

/-- The areas of the document's canvas, by pixels. -/
def histP (NN : Nat → Nat) (LL : Nat → Nat → List (Int × Int)) (sg : Nat → Int) (k i j : Nat) : Int := histA NN LL sg k (i : Int) (j : Int)

set_option maxRecDepth 100000 in
set_option maxHeartbeats 4000000 in
theorem refGray_any (rb W H k x y a b : Nat) (VR : Nat → Value) (VV : Nat → Nat → Value) (NN : Nat → Nat) (LL : Nat → Nat → List (Int × Int)) (sg : Nat → Int) (vR vS : Value) (w : World) (hR : Rcv w rb W H k VR VV NN LL sg vR vS) (hW : 1 ≤ W ∧ W ≤ 64) (hH : 1 ≤ H ∧ H ≤ 64)
    (ha : 1 ≤ a ∧ x + a ≤ W) (hb : 1 ≤ b ∧ y + b ≤ H) :
    Calls Tryz.prog 22 #[.pointer (some ⟨rb, 0, none⟩), .int .i64 x, .int .i64 y, .int .i64 a, .int .i64 b] w fun e w' => ∃ v, e = .returned (.tuple #[.agg #[.int .i64 a, .int .i64 b, v], .int .i64 0]) ∧ Below w.heap.size w w' ∧ w'.ownsRow w.heap.size 5 1 v (a * b) (u8C (pixL (histP NN LL sg k) x y a (a * b))) := by
  obtain ⟨i0, hi0, hz0, hz1, hz2⟩ := info_parts info_u8
  have HR := hide hR
  have c0 := hR.row.cell (i := 0) (by omega)
  have c1 := hR.row.cell (i := 1) (by omega)
  change w.cell? ⟨rb, 0, none⟩ = some (.int .i64 W) at c0
  change w.cell? ⟨rb, 1, none⟩ = some (.int .i64 H) at c1
  have hbl := hR.row.lt
  obtain ⟨sb, hsb⟩ : ∃ sb, sb = w.heap.size := ⟨_, rfl⟩
  obtain ⟨W1, hW1⟩ : ∃ W1, W1 = w.alloc (.cells #[.int .i64 0, .int .i64 0, .slice none 0 0] 43) := ⟨_, rfl⟩
  obtain ⟨W2, hW2⟩ : ∃ W2, W2 = W1.alloc (.cells #[.int .i64 a, .int .i64 b, .slice none 0 0] 43) := ⟨_, rfl⟩
  have hs1 : W1.heap.size = sb + 1 := by rw [hW1, hsb]; simp
  have hs2 : W2.heap.size = sb + 2 := by rw [hW2]; simp [hs1]
  have HB2 : Hid (Below sb w W2) := by unfold Hid; rw [hW2, hW1, hsb]; (repeat (any_goals (first | exact Below.refl _ _ | assumption | refine Below.drew ?_ | refine below_drewN ?_ _ | refine Below.setCell ?_ ?_ _ | refine Below.alloc ?_ ?_ _ | omega | (simp; done) | (simp; omega))))
  have HZ : Hid (W2.rowIs sb 43 3 (gr3 0 0 (.slice none 0 0))) := by unfold Hid; rw [hW2, hW1, hsb]; exact (gr3_row 0 0 (.slice none 0 0) w 43).alloc _
  have HG : Hid (W2.rowIs (sb + 1) 43 3 (gr3 a b (.slice none 0 0))) := by unfold Hid; rw [← hs1, hW2]; exact gr3_row a b (.slice none 0 0) W1 43
  have HSb : Hid (sb = w.heap.size) := hsb
  have e1 : ¬ (x : Int) < 0 := by omega
  have e2 : ¬ (y : Int) < 0 := by omega
  have e3 : ¬ (a : Int) < 1 := by omega
  have e4 : ¬ (b : Int) < 1 := by omega
  have e5 : ¬ (W : Int) ≤ (x : Int) := by omega
  have e6 : ¬ (H : Int) ≤ (y : Int) := by omega
  have e7 : ¬ (W : Int) - (x : Int) < (a : Int) := by omega
  have e8 : ¬ (H : Int) - (y : Int) < (b : Int) := by omega
  clear hR
  go_enter Tryz.func22, Tryz.ntmps22
  go_wp2_with fail
  rw [← hW1, ← hW2]
  try rw [← hsb]
  clear hW1 hW2 hsb c0 c1
  go_loopw [13] (fun t wr => ∃ (j : Nat) (v : Value), j ≤ b ∧ t = .int .i64 j ∧ Below sb w wr ∧ sb + 2 ≤ wr.heap.size ∧ wr.rowIs sb 43 3 (gr3 0 0 (.slice none 0 0)) ∧ wr.rowIs (sb + 1) 43 3 (gr3 a b v) ∧ wr.ownsRow (sb + 2) 5 1 v (j * a) (u8C (pixL (histP NN LL sg k) x y a (j * a)))) (fun t _ => b - (intOf t).toNat)
  case atStart => exact ⟨0, .slice none 0 0, by omega, rfl, HB2.out, by omega, HZ.out, HG.out, by simp [pixL, u8C]; exact World.ownsRow_nil _ _ _ _⟩
  case round =>
    obtain ⟨wo, rfl⟩ : ∃ wo, wo = wr := ⟨_, rfl⟩
    obtain ⟨j, vo, hj, rfl, hbo, hso, hzo, hgo, howno⟩ := hrel
    by_cases hlt : j < b
    · have hd1 : decide ((j : Int) < (b : Int)) = true := by simp; omega
      have hmj : j * a + a ≤ a * b := by rw [Nat.mul_comm a b]; exact Num.mul_lt_row hlt
      have hab : a * b ≤ 64 * 64 := Nat.mul_le_mul (show a ≤ 64 by omega) (show b ≤ 64 by omega)
      obtain ⟨ja, hja⟩ : ∃ ja, ja = j * a := ⟨_, rfl⟩
      rw [← hja] at howno hmj
      have HJA := hide hja
      have HOo := hide (And.intro hbo (And.intro hso (And.intro hzo (And.intro hgo howno))))
      clear howno hbo hja hso hzo hgo
      go_wp2_with fail
      go_loopw [14] (fun t wr => ∃ (i : Nat) (v : Value), i ≤ a ∧ t = .int .i64 i ∧ Below sb w wr ∧ sb + 2 ≤ wr.heap.size ∧ wr.rowIs sb 43 3 (gr3 0 0 (.slice none 0 0)) ∧ wr.rowIs (sb + 1) 43 3 (gr3 a b v) ∧ wr.ownsRow (sb + 2) 5 1 v (ja + i) (u8C (pixL (histP NN LL sg k) x y a (ja + i)))) (fun t _ => a - (intOf t).toNat)
      case atStart => exact ⟨0, vo, by omega, rfl, HOo.out.1, HOo.out.2.1, HOo.out.2.2.1, HOo.out.2.2.2.1, HOo.out.2.2.2.2⟩
      case round =>
        obtain ⟨i, v, hi, rfl, hb1, hsw, hz1', hg1', hown⟩ := hrel
        have hsz := hb1.size
        by_cases hli : i < a
        · have hdi : decide ((i : Int) < (a : Int)) = true := by simp; omega
          have HCall := hide (refCArea_any rb W H k VR VV NN LL sg vR vS ((x + i : Nat) : Int) ((y + j : Nat) : Int) wr (HR.out.below (by rw [← HSb.out]; exact hb1)) hW hH)
          have hin : (0 : Int) ≤ ((x + i : Nat) : Int) ∧ ((x + i : Nat) : Int) < (W : Int) ∧ (0 : Int) ≤ ((y + j : Nat) : Int) ∧ ((y + j : Nat) : Int) < (H : Int) := by omega
          have hN1 : areaN W H (fun i j => histA NN LL sg k (i : Int) (j : Int)) ((x + i : Nat) : Int) ((y + j : Nat) : Int) = histP NN LL sg k (x + i) (y + j) := by
            unfold areaN histP
            rw [if_pos hin, Int.toNat_natCast, Int.toNat_natCast]
          have hE1 : areaE W H ((x + i : Nat) : Int) ((y + j : Nat) : Int) = 0 := by unfold areaE; rw [if_pos hin]
          rw [hN1, hE1, show ((x + i : Nat) : Int) = (x : Int) + (i : Int) by omega, show ((y + j : Nat) : Int) = (y : Int) + (j : Int) by omega] at HCall
          have hbd := histA_bd ((x + i : Nat) : Int) ((y + j : Nat) : Int) HR.out.fits HR.out.sgn k (Nat.le_refl _)
          have hk := HR.out.most
          have b1 : -9000000000000000000 ≤ histP NN LL sg k (x + i) (y + j) := by unfold histP; omega
          have b2 : histP NN LL sg k (x + i) (y + j) ≤ 9000000000000000000 := by unfold histP; omega
          have HSu := hide (pixL_succ (histP NN LL sg k) x y a (ja + i))
          have hmod : (ja + i) % a = i := by rw [HJA.out, Nat.mul_comm j a, Nat.mul_add_mod, Nat.mod_eq_of_lt hli]
          have hdiv : (ja + i) / a = j := by rw [HJA.out, Nat.mul_comm j a, Nat.mul_add_div (by omega), Nat.div_eq_of_lt hli, Nat.add_zero]
          rw [hmod, hdiv] at HSu
          obtain ⟨z, hz⟩ : ∃ z, z = histP NN LL sg k (x + i) (y + j) := ⟨_, rfl⟩
          rw [← hz] at HCall b1 b2 HSu
          obtain ⟨L, hL⟩ : ∃ L, L = u8C (pixL (histP NN LL sg k) x y a (ja + i)) := ⟨_, rfl⟩
          rw [← hL] at hown
          have HLs : Hid (u8C (pixL (histP NN LL sg k) x y a (ja + i + 1)) = L ++ [.int .u8 (byteV z)]) := by unfold Hid; rw [HSu.out, u8C_snoc, hL]
          have HOw := hide (And.intro hz1' (And.intro hg1' hown))
          have HBw := hide hb1
          clear hmod hdiv hz hL hown hb1 hz1' hg1' hN1 hE1 hin hbd HSu
          go_wp2_with fail
          refine HCall.out.mono ?_
          rintro e w2 ⟨rfl, hb2⟩
          have hs2 := hb2.size
          have hB2 : Below sb w w2 := HBw.out.trans (hb2.mono (by rw [HSb.out]; omega))
          have hown2 := owns_of_block HOw.out.2.2 (fun q hq => hb2.block q (HOw.out.2.2.lt q hq).2)
          have hz2' := row_below HOw.out.1 hb2 HOw.out.1.lt
          have hg2' := row_below HOw.out.2.1 hb2 HOw.out.2.1.lt
          have k2 := (gr3_cells hg2').2.2
          have f2 := hg2'.frozen 2
          have hgl2 := hg2'.lt
          clear hb2 HOw HBw HCall
          go_wp2_with fail
          refine (refShade_any _ _ b1 b2).mono ?_
          rintro e w3 ⟨rfl, hw3⟩
          rw [hw3]
          clear hw3
          go_wp2_with (at_builtin; refine wpList_append_lies _ rfl _ _ 41 rfl (sb + 2) 5 i0 (.int .u8 0) 1 1 Tryz.underlying41 hi0 hz0 hz1 hz2 rfl (by omega) v (ja + i) L rfl (hown2.alloc _) ⟨w2.heap.size, 0, none⟩ 1 1 [.int .u8 (byteV z)] rfl rfl ?a1 ?a2 (by omega) ?a3 ?a4 ?a5 (w2.heap.size + 1) (by simp) ?_)
          try (case a1 => exact news_new w2 [.int .u8 (byteV z)] _ _ rfl)
          case a2 => first | rfl | (intro u hu; simp at hu; subst hu; rfl)
          case a3 => unfold maxLen; omega
          case a4 => omega
          case a5 => first | omega | (simp; omega)
          intro g cap w4 hown4 hgrow hat hlt4
          have hnb : ∀ q, v.ownBlock = some q → sb + 2 ≤ q := fun q hq => (hown2.lt q hq).1
          have hb4 : Below sb w w4 := (hB2.alloc (by rw [HSb.out]; omega) _).grown hgrow (by simp; omega) (fun q hq => by have := hnb q hq; omega)
          have hk4 : ∀ q, q < w2.heap.size → v.ownBlock ≠ some q → w4.heap[q]? = w2.heap[q]? := fun q hq hv => by rw [hgrow.block q (by rw [nblk_alloc]; omega) (fun e => hv e.symm), blk_alloc_lt _ _ _ hq]
          have hz4 := hz2'.of_block (hk4 sb hz2'.lt (fun e => by have := hnb _ e; omega))
          have hg4 := hg2'.of_block (hk4 (sb + 1) hg2'.lt (fun e => by have := hnb _ e; omega))
          have hgge : sb + 2 ≤ g := by
            rcases hat with h | h
            · exact hnb g h
            · omega
          have HG4 := hide (gr3_pix hg4 (.slice (some ⟨g, 0, none⟩) (ja + i + 1) cap))
          have HZ4 : Hid ((w4.setCell ⟨sb + 1, 2, none⟩ (.slice (some ⟨g, 0, none⟩) (ja + i + 1) cap)).rowIs sb 43 3 (gr3 0 0 (.slice none 0 0))) := hz4.of_block (set_otherB (by omega))
          have HO4 : Hid ((w4.setCell ⟨sb + 1, 2, none⟩ (.slice (some ⟨g, 0, none⟩) (ja + i + 1) cap)).ownsRow (sb + 2) 5 1 (.slice (some ⟨g, 0, none⟩) (ja + i + 1) cap) (ja + (i + 1)) (u8C (pixL (histP NN LL sg k) x y a (ja + (i + 1))))) := by
            unfold Hid
            rw [← Nat.add_assoc, HLs.out]
            exact owns_of_block hown4 (fun q hq => set_otherB (by simp [Value.ownBlock] at hq; omega))
          have HB4 : Hid (Below sb w (w4.setCell ⟨sb + 1, 2, none⟩ (.slice (some ⟨g, 0, none⟩) (ja + i + 1) cap))) := hb4.setCell (p := ⟨sb + 1, 2, none⟩) (by simp) _
          have k4 := (gr3_cells hg4).2.2
          have f4 := hg4.frozen 2
          have hgl4 := hg4.lt
          clear hown4 hgrow hat hown2 hB2 hnb hb4 hk4 hz4 hg4 hz2' hg2' k2 f2
          go_wp2
          go_roundw
          case rel => exact ⟨i + 1, _, by omega, by go_num, HB4.out, by simp; omega, HZ4.out, HG4.out, HO4.out⟩
          case measure => simp [intOf]; omega
        · have e : i = a := by omega
          have hdi : decide ((i : Int) < (a : Int)) = false := by simp; omega
          have HO : Hid (wr.ownsRow (sb + 2) 5 1 v ((j + 1) * a) (u8C (pixL (histP NN LL sg k) x y a ((j + 1) * a)))) := by
            unfold Hid
            rw [e, HJA.out, ← Nat.succ_mul] at hown
            exact hown
          have HB := hide (And.intro hb1 (And.intro hsw (And.intro hz1' hg1')))
          clear hown hb1 hz1' hg1'
          go_wp2
          go_roundw
          case rel => exact ⟨j + 1, v, by omega, by go_num, HB.out.1, HB.out.2.1, HB.out.2.2.1, HB.out.2.2.2, HO.out⟩
          case measure => simp [intOf]; omega
    · have e : j = b := by omega
      have hd0 : decide ((j : Int) < (b : Int)) = false := by simp; omega
      have HO : Hid (wo.ownsRow (sb + 2) 5 1 vo (a * b) (u8C (pixL (histP NN LL sg k) x y a (a * b)))) := by
        unfold Hid
        rw [e, Nat.mul_comm b a] at howno
        exact howno
      obtain ⟨z0, z1, z2⟩ := gr3_cells hzo
      obtain ⟨y0, y1, y2⟩ := gr3_cells hgo
      have f0 := hzo.frozen 0
      have f1 := hzo.frozen 1
      have f2 := hzo.frozen 2
      obtain ⟨ao, cap0, hv, _⟩ := owns_formN HO.out
      have HRr := hide (gr3_set hzo a b vo)
      have HB : Hid (Below sb w (((wo.setCell ⟨sb, 0, none⟩ (.int .i64 a)).setCell ⟨sb, 1, none⟩ (.int .i64 b)).setCell ⟨sb, 2, none⟩ vo)) := ((hbo.setCell (p := ⟨sb, 0, none⟩) (Nat.le_refl _) _).setCell (p := ⟨sb, 1, none⟩) (Nat.le_refl _) _).setCell (p := ⟨sb, 2, none⟩) (Nat.le_refl _) _
      have HOF : Hid ((((wo.setCell ⟨sb, 0, none⟩ (.int .i64 a)).setCell ⟨sb, 1, none⟩ (.int .i64 b)).setCell ⟨sb, 2, none⟩ vo).ownsRow sb 5 1 vo (a * b) (u8C (pixL (histP NN LL sg k) x y a (a * b)))) := by
        refine owns_mono (owns_of_block HO.out (fun q hq => ?_)) (by omega)
        have hq1 := (HO.out.lt q hq).1
        have hne : q ≠ sb := by omega
        rw [set_otherB hne, set_otherB hne, set_otherB hne]
      subst hv
      clear howno hbo hzo hgo HO
      go_wp2
      obtain ⟨wF, hwF⟩ : ∃ wF, wF = ((wo.setCell ⟨sb, 0, none⟩ (.int .i64 a)).setCell ⟨sb, 1, none⟩ (.int .i64 b)).setCell ⟨sb, 2, none⟩ (.slice ao (a * b) cap0) := ⟨_, rfl⟩
      rw [← hwF]
      rw [← hwF] at HRr HB HOF
      obtain ⟨g0, g1, g2⟩ := gr3_cells HRr.out
      exact bodyPost_ret (v := .tuple #[.agg #[.int .i64 a, .int .i64 b, .slice ao (a * b) cap0], .int .i64 0]) (by simp [results, Tryz.results22, go_sem, g0, g1, g2]) rfl ⟨_, rfl, by rw [← HSb.out]; exact HB.out, by rw [← HSb.out]; exact HOF.out⟩
set_option maxRecDepth 100000 in
set_option maxHeartbeats 4000000 in
theorem refRender_any (W H : Int) (ad : Option Addr) (N cc : Nat) (A : Nat → Option Addr) (C n : Nat → Nat) (X Y K : Nat → Nat → Int) (a b c d x y : Int) (w : World)
    (hN : N ≤ 4294967296) (hn : ∀ i, i < N → n i ≤ 4294967296) (hS : Num.sumN n N ≤ 1099511627776) (ho : OutAt w ad N A C n X Y K) :
    Calls Tryz.prog 8 #[.slice ad N cc, .agg #[.int .i64 a, .int .i64 b, .int .i64 c, .int .i64 d, .int .i64 x, .int .i64 y], .int .i64 W, .int .i64 H] w fun e w' => ∃ rw rh v l, e = .returned (.tuple #[.agg #[.int .i64 rw, .int .i64 rh, v], .int .i64 (renE W H (traceE N n X Y K ⟨a, b, c, d, x, y⟩))]) ∧ Below w.heap.size w w' ∧ w'.ownsRow w.heap.size 5 1 v (List.length l) (u8C l) ∧
      (renE W H (traceE N n X Y K ⟨a, b, c, d, x, y⟩) ≠ 0 → rw = 0 ∧ rh = 0 ∧ l = []) ∧ (renE W H (traceE N n X Y K ⟨a, b, c, d, x, y⟩) = 0 → rw = W ∧ rh = H ∧ l = pixL (renA (traceL n X Y K ⟨a, b, c, d, x, y⟩) N) 0 0 W.toNat (W.toNat * H.toNat)) := by
  obtain ⟨m, hm⟩ : ∃ m : Num.Mp, m = ⟨a, b, c, d, x, y⟩ := ⟨_, rfl⟩
  obtain ⟨TE, hTE⟩ : ∃ TE, TE = traceE N n X Y K m := ⟨_, rfl⟩
  obtain ⟨L, hL⟩ : ∃ L, L = traceL n X Y K m := ⟨_, rfl⟩
  obtain ⟨W1, hW1⟩ : ∃ W1, W1 = (w.alloc (.cells #[.int .i64 a, .int .i64 b, .int .i64 c, .int .i64 d, .int .i64 x, .int .i64 y] 24)) := ⟨_, rfl⟩
  obtain ⟨W2, hW2⟩ : ∃ W2, W2 = W1.alloc (.cells #[.int .i64 0, .int .i64 0, .slice none 0 0] 43) := ⟨_, rfl⟩
  have hs1 : W1.heap.size = w.heap.size + 1 := by rw [hW1]; simp
  have hs2 : W2.heap.size = w.heap.size + 2 := by rw [hW2]; simp [hs1]
  have HB1 : Hid (Below w.heap.size w W1) := by unfold Hid; rw [hW1]; (repeat (any_goals (first | exact Below.refl _ _ | assumption | refine Below.drew ?_ | refine below_drewN ?_ _ | refine Below.setCell ?_ ?_ _ | refine Below.alloc ?_ ?_ _ | omega | (simp; done) | (simp; omega))))
  have HB2 : Hid (Below w.heap.size w W2) := by unfold Hid; rw [hW2]; exact HB1.out.alloc (by omega) _
  have HM : Hid (W2.rowIs w.heap.size 24 6 (mp6 a b c d x y)) := by
    unfold Hid; rw [hW2, hW1]; exact (mp6_row a b c d x y w 24).alloc _
  have HZ : Hid (W2.rowIs (w.heap.size + 1) 43 3 (gr3 0 0 (.slice none 0 0))) := by
    unfold Hid; rw [← hs1, hW2]; exact gr3_row 0 0 (.slice none 0 0) W1 43
  have HO := hide (ho.below HB2.out)
  have HN := hide hn
  rw [← hm, ← hTE, ← hL]
  clear ho hn
  cases hnb : newB W H 0
  · have hre : renE W H TE = 1 := by unfold renE; rw [if_pos hnb]
    have HCall := hide (refNew_no W H 0 W2 hnb)
    rw [hre]
    obtain ⟨z0, z1, z2⟩ := gr3_cells HZ.out
    have f0 := HZ.out.frozen 0
    have f1 := HZ.out.frozen 1
    have f2 := HZ.out.frozen 2
    have hsl : w.heap.size + 1 < W2.heap.size := by omega
    have HR := hide (gr3_set HZ.out 0 0 (.slice none 0 0))
    clear hre hm hTE hL
    go_enter Tryz.func8, Tryz.ntmps8
    go_wp2_with fail
    rw [← hW1, ← hW2]
    refine HCall.out.mono ?_
    rintro e w3 ⟨rfl, hw3⟩
    rw [hw3]
    clear hW1 hW2 hw3 HCall
    go_wp2
    obtain ⟨wF, hwF⟩ : ∃ wF, wF = ((W2.setCell ⟨w.heap.size + 1, 0, none⟩ (.int .i64 0)).setCell ⟨w.heap.size + 1, 1, none⟩ (.int .i64 0)).setCell ⟨w.heap.size + 1, 2, none⟩ (.slice none 0 0) := ⟨_, rfl⟩
    have HBF : Hid (Below w.heap.size w wF) := by
      unfold Hid
      rw [hwF]
      have := HB2.out
      (repeat (any_goals (first | exact Below.refl _ _ | assumption | refine Below.drew ?_ | refine below_drewN ?_ _ | refine Below.setCell ?_ ?_ _ | refine Below.alloc ?_ ?_ _ | omega | (simp; done) | (simp; omega))))
    rw [← hwF]
    rw [← hwF] at HR
    obtain ⟨g0, g1, g2⟩ := gr3_cells HR.out
    exact bodyPost_ret (v := .tuple #[.agg #[.int .i64 0, .int .i64 0, .slice none 0 0], .int .i64 1]) (by simp [results, Tryz.results8, go_sem, g0, g1, g2]) rfl ⟨0, 0, .slice none 0 0, [], rfl, HBF.out, World.ownsRow_nil _ _ _ _, fun _ => ⟨rfl, rfl, rfl⟩, fun e => by simp at e⟩
  · obtain ⟨hW, hH, _⟩ := newB_yes hnb
    obtain ⟨wn, hwn⟩ : ∃ wn : Nat, (wn : Int) = W := ⟨W.toNat, by omega⟩
    obtain ⟨hn', hhn⟩ : ∃ hn' : Nat, (hn' : Int) = H := ⟨H.toNat, by omega⟩
    subst hwn hhn
    have hre : renE (wn : Int) (hn' : Int) TE = TE := by unfold renE; rw [hnb]; rfl
    rw [hre]
    have hw1 : 1 ≤ wn ∧ wn ≤ 64 := by omega
    have hh1 : 1 ≤ hn' ∧ hn' ≤ 64 := by omega
    have HNew := hide (refNew_yes wn hn' 0 W2 hw1 hh1 (.inl rfl))
    obtain ⟨rb, hrb⟩ : ∃ rb, rb = W2.heap.size := ⟨_, rfl⟩
    rw [← hrb] at HNew
    have hrb2 : rb = w.heap.size + 2 := by omega
    obtain ⟨W4, hW4⟩ : ∃ W4, W4 = W2.alloc (.cells #[.int .i64 (wn : Int), .int .i64 (hn' : Int), .slice none 0 0, .slice none 0 0] 104) := ⟨_, rfl⟩
    have hs4 : W4.heap.size = w.heap.size + 3 := by rw [hW4]; simp [hs2]
    have hb24 : Below W2.heap.size W2 W4 := by rw [hW4]; exact (Below.refl _ _).alloc (Nat.le_refl _) _
    have hRc : Rcv W4 rb wn hn' 0 (fun _ => .slice none 0 0) (fun _ _ => .slice none 0 0) (fun _ => 0) (fun _ _ => []) (fun _ => 1) (.slice none 0 0) (.slice none 0 0) := Rcv.start (by rw [hrb, hW4]; exact rc4_alloc wn hn' (.slice none 0 0) (.slice none 0 0) W2 104)
    have hM4 := row_below HM.out hb24 (by omega)
    obtain ⟨d0, d1, d2, d3, d4, d5⟩ := mp6_cells hM4
    have hM4l := hM4.lt
    have HTk := hide (refTake_any rb wn hn' 0 _ _ _ _ _ _ _ ad N cc A C n X Y K a b c d x y 1 W4 hRc (.inl rfl) hN HN.out hS (HO.out.below hb24))
    rw [layE_zero, ← hm, ← hTE, ← hL] at HTk
    have HZ4 := hide (row_below HZ.out hb24 (by omega))
    have HB4 : Hid (Below w.heap.size w W4) := HB2.out.trans (hb24.mono (by omega))
    have HRb := hide hrb2
    have hs4' : w.heap.size + 2 < W4.heap.size := by omega
    clear hre hnb hW hH hm hTE hL hM4 hb24 hRc HM HZ hrb hrb2 hs2 hs4 hs1
    go_enter Tryz.func8, Tryz.ntmps8
    go_wp2_with fail
    rw [← hW1, ← hW2]
    refine HNew.out.mono ?_
    rintro e w3 ⟨rfl, hw3⟩
    rw [hw3, ← hW4]
    clear hW1 hW2 hW4 hw3 HNew
    go_wp2_with fail
    refine HTk.out.mono ?_
    rintro e w5 ⟨rfl, hT5, hno, hyes⟩
    have hs5 := hT5.size
    have hrc : ∀ q, rcS rb (.slice none 0 0) (.slice none 0 0) q → w.heap.size + 2 ≤ q := fun q hq => by
      rcases hq with rfl | hq | hq
      · rw [HRb.out]; exact Nat.le_refl _
      · simp [Value.ownBlock] at hq
      · simp [Value.ownBlock] at hq
    have HB5 : Hid (Below w.heap.size w w5) := HB4.out.trans (hT5.below (B := w.heap.size) (by omega) (fun q hq => by have := hrc q hq; omega))
    have hZ5 := hT5.row HZ4.out (fun e => by have := hrc _ e; omega)
    have hsl : w.heap.size + 1 < w5.heap.size := hZ5.lt
    by_cases h0 : TE = 0
    · obtain ⟨v, V, vR', vS', hC5, _⟩ := hyes h0
      have HGr := hide (refGray_any rb wn hn' (0 + 1) 0 0 wn hn' _ _ _ _ _ _ _ w5 hC5 hw1 hh1 ⟨by omega, by omega⟩ ⟨by omega, by omega⟩)
      have HZ5 := hide hZ5
      have HP : Hid (pixL (histP (fun q => if q = 0 then N else 0) (fun q => if q = 0 then L else fun _ => []) (fun q => if q = 0 then (1 : Int) else 1) (0 + 1)) 0 0 wn (wn * hn') = pixL (renA L N) 0 0 wn (wn * hn')) := by
        unfold Hid
        congr 1
        funext i j
        unfold renA histP histA
        simp [Num.sumZ]
      rw [HP.out, show (((0 : Nat)) : Int) = 0 from rfl] at HGr
      have hte : (TE != 0) = false := by simp [h0]
      clear hT5 hno hyes hC5 hZ5 HTk HP hrc
      go_wp2_with fail
      refine HGr.out.mono ?_
      rintro e w6 ⟨v6, rfl, hb6, hown⟩
      have hs6 := hb6.size
      have hZ6 := row_below HZ5.out hb6 (by omega)
      obtain ⟨z0, z1, z2⟩ := gr3_cells hZ6
      have f0 := hZ6.frozen 0
      have f1 := hZ6.frozen 1
      have f2 := hZ6.frozen 2
      have hsl6 : w.heap.size + 1 < w6.heap.size := by omega
      obtain ⟨ao, cap0, hv, _⟩ := owns_formN hown
      have HR := hide ((gr3_set hZ6 wn hn' v6).alloc (.cells #[.int .i64 wn, .int .i64 hn', v6] 43))
      have hB : Below w.heap.size w w6 := HB5.out.trans (hb6.mono (by have := HB5.out.size; omega))
      have HB : Hid (Below w.heap.size w ((((w6.setCell ⟨w.heap.size + 1, 0, none⟩ (.int .i64 wn)).setCell ⟨w.heap.size + 1, 1, none⟩ (.int .i64 hn')).setCell ⟨w.heap.size + 1, 2, none⟩ v6).alloc (.cells #[.int .i64 wn, .int .i64 hn', v6] 43))) := (((hB.setCell (p := ⟨w.heap.size + 1, 0, none⟩) (by simp) _).setCell (p := ⟨w.heap.size + 1, 1, none⟩) (by simp) _).setCell (p := ⟨w.heap.size + 1, 2, none⟩) (by simp) _).alloc (by simp; omega) _
      have HOF : Hid (((((w6.setCell ⟨w.heap.size + 1, 0, none⟩ (.int .i64 wn)).setCell ⟨w.heap.size + 1, 1, none⟩ (.int .i64 hn')).setCell ⟨w.heap.size + 1, 2, none⟩ v6).alloc (.cells #[.int .i64 wn, .int .i64 hn', v6] 43)).ownsRow w.heap.size 5 1 v6 (wn * hn') (u8C (pixL (renA L N) 0 0 wn (wn * hn')))) := by
        refine owns_mono (owns_of_block hown (fun q hq => ?_)) (by omega)
        have hq1 := hown.lt q hq
        have hne : q ≠ w.heap.size + 1 := by omega
        rw [blk_alloc_lt _ _ _ (by simp; omega), set_otherB hne, set_otherB hne, set_otherB hne]
      subst hv
      clear hown hb6 hZ6 hB HGr
      go_wp2
      obtain ⟨wF, hwF⟩ : ∃ wF, wF = (((w6.setCell ⟨w.heap.size + 1, 0, none⟩ (.int .i64 wn)).setCell ⟨w.heap.size + 1, 1, none⟩ (.int .i64 hn')).setCell ⟨w.heap.size + 1, 2, none⟩ (.slice ao (wn * hn') cap0)).alloc (.cells #[.int .i64 wn, .int .i64 hn', .slice ao (wn * hn') cap0] 43) := ⟨_, rfl⟩
      rw [← hwF]
      rw [← hwF] at HR HB HOF
      obtain ⟨g0, g1, g2⟩ := gr3_cells HR.out
      have hpl := pixL_len (renA L N) 0 0 wn (wn * hn')
      exact bodyPost_ret (v := .tuple #[.agg #[.int .i64 wn, .int .i64 hn', .slice ao (wn * hn') cap0], .int .i64 0]) (by simp [results, Tryz.results8, go_sem, g0, g1, g2]) rfl ⟨wn, hn', _, pixL (renA L N) 0 0 wn (wn * hn'), by rw [h0], HB.out, by rw [hpl]; exact HOF.out, fun e => absurd h0 e, fun _ => ⟨rfl, rfl, by simp⟩⟩
    · have hte : (TE != 0) = true := by simp [h0]
      obtain ⟨z0, z1, z2⟩ := gr3_cells hZ5
      have f0 := hZ5.frozen 0
      have f1 := hZ5.frozen 1
      have f2 := hZ5.frozen 2
      have HR := hide (gr3_set hZ5 0 0 (.slice none 0 0))
      clear hT5 hno hyes hZ5 HTk hrc
      go_wp2
      obtain ⟨wF, hwF⟩ : ∃ wF, wF = ((w5.setCell ⟨w.heap.size + 1, 0, none⟩ (.int .i64 0)).setCell ⟨w.heap.size + 1, 1, none⟩ (.int .i64 0)).setCell ⟨w.heap.size + 1, 2, none⟩ (.slice none 0 0) := ⟨_, rfl⟩
      have HBF : Hid (Below w.heap.size w wF) := by
        unfold Hid
        rw [hwF]
        have := HB5.out
        (repeat (any_goals (first | exact Below.refl _ _ | assumption | refine Below.drew ?_ | refine below_drewN ?_ _ | refine Below.setCell ?_ ?_ _ | refine Below.alloc ?_ ?_ _ | omega | (simp; done) | (simp; omega))))
      rw [← hwF]
      rw [← hwF] at HR
      obtain ⟨g0, g1, g2⟩ := gr3_cells HR.out
      exact bodyPost_ret (v := .tuple #[.agg #[.int .i64 0, .int .i64 0, .slice none 0 0], .int .i64 TE]) (by simp [results, Tryz.results8, go_sem, g0, g1, g2]) rfl ⟨0, 0, .slice none 0 0, [], rfl, HBF.out, World.ownsRow_nil _ _ _ _, fun _ => ⟨rfl, rfl, rfl⟩, fun e => absurd e h0⟩
end Go.Proofs.YtkhcjkmifddlbaaGreat

/- HeldY -/
namespace Go.Proofs.YtkhcjkmifddlbaaGreat
open Go.RowKit Go.Deep

/-- n bytes in memory, X k the k-th. -/
def ByAt (w : World) (a : Option Addr) (n : Nat) (X : Nat → Int) : Prop :=
  n = 0 ∨ ∃ b off, a = some ⟨b, off, none⟩ ∧ ∀ k, k < n → w.cell? ⟨b, off + k, none⟩ = some (.int .u8 (X k))
theorem ByAt.below {w w' : World} {a : Option Addr} {n : Nat} {X : Nat → Int} (h : ByAt w a n X) (hb : Below w.heap.size w w') : ByAt w' a n X := by
  rcases h with h | ⟨b, off, ha, hc⟩
  · exact Or.inl h
  · refine Or.inr ⟨b, off, ha, fun k hk => ?_⟩
    have c0 := hc k hk
    have hlt : b < w.heap.size := World.block_lt_of_cell? w _ c0
    exact (hb.cell (p := ⟨b, _, none⟩) hlt).trans c0
theorem ByAt.of_row {w : World} {b n m : Nat} {t : TypeId} {f : Nat → Value} {X : Nat → Int} (h : w.rowIs b t m f) (hn : n ≤ m) (hf : ∀ k, k < n → f k = .int .u8 (X k)) : ByAt w (some ⟨b, 0, none⟩) n X :=
  .inr ⟨b, 0, rfl, fun k hk => by rw [Nat.zero_add, h.cell (i := k) (by omega), hf k hk]⟩

set_option maxRecDepth 100000 in
set_option maxHeartbeats 1000000 in
theorem sameBytes_any (a a' : Option Addr) (n c c' : Nat) (X : Nat → Int) (w : World) (hn : (n : Int) ≤ 9223372036854775807) (h1 : ByAt w a n X) (h2 : ByAt w a' n X) :
    Calls Tryz.prog 24 #[.slice a n c, .slice a' n c'] w fun e w' => e = .returned (.bool true) ∧ ∃ nd, w' = w.drewN nd := by
  have H1 := hide h1
  have H2 := hide h2
  clear h1 h2
  go_enter Tryz.func24, Tryz.ntmps24
  go_wp2_with fail
  go_loopw [5] (fun i wr => ∃ k nd : Nat, k ≤ n ∧ i = .int .i64 k ∧ wr = w.drewN nd) (fun i _ => n - (intOf i).toNat)
  case atStart => exact ⟨0, 0, by omega, rfl, rfl⟩
  case round =>
    obtain ⟨k, nd, hk, rfl, rfl⟩ := hrel
    by_cases hlt : k < n
    · obtain h0 | ⟨b, off, rfl, hc⟩ := H1.out
      · omega
      obtain h0 | ⟨b', off', rfl, hc'⟩ := H2.out
      · omega
      have q0 := hc k hlt
      have q1 := hc' k hlt
      clear hc hc'
      have g0 : (0 : Int) ≤ (k : Int) := by omega
      have g1 : (k : Int) < (n : Int) := by omega
      have hd1 : decide ((k : Int) < (n : Int)) = true := by simp; omega
      go_wp2
      go_quiet (fail)
      go_wp2
      go_roundw
      case rel => exact ⟨k + 1, nd + nq, by omega, by go_num, rfl⟩
      case measure => simp [intOf]; omega
    · have hd0 : decide ((k : Int) < (n : Int)) = false := by simp; omega
      go_wp2
      go_ret
      exact ⟨rfl, nd, rfl⟩

theorem below_drewN_self (w : World) (n : Nat) : Below w.heap.size w (w.drewN n) := below_drewN (Below.refl _ _) _

set_option maxRecDepth 100000 in
set_option maxHeartbeats 1000000 in
theorem sameGray_any (a a' : Option Addr) (n c c' : Nat) (W H : Int) (X : Nat → Int) (w : World) (hn : (n : Int) ≤ 9223372036854775807) (h1 : ByAt w a n X) (h2 : ByAt w a' n X) :
    Calls Tryz.prog 10 #[.agg #[.int .i64 W, .int .i64 H, .slice a n c], .agg #[.int .i64 W, .int .i64 H, .slice a' n c']] w fun e w' => e = .returned (.bool true) ∧ Below w.heap.size w w' := by
  obtain ⟨W1, hW1⟩ : ∃ W1, W1 = w.alloc (.cells #[.int .i64 W, .int .i64 H, .slice a n c] 43) := ⟨_, rfl⟩
  obtain ⟨W2, hW2⟩ : ∃ W2, W2 = W1.alloc (.cells #[.int .i64 W, .int .i64 H, .slice a' n c'] 43) := ⟨_, rfl⟩
  have hB : Below w.heap.size w W2 := by rw [hW2, hW1]; (repeat (any_goals (first | exact Below.refl _ _ | assumption | refine Below.drew ?_ | refine below_drewN ?_ _ | refine Below.setCell ?_ ?_ _ | refine Below.alloc ?_ ?_ _ | omega | (simp; done) | (simp; omega))))
  have HC := hide (sameBytes_any a a' n c c' X W2 hn (h1.below hB) (h2.below hB))
  have HB := hide hB
  clear h1 h2 hB
  go_enter Tryz.func10, Tryz.ntmps10
  go_wp2_with fail
  rw [← hW1, ← hW2]
  refine HC.out.mono ?_
  rintro e w' ⟨rfl, nd, hw⟩
  have hB3 : Below w.heap.size w w' := by rw [hw]; exact below_drewN HB.out nd
  rw [hw, hW2, hW1]
  rw [hw, hW2, hW1] at hB3
  clear HC hw hW1 hW2 HB
  go_wp2
  go_ret
  exact ⟨rfl, hB3⟩

theorem info_hb : (Tryz.prog.info? 64).map (fun i => (i.zero, i.size, i.bytes)) = some (some (.agg #[.slice none 0 0, .int .i64 0]), 2, 32) := by kernel_rfl

theorem markB_step {wr : World} {b m i : Nat} {t : TypeId} {f : Nat → Value} {mk : Int} (h : wr.rowIs b t m f) (hf : ∀ q, q < i → f q = mkB mk q) :
    ∃ f', (wr.setCell ⟨b, i, none⟩ (mkB mk i)).rowIs b t m f' ∧ ∀ q, q < i + 1 → f' q = mkB mk q := by
  refine ⟨_, h.set i _, fun q hq => ?_⟩
  by_cases e1 : q = i
  · subst e1; rw [if_pos rfl]
  rw [if_neg e1]
  exact hf q (by omega)

/-- What bytes may write. -/
def byteS (h : Nat) (s : HS) (x : Value) (b : Nat) : Prop := b = h ∨ s.vB.ownBlock = some b ∨ x.ownBlock = some b

/-- A list of bytes that is the caller's own, whole. -/
def ByRow (w : World) (x : Value) : Prop :=
  ∃ (ao : Option Nat) (n cap : Nat), x = .slice (ao.map fun b => ⟨b, 0, none⟩) n cap ∧ n ≤ cap ∧ (cap : Int) ≤ 9223372036854775807 ∧ (ao = none → cap = 0) ∧ ∀ b, ao = some b → ∃ f, w.rowIs b 5 cap f

theorem ByRow.of_owns {w : World} {base n : Nat} {x : Value} {xs : List Value} (hx : w.ownsRow base 5 1 x n xs) : ByRow w x := by
  rcases hx.2 with ⟨rfl, h0⟩ | ⟨g, cap, cur, rfl, _, hg, hle, hcap, hsz, _⟩
  · exact ⟨none, 0, 0, by first | rfl | (rw [h0]; rfl), by omega, by omega, fun _ => rfl, fun b hb => by cases hb⟩
  · refine ⟨some g, n, cap, rfl, hle, by unfold maxLen at hcap; omega, (fun e => by cases e), fun b hb => ?_⟩
    simp at hb; subst hb
    exact ⟨fun q => cur[q]?.getD undef, cur, hg, by omega, fun i hi => by simp [show i < cur.size by omega]⟩
theorem ByRow.of_row {w : World} {b n cap : Nat} {f : Nat → Value} (h : w.rowIs b 5 cap f) (hn : n ≤ cap) (hc : (cap : Int) ≤ 9223372036854775807) : ByRow w (.slice (some ⟨b, 0, none⟩) n cap) :=
  ⟨some b, n, cap, rfl, hn, hc, (fun e => by cases e), fun x hx => ⟨f, by simp at hx; subst hx; exact h⟩⟩
theorem ByRow.nil {w : World} : ByRow w (.slice none 0 0) := ⟨none, 0, 0, rfl, by omega, by omega, fun _ => rfl, fun b hb => by cases hb⟩
theorem ByRow.of_blocks {w w' : World} {x : Value} (h : ByRow w x) (e : ∀ b, x.ownBlock = some b → w'.heap[b]? = w.heap[b]?) : ByRow w' x := by
  obtain ⟨ao, n, cap, rfl, hle, hcap, hnil, hrow⟩ := h
  refine ⟨ao, n, cap, rfl, hle, hcap, hnil, fun b hb => ?_⟩
  obtain ⟨f, hf⟩ := hrow b hb
  subst hb
  exact ⟨f, hf.of_block (e b rfl)⟩
theorem ByRow.lt {w : World} {x : Value} (h : ByRow w x) {b : Nat} (hb : x.ownBlock = some b) : b < w.heap.size ∧ tyOf w b = some 5 := by
  obtain ⟨ao, n, cap, rfl, hle, hcap, hnil, hrow⟩ := h
  cases ao with
  | none => simp [Value.ownBlock] at hb
  | some q =>
    simp [Value.ownBlock] at hb
    subst hb
    obtain ⟨f, hf⟩ := hrow q rfl
    exact ⟨hf.lt, row_ty hf⟩

/-- What stays as it was, and what is new among the bytes. -/
structure BytesKept (w : World) (s s' : HS) (x : Value) : Prop where
  n : s'.n = s.n + 1
  cs : s'.cs = s.cs
  rs : s'.rs = s.rs
  P : s'.P = s.P
  O : s'.O = s.O
  S : s'.S = s.S
  T : s'.T = s.T
  R : s'.R = s.R
  B : ∀ e ∈ s'.B, e ∈ s.B ∨ e.1 = x.ownBlock
  vB : s'.vB.ownBlock = s.vB.ownBlock ∨ ∃ g, s'.vB.ownBlock = some g ∧ w.heap.size ≤ g

set_option maxRecDepth 100000 in
set_option maxHeartbeats 4000000 in
theorem heldBytes_any (h : Nat) (x : Value) (s : HS) (w : World) (H : HeldInv w h s) (hx : ByRow w x) (hne : ∀ b, x.ownBlock = some b → ∀ e ∈ s.B, e.1 ≠ some b) (hn : s.n + 1 ≤ 1099511627776) :
    Calls Tryz.prog 12 #[.pointer (some ⟨h, 2, none⟩), x] w fun e w' => e = .returned (.tuple #[]) ∧ Touch (byteS h s x) w w' ∧ ∃ s', HeldInv w' h s' ∧ BytesKept w s s' x := by
  have l0 : 0 ≤ s.n := by have := H.lo; omega
  have HH := hide H
  have HNe := hide hne
  obtain ⟨ao, n, cap, rfl, hle, hcap, hnil, hrow⟩ := hx
  have hob : (Value.slice (ao.map fun b => (⟨b, 0, none⟩ : Addr)) n cap).ownBlock = ao := by cases ao <;> rfl
  have HRow := hide hrow
  have HNil := hide hnil
  have HOB := hide hob
  clear H hne hrow hob
  obtain ⟨ad, had⟩ : ∃ ad, ad = ao.map (fun b => (⟨b, 0, none⟩ : Addr)) := ⟨_, rfl⟩
  rw [← had]
  have HAD := hide had
  clear had
  have hcapn : ad = none → cap = 0 := fun e => by
    have := HAD.out
    rw [e] at this
    cases ao with
    | none => exact hnil rfl
    | some b => simp at this
  clear hnil
  go_enter Tryz.func12, Tryz.ntmps12
  go_wp2_with fail
  refine (mark_any h _ _ HH.out hn).mono ?_
  rintro e w1 ⟨rfl, hw1⟩
  have hT1 : Touch (fun b => b = h) w w1 := by rw [hw1]; exact Touch.setCell (S := fun b => b = h) (Touch.refl _ _) (.inl (by rfl)) _
  have hI1 : HeldInv w1 h { s with n := s.n + 1 } := by rw [hw1]; exact HH.out.marked hn
  have hR1 : ∀ b, ao = some b → ∃ f, w1.rowIs b 5 cap f := fun b hb => by
    obtain ⟨f, hf⟩ := HRow.out b hb
    exact ⟨f, hT1.row hf (row_ne hf HH.out.wd (by decide))⟩
  have HT1 := hide hT1
  have HI1 := hide hI1
  have HR1 := hide hR1
  clear hw1 hT1 hI1 hR1
  obtain ⟨mk, hmk⟩ : ∃ mk, mk = s.n + 1 := ⟨_, rfl⟩
  rw [← hmk]
  have m0 : 0 ≤ mk := by omega
  have m1 : mk ≤ 1099511627776 := by omega
  have HM := hide hmk
  clear hmk
  go_wp2_with fail
  go_loopw [6] (fun t wr => ∃ i : Nat, i ≤ cap ∧ t = .int .i64 i ∧ Touch (fun b => ao = some b) w1 wr ∧ ∀ b, ao = some b → ∃ f, wr.rowIs b 5 cap f ∧ ∀ q, q < i → f q = mkB mk q) (fun t _ => cap - (intOf t).toNat)
  case atStart =>
    refine ⟨0, by omega, rfl, Touch.refl _ _, fun b hb => ?_⟩
    obtain ⟨f, hf⟩ := HR1.out b hb
    exact ⟨f, hf, by omega⟩
  case round =>
    obtain ⟨i, hi, rfl, hq, hrows⟩ := hrel
    by_cases hlt : i < cap
    · have hd1 : decide ((i : Int) < (cap : Int)) = true := by simp; omega
      have hex : ∃ b, ao = some b := by
        cases hao : ao with
        | none =>
          exfalso
          have := hcapn (by rw [HAD.out, hao]; rfl)
          omega
        | some b => exact ⟨b, rfl⟩
      obtain ⟨b, hao⟩ := hex
      obtain ⟨f, hr, hf⟩ := hrows b hao
      have had : ad = some ⟨b, 0, none⟩ := by rw [HAD.out, hao]; rfl
      subst had
      have hbl := hr.lt
      have c0 := hr.cell (i := i) hlt
      have z0 := hr.frozen i
      have HSt := hide (markB_step hr hf)
      have HT2 := hide hq
      have HAo := hide hao
      clear hq hrows hr hf hao
      have g0 : (0 : Int) ≤ (i : Int) := by omega
      have g1 : (i : Int) < (cap : Int) := by omega
      obtain ⟨MB, hMB⟩ : ∃ MB, mkB mk i = .int .u8 MB := ⟨_, rfl⟩
      have HMB := hide hMB
      go_wp2_with (go_at_call 15; refine (markByte_any _ _ _ m0 m1).mono ?_; rintro e w' ⟨rfl, rfl⟩; rw [hMB])
      clear hMB
      go_roundw
      case rel =>
        obtain ⟨f', hf1, hf2⟩ := HSt.out
        refine ⟨i + 1, by omega, by go_num, ?_, fun b' hb' => ?_⟩
        · have hSb : (fun b => ao = some b) b ∨ w1.heap.size ≤ b := .inl HAo.out
          exact HT2.out.setCell (p := ⟨b, i, none⟩) hSb _
        · have e : b' = b := (Option.some.inj (HAo.out.symm.trans hb')).symm
          subst e
          rw [HMB.out] at hf1
          exact ⟨f', hf1, hf2⟩
      case measure => simp [intOf]; omega
    · have e : i = cap := by omega
      have hd0 : decide ((i : Int) < (cap : Int)) = false := by simp; omega
      have hfull : ∀ b, ao = some b → wr.rowIs b 5 cap (mkB mk) := fun b hb => by
        obtain ⟨f, hr, hf⟩ := hrows b hb
        exact hr.congr (fun q hq => hf q (by omega))
      have hIw : HeldInv wr h { s with n := s.n + 1 } := HI1.out.of_blocks fun b u => hq.block b (HI1.out.used_lt u) (fun e => by
        obtain ⟨f, hr⟩ := HR1.out b e
        have hF := HNe.out b (by rw [HOB.out]; exact e)
        obtain ⟨x, hx, hxb⟩ := HI1.out.used_byte u (row_ty hr)
        exact hF x hx hxb)
      have HFull := hide hfull
      have HIw := hide hIw
      have HQ := hide hq
      clear hfull hIw hq hrows
      have c5 : wr.cell? ⟨h, 2 + 6, none⟩ = some s.vB := by rw [HIw.out.wd.cell (by omega)]; rfl
      have z5 := HIw.out.wd.frozen 8
      have hhl := HIw.out.wd.lt
      obtain ⟨i0, hi0, hz0, hz1, hz2⟩ := info_parts info_hb
      obtain ⟨ys, hys⟩ : ∃ ys, ys = s.B.flatMap seC := ⟨_, rfl⟩
      have hoS : wr.ownsRow h 64 2 s.vB s.B.length ys := by
        rw [hys]; exact HIw.out.oB
      have HX2 := hide hys
      clear hys
      have hplen : (s.B.length : Int) ≤ 1099511627776 := by
        have hlo := HIw.out.lo
        simp at hlo; omega
      go_wp2_with (at_builtin; refine wpList_append_lies _ rfl _ _ 33 rfl h 64 i0 (.agg #[.slice none 0 0, .int .i64 0]) 2 32 Tryz.underlying33 hi0 hz0 hz1 hz2 rfl (by omega) s.vB s.B.length ys rfl (hoS.alloc _) ⟨wr.heap.size, 0, none⟩ 1 1 [.slice ad cap cap, .int .i64 mk] rfl rfl ?d1 ?d2 (by omega) ?d3 ?d4 ?d5 (wr.heap.size + 1) (by simp) ?_)
      try (case d1 => exact news_sp wr [.slice ad cap cap, .int .i64 mk] _ _ rfl)
      case d2 => first | exact ⟨rfl, rfl⟩ | (intro u hu; simp at hu; rcases hu with rfl | rfl <;> rfl)
      case d3 => unfold maxLen; omega
      case d4 => omega
      case d5 => first | omega | (simp; omega)
      intro g1 cap1 w2 hown2 hgrow hat hlt2
      rw [HM.out, HX2.out, HAD.out] at hown2
      have hty : some h ≠ s.vB.ownBlock := fun e => by
        have := owns_ty hoS e.symm
        rw [row_ty HIw.out.wd] at this
        simp at this
      have hI2 : HeldInv (w2.setCell ⟨h, 8, none⟩ (.slice (some ⟨g1, 0, none⟩) (s.B.length + 1) cap1)) h { ({ s with n := s.n + 1 } : HS) with vB := .slice (some ⟨g1, 0, none⟩) (s.B.length + 1) cap1, B := s.B ++ [(ao, cap, s.n + 1)] } :=
        HeldInv.pushB (b := ao) (m := cap) (g := g1) (cap := cap1) HIw.out (fun b hb => by show wr.rowIs b _ cap (mkB (s.n + 1)); rw [← HM.out]; exact HFull.out b hb) HNil.out hcap (by have := HH.out.lo; simp at this ⊢; omega) hown2 hgrow hat
      have hT2 : Touch (byteS h s (.slice (ao.map fun b => ⟨b, 0, none⟩) n cap)) w (w2.setCell ⟨h, 8, none⟩ (.slice (some ⟨g1, 0, none⟩) (s.B.length + 1) cap1)) := by
        have t0 : Touch (byteS h s (.slice (ao.map fun b => ⟨b, 0, none⟩) n cap)) w w := Touch.refl _ _
        have t1 := t0.trans' HT1.out (fun x hx => .inl (.inl hx))
        have t2 := t1.trans' HQ.out (fun x hx => .inl (.inr (.inr (by rw [HOB.out]; exact hx))))
        have t3 := (t2.alloc _).grown hgrow (fun b hb => .inl (.inr (.inl hb)))
        exact t3.setCell (.inl (.inl (by rfl))) _
      have hsw : w.heap.size ≤ wr.heap.size := Nat.le_trans HT1.out.size HQ.out.size
      have hK : BytesKept w s { ({ s with n := s.n + 1 } : HS) with vB := .slice (some ⟨g1, 0, none⟩) (s.B.length + 1) cap1, B := s.B ++ [(ao, cap, s.n + 1)] } (.slice (ao.map fun b => ⟨b, 0, none⟩) n cap) := by
        refine ⟨rfl, rfl, rfl, rfl, rfl, rfl, rfl, rfl, fun e he => ?_, ?_⟩
        · rcases List.mem_append.1 he with he | he
          · exact .inl he
          · simp at he; subst he; exact .inr HOB.out.symm
        · rcases hat with hat | hat
          · exact .inl (by rw [hat]; rfl)
          · exact .inr ⟨g1, rfl, by omega⟩
      have HK := hide hK
      have HI2 := hide hI2
      have HT2 := hide hT2
      have c5' := (hgrow.cell_far ⟨h, 2 + 6, none⟩ (by simp; omega) hty).trans (by go_simp : _ = some s.vB)
      have z5' := (hgrow.frozen_far ⟨h, 8, none⟩ (by simp; omega) hty).trans (by go_simp : _ = false)
      clear hown2 hgrow hat hty hoS hI2 hT2 hK
      go_wp2
      go_end0
      exact ⟨rfl, by rw [HAD.out]; exact HT2.out, _, HI2.out, by rw [HAD.out]; exact HK.out⟩
/-- All bytes that are held lie below block B. -/
def HS.UnderB (s : HS) (B : Nat) : Prop := ∀ e ∈ s.B, ∀ b, e.1 = some b → b < B
theorem HeldInv.underB {w : World} {h : Nat} {s : HS} (H : HeldInv w h s) : s.UnderB w.heap.size := fun e he b hb => (H.eB e he b hb).lt
end Go.Proofs.YtkhcjkmifddlbaaGreat

/- HeldT -/
namespace Go.Proofs.YtkhcjkmifddlbaaGreat
open Go.RowKit Go.Deep

theorem info_ht : (Tryz.prog.info? 86).map (fun i => (i.zero, i.size, i.bytes)) = some (some (.agg #[.slice none 0 0, .int .i64 0]), 2, 32) := by kernel_rfl

theorem markT_step {wr : World} {b m i : Nat} {t : TypeId} {f : Nat → Value} {mk : Int} (h : wr.rowIs b t (m * 2) f) (hf : ∀ q, q < i * 2 → f q = mkT mk q) (wr2 : World) (hb : wr2.heap[b]? = wr.heap[b]?) :
    ∃ f', ((wr2.setCell ⟨b, i * 2, none⟩ (.int .i64 (2199023255552 + mk))).setCell ⟨b, i * 2 + 1, none⟩ (.int .i64 (-7))).rowIs b t (m * 2) f' ∧ ∀ q, q < (i + 1) * 2 → f' q = mkT mk q := by
  refine ⟨_, (((h.of_block hb).set (i * 2) _).set (i * 2 + 1) _), fun q hq => ?_⟩
  by_cases e1 : q = i * 2 + 1
  · subst e1; rw [if_pos rfl]; unfold mkT; rw [if_neg (by omega)]
  rw [if_neg e1]
  by_cases e0 : q = i * 2
  · subst e0; rw [if_pos rfl]; unfold mkT; rw [if_pos (by omega)]
  rw [if_neg e0]
  exact hf q (by omega)

theorem markSpot_b (n : Int) (w : World) (h0 : 0 ≤ n) (h1 : n ≤ 1099511627776) :
    Calls Tryz.prog 27 #[.int .i64 n] w fun e w' => e = .returned (.agg #[.int .i64 (2199023255552 + n), .int .i64 (-7)]) ∧ Below w.heap.size w w' :=
  (markSpot_any n w h0 h1).mono fun e w' ⟨he, hw⟩ => ⟨he, by rw [hw]; (repeat (any_goals (first | exact Below.refl _ _ | assumption | refine Below.drew ?_ | refine below_drewN ?_ _ | refine Below.setCell ?_ ?_ _ | refine Below.alloc ?_ ?_ _ | omega | (simp; done) | (simp; omega))))⟩

/-- What spots may write. -/
def spotS (h : Nat) (s : HS) (x : Value) (b : Nat) : Prop := b = h ∨ s.vT.ownBlock = some b ∨ x.ownBlock = some b

/-- No spots that are held lie at block b. -/
def HS.Free (s : HS) (b : Nat) : Prop := (∀ e ∈ s.T, e.1 ≠ some b) ∧ ∀ e ∈ s.R, ∀ i, i < e.2.1 → e.2.2.1 i ≠ b

/-- What stays as it was, and what is new among the spots. -/
structure SpotsKept (w : World) (s s' : HS) (x : Value) : Prop where
  n : s'.n = s.n + 1
  cs : s'.cs = s.cs
  rs : s'.rs = s.rs
  P : s'.P = s.P
  O : s'.O = s.O
  S : s'.S = s.S
  R : s'.R = s.R
  vR : s'.vR = s.vR
  T : ∀ e ∈ s'.T, e ∈ s.T ∨ e.1 = x.ownBlock
  vT : s'.vT.ownBlock = s.vT.ownBlock ∨ ∃ g, s'.vT.ownBlock = some g ∧ w.heap.size ≤ g

end Go.Proofs.YtkhcjkmifddlbaaGreat

/- HeldR -/
namespace Go.Proofs.YtkhcjkmifddlbaaGreat
open Go.RowKit Go.Deep

theorem info_hr : (Tryz.prog.info? 89).map (fun i => (i.zero, i.size, i.bytes)) = some (some (.agg #[.slice none 0 0, .int .i64 0]), 2, 32) := by kernel_rfl
theorem mkT_cells (n : Int) (w : World) (t : TypeId) : (w.alloc (.cells #[.int .i64 (2199023255552 + n), .int .i64 (-7)] t)).rowIs w.heap.size t 2 (mkT n) := by
  refine World.rowIs_alloc w #[.int .i64 (2199023255552 + n), .int .i64 (-7)] t (mkT n) (fun i hi => ?_)
  have hi : i < 2 := hi
  rcases (show i = 0 ∨ i = 1 by omega) with rfl | rfl <;> rfl

/-- One ring of the list becomes a list of one mark. -/
theorem ring_step {w1 wr : World} {ob M k : Nat} {F : Nat → Nat} {f0 : Nat → Value} {n : Int} {o : Obj} (hT : Touch (fun b => b = ob) w1 wr)
    (hrow : wr.rowIs ob 84 M (fun j => if j < k then .slice (some ⟨F j, 0, none⟩) 1 1 else f0 j))
    (hF : ∀ j, j < k → w1.heap.size ≤ F j ∧ wr.rowIs (F j) 59 2 (mkT n)) :
    Touch (fun b => b = ob) w1 (((wr.setCell ⟨ob, k, none⟩ (.slice (some ⟨wr.heap.size + 1, 0, none⟩) 1 1)).alloc o).alloc (.cells #[.int .i64 (2199023255552 + n), .int .i64 (-7)] 59)) ∧
    ∃ F' : Nat → Nat, (((wr.setCell ⟨ob, k, none⟩ (.slice (some ⟨wr.heap.size + 1, 0, none⟩) 1 1)).alloc o).alloc (.cells #[.int .i64 (2199023255552 + n), .int .i64 (-7)] 59)).rowIs ob 84 M (fun j => if j < k + 1 then .slice (some ⟨F' j, 0, none⟩) 1 1 else f0 j) ∧
      ∀ j, j < k + 1 → w1.heap.size ≤ F' j ∧ (((wr.setCell ⟨ob, k, none⟩ (.slice (some ⟨wr.heap.size + 1, 0, none⟩) 1 1)).alloc o).alloc (.cells #[.int .i64 (2199023255552 + n), .int .i64 (-7)] 59)).rowIs (F' j) 59 2 (mkT n) := by
  have hs := hT.size
  refine ⟨((hT.setCell (.inl (by rfl)) _).alloc _).alloc _, fun j => if j = k then wr.heap.size + 1 else F j, ?_, ?_⟩
  · refine (((hrow.set k _).alloc _).alloc _).congr fun j hj => ?_
    by_cases e : j = k
    · subst e; simp
    · by_cases e2 : j < k
      · simp [e, e2, show j < k + 1 by omega]
      · simp [e, e2, show ¬ j < k + 1 by omega]
  · intro j hj
    by_cases e : j = k
    · subst e
      simp only [if_pos]
      refine ⟨by omega, ?_⟩
      have := mkT_cells n ((wr.setCell ⟨ob, j, none⟩ (.slice (some ⟨wr.heap.size + 1, 0, none⟩) 1 1)).alloc o) 59
      rw [nblk_alloc, nblk_setCell] at this
      exact this
    · simp only [if_neg e]
      obtain ⟨h1, h2⟩ := hF j (by omega)
      exact ⟨h1, ((h2.setOther (by simpa using row_ne h2 hrow (by decide)) _).alloc _).alloc _⟩

/-- What rings may write. -/
def ringS (h m : Nat) (s : HS) (x : Value) (V : Nat → Value) (b : Nat) : Prop := b = h ∨ s.vT.ownBlock = some b ∨ s.vR.ownBlock = some b ∨ x.ownBlock = some b ∨ ∃ i, i < m ∧ (V i).ownBlock = some b
/-- All spots and rings that are held lie below block B. -/
def HS.UnderR (s : HS) (B : Nat) : Prop := (∀ e ∈ s.T, ∀ b, e.1 = some b → b < B) ∧ ∀ e ∈ s.R, (∀ b, e.1 = some b → b < B) ∧ ∀ i, i < e.2.1 → e.2.2.1 i < B
theorem HeldInv.underR {w : World} {h : Nat} {s : HS} (H : HeldInv w h s) : s.UnderR w.heap.size :=
  ⟨fun e he b hb => (H.eT e he b hb).lt, fun e he => ⟨fun b hb => (H.eR e he b hb).lt, fun i hi => (H.eJ e he i hi).lt⟩⟩

/-- The state while the rings are marked, one by one. -/
structure RingSt (w wr : World) (h base k m : Nat) (s s' : HS) (x : Value) (V : Nat → Value) (L : Nat → List (Int × Int)) : Prop where
  inv : HeldInv wr h s'
  n : s'.n = s.n + k
  cs : s'.cs = s.cs
  rs : s'.rs = s.rs
  R : s'.R = s.R
  vR : s'.vR = s.vR
  T : ∀ e ∈ s'.T, e ∈ s.T ∨ ∃ i, i < k ∧ e.1 = (V i).ownBlock
  vT : s'.vT.ownBlock = s.vT.ownBlock ∨ ∃ g, s'.vT.ownBlock = some g ∧ w.heap.size ≤ g
  touch : Touch (ringS h m s x V) w wr
  outer : wr.ownsRow base 84 1 x m ((List.range m).map V)
  inner : ∀ i, k ≤ i → i < m → wr.ownsRow base 59 2 (V i) (L i).length ((L i).flatMap spC)

theorem RingSt.free {w wr : World} {h base k m : Nat} {s s' : HS} {x : Value} {V : Nat → Value} {L : Nat → List (Int × Int)} (H : RingSt w wr h base k m s s' x V L) (hx : SpRings w base x m V L) (hu : s.UnderR base) (hk : k < m) : ∀ b, (V k).ownBlock = some b → s'.Free b := by
  intro b hb
  have hge := ((hx.inner k hk).lt b hb).1
  refine ⟨fun e he e1 => ?_, fun e he i hi e1 => ?_⟩
  · rcases H.T e he with h1 | ⟨i, hi, h1⟩
    · have := hu.1 e h1 b e1; omega
    · exact hx.inj i k (by omega) hk (by omega) b (by rw [← h1]; exact e1) hb
  · rw [H.R] at he
    have := (hu.2 e he).2 i hi
    omega

theorem RingSt.step {w wr w' : World} {h base k m : Nat} {s s' s'' : HS} {x : Value} {V : Nat → Value} {L : Nat → List (Int × Int)} (H : RingSt w wr h base k m s s' x V L) (hx : SpRings w base x m V L) (hk : k < m) (hT : Touch (spotS h s' (V k)) wr w') (hI : HeldInv w' h s'') (hK : SpotsKept wr s' s'' (V k)) : RingSt w w' h base (k + 1) m s s'' x V L := by
  have hsz := H.touch.size
  have tyH := row_ty H.inv.wd
  have notS : ∀ b t, tyOf wr b = some t → t ≠ 37 → t ≠ 86 → (V k).ownBlock ≠ some b → ¬ spotS h s' (V k) b := by
    rintro b t ht h1 h2 h3 (rfl | h4 | h4)
    · rw [tyH] at ht; simp at ht; exact h1 ht.symm
    · rw [owns_ty H.inv.oT h4] at ht; simp at ht; exact h2 ht.symm
    · exact h3 h4
  refine { inv := hI, n := by rw [hK.n, H.n]; omega, cs := hK.cs.trans H.cs, rs := hK.rs.trans H.rs, R := hK.R.trans H.R, vR := hK.vR.trans H.vR, T := ?T, vT := ?vT, touch := ?touch, outer := ?outer, inner := ?inner }
  case T =>
    intro e he
    rcases hK.T e he with h1 | h1
    · rcases H.T e h1 with h2 | ⟨i, hi, h2⟩
      · exact .inl h2
      · exact .inr ⟨i, by omega, h2⟩
    · exact .inr ⟨k, by omega, h1⟩
  case vT =>
    rcases hK.vT with h1 | ⟨g, h1, h2⟩
    · rcases H.vT with h3 | ⟨g, h3, h4⟩
      · exact .inl (h1.trans h3)
      · exact .inr ⟨g, h1.trans h3, h4⟩
    · exact .inr ⟨g, h1, by omega⟩
  case touch =>
    refine H.touch.trans' hT (fun b hb => ?_)
    rcases hb with rfl | hb | hb
    · exact .inl (.inl rfl)
    · rcases H.vT with h3 | ⟨g, h3, h4⟩
      · exact .inl (.inr (.inl (h3 ▸ hb)))
      · rw [h3] at hb; simp at hb; subst hb; exact .inr h4
    · exact .inl (.inr (.inr (.inr (.inr ⟨k, hk, hb⟩))))
  case outer =>
    refine owns_of_block H.outer (fun b hb => hT.block b (H.outer.lt b hb).2 (notS b _ (owns_ty H.outer hb) (by decide) (by decide) (fun e => ?_)))
    have h1 := owns_ty H.outer hb
    rw [owns_ty (H.inner k (Nat.le_refl _) hk) e] at h1
    simp at h1
  case inner =>
    intro i hi hm
    refine owns_of_block (H.inner i (by omega) hm) (fun b hb => hT.block b ((H.inner i (by omega) hm).lt b hb).2 (notS b _ (owns_ty (H.inner i (by omega) hm) hb) (by decide) (by decide) (fun e => ?_)))
    exact hx.inj k i hk hm (by omega) b e hb
end Go.Proofs.YtkhcjkmifddlbaaGreat

/- HeldQ -/
namespace Go.Proofs.YtkhcjkmifddlbaaGreat
open Go.RowKit Go.Deep

end Go.Proofs.YtkhcjkmifddlbaaGreat

/- LentB -/
namespace Go.Proofs.YtkhcjkmifddlbaaGreat
open Go.RowKit Go.Deep

set_option maxHeartbeats 400000 in
theorem samePoints_any (a a' : Option Addr) (n c c' : Nat) (X Y K : Nat → Int) (w : World) (hn : n ≤ 4294967296) (hr : RingAt w a n X Y K) (hr' : RingAt w a' n X Y K) :
    Calls Tryz.prog 23 #[.slice a n c, .slice a' n c'] w fun e w' => e = .returned (.bool true) ∧ ∃ nd, w' = w.drewN nd := by
  have HR := hide hr
  have HR' := hide hr'
  clear hr hr'
  go_enter Tryz.func23, Tryz.ntmps23
  go_wp2_with fail
  go_loopw [5] (fun i wr => ∃ k nd : Nat, k ≤ n ∧ i = .int .i64 k ∧ wr = w.drewN nd) (fun i _ => n - (intOf i).toNat)
  case atStart => exact ⟨0, 0, by omega, rfl, rfl⟩
  case round =>
    obtain ⟨k, nd, hk, rfl, rfl⟩ := hrel
    by_cases hlt : k < n
    · rcases HR.out with h | ⟨b, off, rfl, hc⟩
      · omega
      rcases HR'.out with h | ⟨b', off', rfl, hc'⟩
      · omega
      obtain ⟨c0, c1, c2⟩ := hc k hlt
      obtain ⟨d0, d1, d2⟩ := hc' k hlt
      clear hc hc'
      have g0 : (0 : Int) ≤ (k : Int) := by omega
      have g1 : (k : Int) < (n : Int) := by omega
      go_wp2
      go_quiet (fail)
      go_wp2
      go_roundw
      case rel => exact ⟨k + 1, nd + nq, by omega, by go_num, rfl⟩
      case measure => simp [intOf]; omega
    · go_wp2
      go_ret
      exact ⟨rfl, nd, rfl⟩

set_option maxHeartbeats 400000 in
theorem ink_exact (w : World) :
    Calls Tryz.prog 18 #[] w fun e w' => e = .returned (.agg #[.int .i64 1099511627776, .int .i64 (-7), .int .i64 9]) ∧ w' = w.alloc (.cells #[.int .i64 1099511627776, .int .i64 (-7), .int .i64 9] 68) := by
  go_enter Tryz.func18, Tryz.ntmps18
  go_wp2
  exact bodyPost_ret (v := .agg #[.int .i64 1099511627776, .int .i64 (-7), .int .i64 9]) (by simp [results, Tryz.results18, go_sem]) rfl ⟨rfl, rfl⟩

set_option maxHeartbeats 1000000 in
theorem lent_any (a : Option Addr) (N c base ob : Nat) (A : Nat → Option Addr) (C n B : Nat → Nat) (X Y K : Nat → Nat → Int) (w : World) (hN : N ≤ 4294967295) (hn : ∀ i, i < N → n i ≤ 4294967295)
    (hl : Lent w base ob N B n X Y K) (ho : OutAt w a N A C n X Y K) :
    Calls Tryz.prog 9 #[.slice (some ⟨ob, 0, none⟩) N (N + 2), .slice a N c] w fun e w' => e = .returned (.bool true) ∧ Below w.heap.size w w' := by
  have HN := hide hn
  have HO := hide ho
  have HL := hide hl
  clear hn ho hl
  go_enter Tryz.func9, Tryz.ntmps9
  go_wp2_with fail
  go_loopw [6] (fun i wr => ∃ k : Nat, k ≤ N + 2 ∧ i = .int .i64 k ∧ Below w.heap.size w wr) (fun i _ => N + 2 - (intOf i).toNat)
  case atStart => exact ⟨0, by omega, rfl, Below.refl _ _⟩
  case round =>
    obtain ⟨wo, rfl⟩ : ∃ wo, wo = wr := ⟨wr, rfl⟩
    obtain ⟨i, hi, rfl, hb⟩ := hrel
    have hsz := hb.size
    by_cases hlt : i < N + 2
    · have hd1 : decide ((i : Int) < (N : Int) + 2) = true := by simp; omega
      have HL2 := hide (HL.out.below hb)
      have oi := HL2.out.outer.cell (i := i) hlt
      by_cases hiN : i < N
      · have hln : ln N n i = n i := by unfold ln; rw [if_pos hiN]
        have HO2 := hide (HO.out.below hb)
        rcases HO2.out.1 with h | ⟨b, off, rfl, hc⟩
        · omega
        have ci := hc i hiN
        clear hc
        have hni := HN.out i hiN
        have HLN := hide hln
        rw [hln] at oi
        clear hln
        have g0 : (0 : Int) ≤ (i : Int) := by omega
        have g1 : (i : Int) < (N : Int) := by omega
        have g2 : (i : Int) < (N : Int) + 2 := by omega
        go_wp2_with fail
        have R1 := hide (HL2.out.out.2 i hiN)
        have R2 := hide (HO2.out.2 i hiN)
        go_region_held3 (fun w' => w'.cell? ⟨ob, i, none⟩ = some (.slice (some ⟨B i, 0, none⟩) (n i) (n i + 2)) ∧ w'.cell? ⟨b, off + i, none⟩ = some (.slice (A i) (n i) (C i))) (go_keep) ((go_at_call 23; refine (samePoints_any _ _ _ _ _ (X i) (Y i) (K i) _ (by omega) (by exact R1.out.below (by (repeat (any_goals (first | exact Below.refl _ _ | assumption | refine Below.drew ?_ | refine below_drewN ?_ _ | refine Below.setCell ?_ ?_ _ | refine Below.alloc ?_ ?_ _ | omega | (simp; done) | (simp; omega)))))) (by exact R2.out.below (by (repeat (any_goals (first | exact Below.refl _ _ | assumption | refine Below.drew ?_ | refine below_drewN ?_ _ | refine Below.setCell ?_ ?_ _ | refine Below.alloc ?_ ?_ _ | omega | (simp; done) | (simp; omega))))))).mono ?_; rintro e w' ⟨rfl, nd, rfl⟩))
        go_wp2_with fail
        go_loopw [10] (fun q wr => ∃ k : Nat, n i ≤ k ∧ k ≤ n i + 2 ∧ q = .int .i64 k ∧ Below w.heap.size w wr) (fun q _ => n i + 2 - (intOf q).toNat)
        case atStart => exact ⟨n i, by omega, by omega, rfl, by (repeat (any_goals (first | exact Below.refl _ _ | assumption | refine Below.drew ?_ | refine below_drewN ?_ _ | refine Below.setCell ?_ ?_ _ | refine Below.alloc ?_ ?_ _ | omega | (simp; done) | (simp; omega))))⟩
        case round =>
          obtain ⟨k, hk0, hk, rfl, hbr⟩ := hrel
          have hszr := hbr.size
          by_cases hk2 : k < n i + 2
          · have hd2 : decide ((k : Int) < ((n i : Int) + 2)) = true := by simp; omega
            obtain ⟨q0, q1, q2⟩ := row_cells ((HL.out.below hbr).inner i hlt) k (by rw [HLN.out]; omega)
            have hnl : ¬ k < ln N n i := by rw [HLN.out]; omega
            simp only [lx, ly, lk, if_neg hnl] at q0 q1 q2
            have g3 : (0 : Int) ≤ (k : Int) := by omega
            have g4 : (k : Int) < (n i : Int) + 2 := by omega
            clear hnl
            go_wp2_with fail
            go_region_held3 (fun w' => w'.cell? ⟨B i, k * 3, none⟩ = some (.int .i64 1099511627776) ∧ w'.cell? ⟨B i, k * 3 + 1, none⟩ = some (.int .i64 (-7)) ∧ w'.cell? ⟨B i, k * 3 + 2, none⟩ = some (.int .i64 9)) (go_keep) ((go_at_call 18; refine (ink_exact _).mono ?_; rintro e w' ⟨rfl, rfl⟩))
            all_goals
              go_wp2
              go_roundw
              case rel => exact ⟨k + 1, by omega, by omega, by go_num, by (repeat (any_goals (first | exact Below.refl _ _ | assumption | refine Below.drew ?_ | refine below_drewN ?_ _ | refine Below.setCell ?_ ?_ _ | refine Below.alloc ?_ ?_ _ | omega | (simp; done) | (simp; omega))))⟩
              case measure => simp [intOf]; omega
          · go_wp2
            go_roundw
            case rel => exact ⟨i + 1, by omega, by go_num, by (repeat (any_goals (first | exact Below.refl _ _ | assumption | refine Below.drew ?_ | refine below_drewN ?_ _ | refine Below.setCell ?_ ?_ _ | refine Below.alloc ?_ ?_ _ | omega | (simp; done) | (simp; omega))))⟩
            case measure => simp [intOf]; omega
      · have hln : ln N n i = 0 := by unfold ln; rw [if_neg hiN]
        have HLN := hide hln
        rw [hln] at oi
        clear hln
        have hd3 : decide ((i : Int) < (N : Int)) = false := by simp; omega
        go_wp2_with fail
        go_loopw [10] (fun q wr => ∃ k : Nat, 0 ≤ k ∧ k ≤ 2 ∧ q = .int .i64 k ∧ Below w.heap.size w wr) (fun q _ => 2 - (intOf q).toNat)
        case atStart => exact ⟨0, by omega, by omega, rfl, by (repeat (any_goals (first | exact Below.refl _ _ | assumption | refine Below.drew ?_ | refine below_drewN ?_ _ | refine Below.setCell ?_ ?_ _ | refine Below.alloc ?_ ?_ _ | omega | (simp; done) | (simp; omega))))⟩
        case round =>
          obtain ⟨k, hk0, hk, rfl, hbr⟩ := hrel
          have hszr := hbr.size
          by_cases hk2 : k < 2
          · have hd2 : decide ((k : Int) < (2)) = true := by simp; omega
            obtain ⟨q0, q1, q2⟩ := row_cells ((HL.out.below hbr).inner i hlt) k (by rw [HLN.out]; omega)
            have hnl : ¬ k < ln N n i := by rw [HLN.out]; omega
            simp only [lx, ly, lk, if_neg hnl] at q0 q1 q2
            have g3 : (0 : Int) ≤ (k : Int) := by omega
            have g4 : (k : Int) < 2 := by omega
            clear hnl
            go_wp2_with fail
            go_region_held3 (fun w' => w'.cell? ⟨B i, k * 3, none⟩ = some (.int .i64 1099511627776) ∧ w'.cell? ⟨B i, k * 3 + 1, none⟩ = some (.int .i64 (-7)) ∧ w'.cell? ⟨B i, k * 3 + 2, none⟩ = some (.int .i64 9)) (go_keep) ((go_at_call 18; refine (ink_exact _).mono ?_; rintro e w' ⟨rfl, rfl⟩))
            all_goals
              go_wp2
              go_roundw
              case rel => exact ⟨k + 1, by omega, by omega, by go_num, by (repeat (any_goals (first | exact Below.refl _ _ | assumption | refine Below.drew ?_ | refine below_drewN ?_ _ | refine Below.setCell ?_ ?_ _ | refine Below.alloc ?_ ?_ _ | omega | (simp; done) | (simp; omega))))⟩
              case measure => simp [intOf]; omega
          · go_wp2
            go_roundw
            case rel => exact ⟨i + 1, by omega, by go_num, by (repeat (any_goals (first | exact Below.refl _ _ | assumption | refine Below.drew ?_ | refine below_drewN ?_ _ | refine Below.setCell ?_ ?_ _ | refine Below.alloc ?_ ?_ _ | omega | (simp; done) | (simp; omega))))⟩
            case measure => simp [intOf]; omega
    · go_wp2
      go_ret
      exact ⟨rfl, hb⟩
end Go.Proofs.YtkhcjkmifddlbaaGreat

/- HeldD -/
namespace Go.Proofs.YtkhcjkmifddlbaaGreat
open Go.RowKit Go.Deep

theorem info_hp : (Tryz.prog.info? 80).map (fun i => (i.zero, i.size, i.bytes)) = some (some (.agg #[.slice none 0 0, .int .i64 0]), 2, 32) := by kernel_rfl
theorem info_ho : (Tryz.prog.info? 82).map (fun i => (i.zero, i.size, i.bytes)) = some (some (.agg #[.slice none 0 0, .int .i64 0]), 2, 32) := by kernel_rfl

/-- What was lent, as outline finds it: nothing is asked of what stands in the lists. -/
structure Lists (w : World) (T h ob M : Nat) (B l m : Nat → Nat) (s : HS) : Prop where
  outer : w.rowIs ob 66 M (fun i => .slice (some ⟨B i, 0, none⟩) (l i) (m i))
  inner : ∀ i, i < M → ∃ f, w.rowIs (B i) 68 (m i * 3) f
  geO : T ≤ ob
  geB : ∀ i, i < M → T ≤ B i
  inj : ∀ i j, i < M → j < M → B i = B j → i = j
  und : s.Under T
  hT : h ≤ T
  le : ∀ i, i < M → l i ≤ m i ∧ m i ≤ 4294967297

theorem Lent.lists {w : World} {base ob N h : Nat} {B n : Nat → Nat} {X Y K : Nat → Nat → Int} {s : HS} (hl : Lent w base ob N B n X Y K) (hu : s.Under base) (hh : h ≤ base) (hn : ∀ i, i < N → n i ≤ 4294967295) :
    Lists w base h ob (N + 2) B (ln N n) (fun i => ln N n i + 2) s :=
  ⟨hl.outer, fun i hi => ⟨_, hl.inner i hi⟩, hl.ge, hl.geB, hl.inj, hu, hh, fun i hi => ⟨by omega, by
    unfold ln; split
    · rename_i h; have := hn i h; omega
    · omega⟩⟩

/-- What outline may write. -/
def outS (h ob M : Nat) (B : Nat → Nat) (s : HS) (b : Nat) : Prop := b = h ∨ b = ob ∨ (∃ i, i < M ∧ b = B i) ∨ s.vP.ownBlock = some b ∨ s.vO.ownBlock = some b

/-- The state behind i rounds. -/
def stP (s : HS) (B m : Nat → Nat) (v : Value) (i : Nat) : HS := { s with n := s.n + i, vP := v, P := s.P ++ (List.range i).map fun j => (B j, m j, s.n + 1 + (j : Int)) }

theorem stP_zero (s : HS) (B m : Nat → Nat) : stP s B m s.vP 0 = s := by simp [stP]

theorem range_snoc {α : Type} (f : Nat → α) (i : Nat) : (List.range (i + 1)).map f = (List.range i).map f ++ [f i] := by
  rw [List.range_succ, List.map_append]; rfl

/-- No list that is held lies where list i does. -/
theorem stP_ne {w : World} {h i M T : Nat} {s : HS} {B m : Nat → Nat} {v : Value} {k : Int} (H : HeldInv w h { stP s B m v i with n := k }) (hu : s.Under T) (hge : ∀ i, i < M → T ≤ B i) (hinj : ∀ i j, i < M → j < M → B i = B j → i = j) (hi : i < M)
    {b : Nat} (u : Used h { stP s B m v i with n := k } b) (hty : tyOf w (B i) = some 68) : b ≠ B i := by
  intro e
  subst e
  have hT := hge i hi
  rcases H.used_pt u hty with ⟨x, hx, hb⟩ | ⟨x, hx, j, hj, hb⟩
  · rcases List.mem_append.1 hx with hx | hx
    · have := hu.1 x hx; omega
    · simp at hx
      obtain ⟨j, hj, rfl⟩ := hx
      have := hinj j i (by omega) hi hb
      omega
  · have := (hu.2.1 x hx).2 j hj; omega

theorem mark_step {wr : World} {b m k : Nat} {t : TypeId} {g : Nat → Value} {n : Int} (o : Obj) (h : wr.rowIs b t (m * 3) g) (hg : ∀ q, q < k * 3 → g q = mkP n q) :
    ∃ g', ((((wr.setCell ⟨b, k * 3, none⟩ (.int .i64 (2199023255552 + n))).setCell ⟨b, k * 3 + 1, none⟩ (.int .i64 (-7))).setCell ⟨b, k * 3 + 2, none⟩ (.int .i64 9)).alloc o).rowIs b t (m * 3) g' ∧ ∀ q, q < (k + 1) * 3 → g' q = mkP n q := by
  refine ⟨_, (((h.set (k * 3) _).set (k * 3 + 1) _).set (k * 3 + 2) _).alloc o, fun q hq => ?_⟩
  by_cases e2 : q = k * 3 + 2
  · subst e2; rw [if_pos rfl]; unfold mkP; rw [pc2]
  rw [if_neg e2]
  by_cases e1 : q = k * 3 + 1
  · subst e1; rw [if_pos rfl]; unfold mkP; rw [pc1]
  rw [if_neg e1]
  by_cases e0 : q = k * 3
  · subst e0; rw [if_pos rfl]; unfold mkP; rw [pc0]
  rw [if_neg e0]
  exact hg q (by omega)

theorem stP_succ (s : HS) (B m : Nat → Nat) (v v' : Value) (i : Nat) :
    ({ ({ stP s B m v i with n := s.n + (i : Int) + 1 } : HS) with vP := v', P := (stP s B m v i).P ++ [(B i, m i, s.n + (i : Int) + 1)] } : HS) = stP s B m v' (i + 1) := by
  unfold stP
  rw [range_snoc]
  simp only [HS.mk.injEq, List.append_assoc, true_and, and_true, List.append_cancel_left_eq, List.cons.injEq, Prod.mk.injEq]
  omega

theorem outline_push {T h ob M i g cap : Nat} {B l m : Nat → Nat} {s : HS} {v : Value} {w wo w1 wr w2 : World} {o : Obj} {xs : List Value} (L : Lists w T h ob M B l m s) (hlt : i < M) (HT : Touch (outS h ob M B s) w wo)
    (HW : v.ownBlock = s.vP.ownBlock ∨ ∃ g, v.ownBlock = some g ∧ w.heap.size ≤ g) (HI : HeldInv wo h (stP s B m v i))
    (HO : wo.rowIs ob 66 M (fun i => .slice (some ⟨B i, 0, none⟩) (l i) (m i))) (HR : ∀ j, i ≤ j → j < M → ∃ f, wo.rowIs (B j) 68 (m j * 3) f)
    (HT1 : Touch (fun b => b = h) wo w1) (HQ : Touch (fun b => b = B i) w1 wr) (HIw : HeldInv wr h { stP s B m v i with n := s.n + i + 1 })
    (hro : wr.rowIs (B i) 68 (m i * 3) (mkP (s.n + i + 1))) (hxs : xs = (stP s B m v i).P.flatMap peC)
    (hown : w2.ownsRow h 80 2 (.slice (some ⟨g, 0, none⟩) (s.P.length + i + 1) cap) (s.P.length + i + 1) (xs ++ [.slice (some ⟨B i, 0, none⟩) (m i) (m i), .int .i64 (s.n + i + 1)]))
    (hg : (wr.alloc o).grownBy w2 v.ownBlock) (hat : v.ownBlock = some g ∨ g = wr.heap.size + 1) :
    Touch (outS h ob M B s) w (w2.setCell ⟨h, 3, none⟩ (.slice (some ⟨g, 0, none⟩) (s.P.length + i + 1) cap)) ∧ HeldInv (w2.setCell ⟨h, 3, none⟩ (.slice (some ⟨g, 0, none⟩) (s.P.length + i + 1) cap)) h (stP s B m (.slice (some ⟨g, 0, none⟩) (s.P.length + i + 1) cap) (i + 1)) ∧
      ((Value.slice (some ⟨g, 0, none⟩) (s.P.length + i + 1) cap).ownBlock = s.vP.ownBlock ∨ ∃ g', (Value.slice (some ⟨g, 0, none⟩) (s.P.length + i + 1) cap).ownBlock = some g' ∧ w.heap.size ≤ g') ∧
      (w2.setCell ⟨h, 3, none⟩ (.slice (some ⟨g, 0, none⟩) (s.P.length + i + 1) cap)).rowIs ob 66 M (fun i => .slice (some ⟨B i, 0, none⟩) (l i) (m i)) ∧
      (∀ j, i + 1 ≤ j → j < M → ∃ f, (w2.setCell ⟨h, 3, none⟩ (.slice (some ⟨g, 0, none⟩) (s.P.length + i + 1) cap)).rowIs (B j) 68 (m j * 3) f) := by
  have hplen : (stP s B m v i).P.length = s.P.length + i := by simp [stP]
  have hr : ∀ b, v.ownBlock = some b → tyOf wr b = some 80 := fun b hb => owns_ty HIw.oP hb
  have hh := row_ty HIw.wd
  have hBh : ∀ j, i ≤ j → j < M → B j ≠ h := fun j h1 h2 => by
    obtain ⟨f, hf⟩ := HR j h1 h2
    exact row_ne hf HI.wd (by decide)
  have hoh : ob ≠ h := row_ne HO HI.wd (by decide)
  have hoB : ob ≠ B i := by
    obtain ⟨f, hf⟩ := HR i (Nat.le_refl _) hlt
    exact row_ne HO hf (by decide)
  have hsw : w.heap.size ≤ wr.heap.size := Nat.le_trans HT.size (Nat.le_trans HT1.size HQ.size)
  have hlo : ((stP s B m v i).P.length : Int) + (stP s B m v i).O.length + (stP s B m v i).S.length + (stP s B m v i).T.length + (stP s B m v i).R.length + (stP s B m v i).B.length ≤ (stP s B m v i).n := HI.lo
  refine ⟨?_, ?_, ?_, ?_, ?_⟩
  · have t1 := HT.trans' HT1 (fun x hx => .inl (.inl hx))
    have t2 := t1.trans' HQ (fun x hx => .inl (.inr (.inr (.inl ⟨i, hlt, hx⟩))))
    have t3 := (t2.alloc o).grown hg (fun b hb => by
      rcases HW with HW | ⟨g', h1, h2⟩
      · exact .inl (.inr (.inr (.inr (.inl (HW ▸ hb)))))
      · rw [h1] at hb; simp at hb; subst hb; exact .inr h2)
    exact t3.setCell (.inl (.inl rfl)) _
  · have := HeldInv.pushP (b := B i) (m := m i) (g := g) (cap := cap) HIw hro (by have := (L.le i hlt).2; omega) (by show ((stP s B m v i).P.length : Int) + (stP s B m v i).O.length + (stP s B m v i).S.length + (stP s B m v i).T.length + (stP s B m v i).R.length + (stP s B m v i).B.length + 1 ≤ s.n + i + 1; have e : (stP s B m v i).n = s.n + i := rfl; omega)
      (by show w2.ownsRow h _ 2 (.slice _ ((stP s B m v i).P.length + 1) cap) ((stP s B m v i).P.length + 1) ((stP s B m v i).P.flatMap peC ++ _); rw [hplen, ← hxs]; exact hown) hg hat
    have e := stP_succ s B m v (.slice (some ⟨g, 0, none⟩) (s.P.length + i + 1) cap) i
    rw [← e]
    have e2 : ((stP s B m v i).P.length + 1) = s.P.length + i + 1 := by rw [hplen]
    simp only [e2] at this
    exact this
  · rcases hat with hat | hat
    · rcases HW with HW | ⟨g', h1, h2⟩
      · left; rw [← HW, hat]; rfl
      · right; rw [hat] at h1; exact ⟨g', by simpa [Value.ownBlock] using h1, h2⟩
    · right; exact ⟨g, rfl, by omega⟩
  · exact row_of_step hg hr hh (HQ.row (HT1.row HO hoh) hoB) (by decide) (by decide)
  · intro j h1 h2
    obtain ⟨f, hf⟩ := HR j (by omega) h2
    exact ⟨f, row_of_step hg hr hh (HQ.row (HT1.row hf (hBh j (by omega) h2)) (fun e => by have := L.inj j i h2 hlt e; omega)) (by decide) (by decide)⟩

theorem mkP_cells (n : Int) (w : World) (t : TypeId) : (w.alloc (.cells #[.int .i64 (2199023255552 + n), .int .i64 (-7), .int .i64 9] t)).rowIs w.heap.size t 3 (mkP n) := by
  refine World.rowIs_alloc w #[.int .i64 (2199023255552 + n), .int .i64 (-7), .int .i64 9] t (mkP n) (fun i hi => ?_)
  have hi : i < 3 := hi
  rcases (show i = 0 ∨ i = 1 ∨ i = 2 by omega) with rfl | rfl | rfl <;> rfl

/-- One list of the outline becomes a list of one mark. -/
theorem out_step {w1 wr : World} {ob M k : Nat} {F B l m : Nat → Nat} {n : Int} {o : Obj} (hT : Touch (fun b => b = ob) w1 wr)
    (hrow : wr.rowIs ob 66 M (fun j => if j < k then .slice (some ⟨F j, 0, none⟩) 1 1 else .slice (some ⟨B j, 0, none⟩) (l j) (m j)))
    (hF : ∀ j, j < k → w1.heap.size ≤ F j ∧ wr.rowIs (F j) 68 3 (mkP n)) :
    Touch (fun b => b = ob) w1 (((wr.setCell ⟨ob, k, none⟩ (.slice (some ⟨wr.heap.size + 1, 0, none⟩) 1 1)).alloc o).alloc (.cells #[.int .i64 (2199023255552 + n), .int .i64 (-7), .int .i64 9] 68)) ∧
    ∃ F' : Nat → Nat, (((wr.setCell ⟨ob, k, none⟩ (.slice (some ⟨wr.heap.size + 1, 0, none⟩) 1 1)).alloc o).alloc (.cells #[.int .i64 (2199023255552 + n), .int .i64 (-7), .int .i64 9] 68)).rowIs ob 66 M (fun j => if j < k + 1 then .slice (some ⟨F' j, 0, none⟩) 1 1 else .slice (some ⟨B j, 0, none⟩) (l j) (m j)) ∧
      ∀ j, j < k + 1 → w1.heap.size ≤ F' j ∧ (((wr.setCell ⟨ob, k, none⟩ (.slice (some ⟨wr.heap.size + 1, 0, none⟩) 1 1)).alloc o).alloc (.cells #[.int .i64 (2199023255552 + n), .int .i64 (-7), .int .i64 9] 68)).rowIs (F' j) 68 3 (mkP n) := by
  have hs := hT.size
  refine ⟨((hT.setCell (.inl (by rfl)) _).alloc _).alloc _, fun j => if j = k then wr.heap.size + 1 else F j, ?_, ?_⟩
  · refine (((hrow.set k _).alloc _).alloc _).congr fun j hj => ?_
    by_cases e : j = k
    · subst e; simp
    · by_cases e2 : j < k
      · simp [e, e2, show j < k + 1 by omega]
      · simp [e, e2, show ¬ j < k + 1 by omega]
  · intro j hj
    by_cases e : j = k
    · subst e
      simp only [if_pos]
      refine ⟨by omega, ?_⟩
      have := mkP_cells n ((wr.setCell ⟨ob, j, none⟩ (.slice (some ⟨wr.heap.size + 1, 0, none⟩) 1 1)).alloc o) 68
      rw [nblk_alloc, nblk_setCell] at this
      exact this
    · simp only [if_neg e]
      obtain ⟨h1, h2⟩ := hF j (by omega)
      exact ⟨h1, ((h2.setOther (by simpa using row_ne h2 hrow (by decide)) _).alloc _).alloc _⟩

/-- No outline that is held lies at ob. -/
theorem stP_ne_ob {w : World} {h i ob T : Nat} {s : HS} {B m : Nat → Nat} {v : Value} {k : Int} (H : HeldInv w h { stP s B m v i with n := k }) (hu : s.Under T) (hge : T ≤ ob)
    {b : Nat} (u : Used h { stP s B m v i with n := k } b) (hty : tyOf w ob = some 66) : b ≠ ob := by
  intro e
  subst e
  obtain ⟨x, hx, hb⟩ := H.used_pts u hty
  have := (hu.2.1 x hx).1
  omega

set_option maxHeartbeats 1000000 in
theorem outline_any (T h ob N M : Nat) (B l m : Nat → Nat) (s : HS) (w : World) (hM : M ≤ 4294967297) (H : HeldInv w h s) (L : Lists w T h ob M B l m s) (hn : s.n + M + 1 ≤ 1099511627776) (hNM : N ≤ M) :
    Calls Tryz.prog 11 #[.pointer (some ⟨h, 2, none⟩), .slice (some ⟨ob, 0, none⟩) N M] w fun e w' => e = .returned (.tuple #[]) ∧ Touch (outS h ob M B s) w w' ∧ ∃ s', HeldInv w' h s' ∧ s'.n = s.n + M + 1 ∧ s'.cs = s.cs ∧ s'.rs = s.rs ∧ s'.S = s.S ∧ s'.vS = s.vS ∧ s'.T = s.T ∧ s'.vT = s.vT ∧ s'.R = s.R ∧ s'.vR = s.vR ∧ s'.B = s.B ∧ s'.vB = s.vB := by
  have HH := hide H
  have HL := hide L
  have l0 : 0 ≤ s.n := by have := H.lo; omega
  clear H L
  go_enter Tryz.func11, Tryz.ntmps11
  go_wp2_with fail
  go_loopw [5] (fun t wr => ∃ (i : Nat) (v : Value), i ≤ M ∧ t = .int .i64 i ∧ Touch (outS h ob M B s) w wr ∧ HeldInv wr h (stP s B m v i) ∧ (v.ownBlock = s.vP.ownBlock ∨ ∃ g, v.ownBlock = some g ∧ w.heap.size ≤ g)
      ∧ wr.rowIs ob 66 M (fun i => .slice (some ⟨B i, 0, none⟩) (l i) (m i)) ∧ (∀ j, i ≤ j → j < M → ∃ f, wr.rowIs (B j) 68 (m j * 3) f)) (fun t _ => M - (intOf t).toNat)
  case atStart => exact ⟨0, s.vP, by omega, rfl, Touch.refl _ _, by rw [stP_zero]; exact HH.out, .inl rfl, HL.out.outer, fun j _ hj => HL.out.inner j hj⟩
  case round =>
    obtain ⟨wo, rfl⟩ : ∃ wo, wo = wr := ⟨wr, rfl⟩
    obtain ⟨i, v, hi, rfl, hto, hinv, hown, hout, hrest⟩ := hrel
    by_cases hlt : i < M
    · obtain ⟨hle1, hle2⟩ := HL.out.le i hlt
      have oi := hout.cell (i := i) hlt
      have hd1 : decide ((i : Int) < (M : Int)) = true := by simp; omega
      have g0 : (0 : Int) ≤ (i : Int) := by omega
      have g1 : (i : Int) < (M : Int) := by omega
      have HI := hide hinv
      have HR := hide hrest
      have HO := hide hout
      have HW := hide hown
      have HT := hide hto
      clear hinv hrest hout hown hto
      go_wp2_with fail
      go_quiet (fail)
      go_wp2_with fail
      have HI2 : HeldInv (wo.drewN nq) h (stP s B m v i) := HI.out.of_blocks fun b _ => rfl
      refine (mark_any h _ _ HI2 (by show s.n + i + 1 ≤ _; omega)).mono ?_
      rintro e w1 ⟨rfl, hw1⟩
      have HI3 := hide (HI2.marked (by show s.n + i + 1 ≤ _; omega))
      have hT1 : Touch (fun b => b = h) wo w1 := by rw [hw1]; exact Touch.setCell (S := fun b => b = h) ((Touch.refl _ _).drewN nq) (.inl (by rfl)) _
      have hI1 : HeldInv w1 h { stP s B m v i with n := s.n + i + 1 } := by rw [hw1]; exact HI3.out
      have hv1 : (stP s B m v i).n + 1 = s.n + i + 1 := rfl
      rw [hv1]
      clear hw1 HI3 HI2 hv1
      have hBh : B i ≠ h := by
        obtain ⟨f, hf⟩ := HR.out i (Nat.le_refl _) hlt
        exact row_ne hf HI.out.wd (by decide)
      have hBo : ∀ j, j < M → i ≤ j → B j ≠ ob := fun j hj hij => by
        obtain ⟨f, hf⟩ := HR.out j hij hj
        exact row_ne hf HO.out (by decide)
      have hoh : ob ≠ h := row_ne HO.out HI.out.wd (by decide)
      obtain ⟨f0, hf0⟩ := HR.out i (Nat.le_refl _) hlt
      have hf1 := hide (hT1.row hf0 hBh)
      have HI1 := hide hI1
      have HT1 := hide hT1
      have HH2 := hide (And.intro hBh (And.intro hBo hoh))
      clear hf0 hI1 hT1 hBh hBo hoh
      obtain ⟨mk, hmk⟩ : ∃ mk, mk = s.n + (i : Int) + 1 := ⟨_, rfl⟩
      rw [← hmk]
      have m0 : 0 ≤ mk := by omega
      have m1 : mk ≤ 1099511627776 := by omega
      have HM := hide hmk
      clear hmk
      go_wp2_with fail
      go_loopw [8] (fun t wr => ∃ k : Nat, k ≤ m i ∧ t = .int .i64 k ∧ Touch (fun b => b = B i) w1 wr ∧ ∃ g, wr.rowIs (B i) 68 (m i * 3) g ∧ ∀ q, q < k * 3 → g q = mkP mk q) (fun t _ => m i - (intOf t).toNat)
      case atStart => exact ⟨0, by omega, rfl, Touch.refl _ _, _, hf1.out, by omega⟩
      case round =>
        obtain ⟨k, hk, rfl, hq, g, hrow, hg⟩ := hrel
        by_cases hkm : k < m i
        · have c0 := hrow.cell (i := k * 3) (by omega)
          have c1 := hrow.cell (i := k * 3 + 1) (by omega)
          have c2 := hrow.cell (i := k * 3 + 2) (by omega)
          have z0 := hrow.frozen (k * 3)
          have z1 := hrow.frozen (k * 3 + 1)
          have z2 := hrow.frozen (k * 3 + 2)
          have hbl := hrow.lt
          have hd2 : decide ((k : Int) < (m i : Int)) = true := by simp; omega
          have HS := hide (mark_step (.cells #[.int .i64 (2199023255552 + mk), .int .i64 (-7), .int .i64 9] 68) hrow hg)
          have HQ := hide hq
          clear hrow hg hq
          go_wp2_with fail
          refine (markPoint_any _ _ m0 m1).mono ?_
          rintro e w2 ⟨rfl, rfl⟩
          go_wp2
          go_roundw
          case rel => exact ⟨k + 1, by omega, by go_num, (((HQ.out.setCell (.inl (by rfl)) _).setCell (.inl (by rfl)) _).setCell (.inl (by rfl)) _).alloc _, HS.out⟩
          case measure => simp [intOf]; omega
        · have e : k = m i := by omega
          subst e
          have hro := hide (hrow.congr hg)
          have hIw : HeldInv wr h { stP s B m v i with n := s.n + i + 1 } := HI1.out.of_blocks fun b u => hq.block b (HI1.out.used_lt u) (stP_ne HI1.out HL.out.und HL.out.geB HL.out.inj hlt u (row_ty hf1.out))
          clear hrow hg
          have HIw := hide hIw
          clear hIw
          have HQ := hide hq
          clear hq
          have c3 : wr.cell? ⟨h, 2 + 1, none⟩ = some v := by rw [HIw.out.wd.cell (by omega)]; rfl
          have z3 := HIw.out.wd.frozen 3
          have hhl := HIw.out.wd.lt
          obtain ⟨i0, hi0, hz0, hz1, hz2⟩ := info_parts info_hp
          obtain ⟨xs, hxs⟩ : ∃ xs, xs = (stP s B m v i).P.flatMap peC := ⟨_, rfl⟩
          have hoP : wr.ownsRow h 80 2 v (s.P.length + i) xs := by
            have := HIw.out.oP
            have e : (stP s B m v i).P.length = s.P.length + i := by simp [stP]
            rw [hxs, ← e]; exact this
          have HX := hide hxs
          clear hxs
          have hplen : ((s.P.length : Int)) + i ≤ 1099511627776 := by
            have hlo := HIw.out.lo
            simp [stP] at hlo; omega
          go_wp2_with (at_builtin; refine wpList_append_lies _ rfl _ _ 28 rfl h 80 i0 (.agg #[.slice none 0 0, .int .i64 0]) 2 32 Tryz.underlying28 hi0 hz0 hz1 hz2 rfl (by omega) v (s.P.length + i) xs rfl (hoP.alloc _) ⟨wr.heap.size, 0, none⟩ 1 1 [.slice (some ⟨B i, 0, none⟩) (m i) (m i), .int .i64 mk] rfl rfl ?c1 ?c2 (by omega) ?c3 ?c4 ?c5 (wr.heap.size + 1) (by simp) ?_)
          case c2 => exact ⟨rfl, rfl⟩
          case c3 => unfold maxLen; omega
          case c4 => omega
          case c5 => omega
          intro g1 cap w2 hown2 hgrow hat hlt2
          rw [HM.out] at hown2
          have HP := hide (outline_push HL.out hlt HT.out HW.out HI.out HO.out HR.out HT1.out HQ.out HIw.out (by rw [← HM.out]; exact hro.out) HX.out hown2 hgrow hat)
          have hty : some h ≠ v.ownBlock := fun e => by
            have := owns_ty hoP e.symm
            rw [row_ty HIw.out.wd] at this
            simp at this
          have c3' := (hgrow.cell_far ⟨h, 2 + 1, none⟩ (by simp; omega) hty).trans (by go_simp : _ = some v)
          have z3' := (hgrow.frozen_far ⟨h, 3, none⟩ (by simp; omega) hty).trans (by go_simp : _ = false)
          clear hown2 hgrow hat hty hoP
          go_wp2
          go_roundw
          case rel => exact ⟨i + 1, _, by omega, by go_num, HP.out⟩
          case measure => simp [intOf]; omega
    · have e : i = M := by omega
      subst e
      have hd1 : decide ((i : Int) < (i : Int)) = false := by simp
      have HI := hide hinv
      have HO := hide hout
      have HW := hide hown
      have HT := hide hto
      clear hinv hrest hout hown hto
      go_wp2_with fail
      refine (mark_any h _ _ HI.out (by show s.n + i + 1 ≤ _; omega)).mono ?_
      rintro e w1 ⟨rfl, hw1⟩
      have HI3 := hide (HI.out.marked (by show s.n + i + 1 ≤ _; omega))
      have hT1 : Touch (fun b => b = h) wo w1 := by rw [hw1]; exact Touch.setCell (S := fun b => b = h) (Touch.refl _ _) (.inl (by rfl)) _
      have hI1 : HeldInv w1 h { stP s B m v i with n := s.n + i + 1 } := by rw [hw1]; exact HI3.out
      have hv1 : (stP s B m v i).n + 1 = s.n + i + 1 := rfl
      rw [hv1]
      clear hw1 HI3 hv1
      have hoh : ob ≠ h := row_ne HO.out HI.out.wd (by decide)
      have hO1 := hide (hT1.row HO.out hoh)
      have HI1 := hide hI1
      have HT1 := hide hT1
      clear hI1 hT1
      obtain ⟨mk, hmk⟩ : ∃ mk, mk = s.n + (i : Int) + 1 := ⟨_, rfl⟩
      rw [← hmk]
      have m0 : 0 ≤ mk := by omega
      have m1 : mk ≤ 1099511627776 := by omega
      have HM := hide hmk
      clear hmk
      go_wp2_with fail
      go_loopw [10] (fun t wr => ∃ k : Nat, k ≤ i ∧ t = .int .i64 k ∧ Touch (fun b => b = ob) w1 wr ∧ ∃ F : Nat → Nat, wr.rowIs ob 66 i (fun j => if j < k then .slice (some ⟨F j, 0, none⟩) 1 1 else .slice (some ⟨B j, 0, none⟩) (l j) (m j)) ∧
          ∀ j, j < k → w1.heap.size ≤ F j ∧ wr.rowIs (F j) 68 3 (mkP mk)) (fun t _ => i - (intOf t).toNat)
      case atStart => exact ⟨0, by omega, rfl, Touch.refl _ _, fun _ => 0, hO1.out.congr (fun j _ => by simp), by omega⟩
      case round =>
        obtain ⟨k, hk, rfl, hq, F, hrow, hF⟩ := hrel
        by_cases hki : k < i
        · have c0 := hrow.cell (i := k) hki
          have z0 := hrow.frozen k
          have hbl := hrow.lt
          have hd2 : decide ((k : Int) < (i : Int)) = true := by simp; omega
          have HS := hide (out_step (o := .cells #[.int .i64 (2199023255552 + mk), .int .i64 (-7), .int .i64 9] 68) hq hrow hF)
          clear hrow hq hF
          go_wp2_with fail
          refine (markPoint_any _ _ m0 m1).mono ?_
          rintro e w2 ⟨rfl, rfl⟩
          go_wp2
          go_roundw
          case rel => exact ⟨k + 1, by omega, by go_num, HS.out⟩
          case measure => simp [intOf]; omega
        · have e : k = i := by omega
          subst e
          have hro := hide (hrow.congr (g := fun j => .slice (some ⟨F j, 0, none⟩) 1 1) (fun j hj => by simp [hj]))
          have hIw : HeldInv wr h { stP s B m v k with n := s.n + k + 1 } := HI1.out.of_blocks fun b u => hq.block b (HI1.out.used_lt u) (stP_ne_ob HI1.out HL.out.und HL.out.geO u (row_ty hO1.out))
          have HF := hide hF
          clear hrow hF
          have HIw := hide hIw
          clear hIw
          have HQ := hide hq
          clear hq
          have c4 : wr.cell? ⟨h, 2 + 2, none⟩ = some s.vO := by rw [HIw.out.wd.cell (by omega)]; rfl
          have z4 := HIw.out.wd.frozen 4
          have hhl := HIw.out.wd.lt
          obtain ⟨i0, hi0, hz0, hz1, hz2⟩ := info_parts info_ho
          obtain ⟨xs, hxs⟩ : ∃ xs, xs = s.O.flatMap oeC := ⟨_, rfl⟩
          have hoO : wr.ownsRow h 82 2 s.vO s.O.length xs := by
            rw [hxs]; exact HIw.out.oO
          have HX := hide hxs
          clear hxs
          have hplen : (s.O.length : Int) ≤ 1099511627776 := by
            have hlo := HIw.out.lo
            simp [stP] at hlo; omega
          go_wp2_with (at_builtin; refine wpList_append_lies _ rfl _ _ 29 rfl h 82 i0 (.agg #[.slice none 0 0, .int .i64 0]) 2 32 Tryz.underlying29 hi0 hz0 hz1 hz2 rfl (by omega) s.vO s.O.length xs rfl (hoO.alloc _) ⟨wr.heap.size, 0, none⟩ 1 1 [.slice (some ⟨ob, 0, none⟩) k k, .int .i64 mk] rfl rfl ?d1 ?d2 (by omega) ?d3 ?d4 ?d5 (wr.heap.size + 1) (by simp) ?_)
          case d2 => exact ⟨rfl, rfl⟩
          case d3 => unfold maxLen; omega
          case d4 => omega
          case d5 => omega
          intro g1 cap w2 hown2 hgrow hat hlt2
          rw [HM.out, HX.out] at hown2
          have hty : some h ≠ s.vO.ownBlock := fun e => by
            have := owns_ty hoO e.symm
            rw [row_ty HIw.out.wd] at this
            simp at this
          have hI2 : HeldInv (w2.setCell ⟨h, 4, none⟩ (.slice (some ⟨g1, 0, none⟩) (s.O.length + 1) cap)) h { ({ stP s B m v k with n := s.n + k + 1 } : HS) with vO := .slice (some ⟨g1, 0, none⟩) (s.O.length + 1) cap, O := s.O ++ [(ob, k, F, s.n + k + 1)] } :=
            HeldInv.pushO (b := ob) (m := k) (g := g1) (cap := cap) (F := F) HIw.out hro.out (fun j hj => by rw [← HM.out]; exact (HF.out j hj).2) (by omega) (by have := HI.out.lo; simp [stP] at this ⊢; omega) hown2 hgrow hat
          have hT2 : Touch (outS h ob k B s) w (w2.setCell ⟨h, 4, none⟩ (.slice (some ⟨g1, 0, none⟩) (s.O.length + 1) cap)) := by
            have t1 := HT.out.trans' HT1.out (fun x hx => .inl (.inl hx))
            have t2 := t1.trans' HQ.out (fun x hx => .inl (.inr (.inl hx)))
            have t3 := (t2.alloc _).grown hgrow (fun b hb => .inl (.inr (.inr (.inr (.inr hb)))))
            exact t3.setCell (.inl (.inl (by rfl))) _
          have HI2 := hide hI2
          have HT2 := hide hT2
          have c4' := (hgrow.cell_far ⟨h, 2 + 2, none⟩ (by simp; omega) hty).trans (by go_simp : _ = some s.vO)
          have z4' := (hgrow.frozen_far ⟨h, 4, none⟩ (by simp; omega) hty).trans (by go_simp : _ = false)
          clear hown2 hgrow hat hty hoO hI2 hT2
          go_wp2
          go_end0
          exact ⟨rfl, HT2.out, _, HI2.out, rfl, rfl, rfl, rfl, rfl, rfl, rfl, rfl, rfl, rfl, rfl⟩
end Go.Proofs.YtkhcjkmifddlbaaGreat

/- PlaceC -/
namespace Go.Proofs.YtkhcjkmifddlbaaGreat
open Go.RowKit

set_option maxHeartbeats 400000 in
theorem num_any (n : Int) (w : World) :
    Calls Tryz.prog 13 #[.int .i64 n] w fun e w' => e = .returned (.int .i64 n) ∧ w' = w := by
  go_enter Tryz.func13, Tryz.ntmps13
  go_wp2
  go_ret
  exact ⟨rfl, rfl⟩

end Go.Proofs.YtkhcjkmifddlbaaGreat

/- Checks -/
namespace Go.Proofs.YtkhcjkmifddlbaaGreat
open Go.RowKit Go.Deep

theorem outS_ge {w : World} {h ob M B0 : Nat} {B : Nat → Nat} {s : HS} (H : HeldInv w h s) (hh : B0 ≤ h) (ho : B0 ≤ ob) (hB : ∀ i, i < M → B0 ≤ B i) {b : Nat} (hb : outS h ob M B s b) : B0 ≤ b := by
  rcases hb with rfl | rfl | ⟨i, hi, rfl⟩ | hb | hb
  · exact hh
  · exact ho
  · exact hB i hi
  · have := (H.oP.lt b hb).1; omega
  · have := (H.oO.lt b hb).1; omega

end Go.Proofs.YtkhcjkmifddlbaaGreat

/- Dry -/
namespace Go.Proofs.YtkhcjkmifddlbaaGreat
open Go.RowKit Go.Deep

theorem flat2 {α : Type} (f : α → List Value) (hf : ∀ e, (f e).length = 2) : ∀ (l : List α) (i : Nat) (hi : i < l.length), (l.flatMap f)[i * 2]? = (f l[i])[0]? ∧ (l.flatMap f)[i * 2 + 1]? = (f l[i])[1]? := by
  intro l
  induction l with
  | nil => intro i hi; simp at hi
  | cons x r ih =>
    intro i hi
    rw [List.flatMap_cons]
    cases i with
    | zero =>
      have := hf x
      simp only [Nat.zero_mul, Nat.zero_add, List.getElem_cons_zero]
      rw [List.getElem?_append_left (by omega), List.getElem?_append_left (by omega)]
      exact ⟨rfl, rfl⟩
    | succ j =>
      have h2 := hf x
      have := ih j (by simpa using hi)
      simp only [List.getElem_cons_succ]
      rw [List.getElem?_append_right (by omega), List.getElem?_append_right (by omega), h2]
      rw [show (j + 1) * 2 - 2 = j * 2 by omega, show (j + 1) * 2 + 1 - 2 = j * 2 + 1 by omega]
      exact this

/-- The shape of a row that the caller owns, two cells an element. -/
theorem owns_form {α : Type} {w : World} {base : Nat} {t : TypeId} {v : Value} {l : List α} {f : α → List Value} (hf : ∀ e, (f e).length = 2) (h : w.ownsRow base t 2 v l.length (l.flatMap f)) :
    ∃ ao cap, v = .slice ao l.length cap ∧ (0 < l.length → ∃ g, ao = some ⟨g, 0, none⟩ ∧ g < w.heap.size ∧ ∀ (i : Nat) (hi : i < l.length), w.cell? ⟨g, i * 2, none⟩ = (f l[i])[0]? ∧ w.cell? ⟨g, i * 2 + 1, none⟩ = (f l[i])[1]?) := by
  rcases h.2 with ⟨rfl, h0⟩ | ⟨g, cap, cur, rfl, hb, hg, hle, hcap, hsz, htk⟩
  · exact ⟨none, 0, by rw [h0], by omega⟩
  · refine ⟨some ⟨g, 0, none⟩, cap, rfl, fun _ => ⟨g, rfl, (Array.getElem?_eq_some_iff.1 hg).1, fun i hi => ?_⟩⟩
    have := flat2 f hf l i hi
    have e : ∀ j, j < l.length * 2 → w.cell? ⟨g, j, none⟩ = (l.flatMap f)[j]? := fun j hj => h.cellAt j hj
    rw [e _ (by omega), e _ (by omega)]
    exact this

theorem mkP_row {w : World} {b m : Nat} {t : TypeId} {n : Int} (h : w.rowIs b t (m * 3) (mkP n)) (k : Nat) (hk : k < m) :
    w.cell? ⟨b, k * 3, none⟩ = some (.int .i64 (2199023255552 + n)) ∧ w.cell? ⟨b, k * 3 + 1, none⟩ = some (.int .i64 (-7)) ∧ w.cell? ⟨b, k * 3 + 2, none⟩ = some (.int .i64 9) := by
  exact row_cells h k hk

set_option maxHeartbeats 1000000 in
theorem points_any (h : Nat) (s : HS) (w : World) (H : HeldInv w h s) :
    Calls Tryz.prog 16 #[.pointer (some ⟨h, 2, none⟩)] w fun e w' => e = .returned (.bool true) ∧ Below w.heap.size w w' := by
  have HH := hide H
  have hlo := H.lo
  have hhi := H.hi
  obtain ⟨aP, cP, evP, hP⟩ := owns_form (fun e => rfl) H.oP
  obtain ⟨aO, cO, evO, hO⟩ := owns_form (fun e => rfl) H.oO
  have c3 : w.cell? ⟨h, 2 + 1, none⟩ = some (.slice aP s.P.length cP) := by rw [H.wd.cell (by omega), ← evP]; rfl
  have c4 : w.cell? ⟨h, 2 + 2, none⟩ = some (.slice aO s.O.length cO) := by rw [H.wd.cell (by omega), ← evO]; rfl
  have hhl := H.wd.lt
  have HP := hide hP
  have HO := hide hO
  clear H evP evO hP hO
  have lP : (s.P.length : Int) ≤ 1099511627776 := by omega
  have lO : (s.O.length : Int) ≤ 1099511627776 := by omega
  go_enter Tryz.func16, Tryz.ntmps16
  go_wp2_with fail
  go_loopw [3] (fun t wr => ∃ i : Nat, i ≤ s.P.length ∧ t = .int .i64 i ∧ Below w.heap.size w wr) (fun t _ => s.P.length - (intOf t).toNat)
  case atStart => exact ⟨0, by omega, rfl, Below.refl _ _⟩
  case round =>
    obtain ⟨wo, rfl⟩ : ∃ wo, wo = wr := ⟨wr, rfl⟩
    obtain ⟨i, hi, rfl, hb⟩ := hrel
    have hsz := hb.size
    have d3 := (hb.cell (p := ⟨h, 2 + 1, none⟩) hhl).trans c3
    by_cases hlt : i < s.P.length
    · obtain ⟨g, rfl, hgl, hg⟩ := HP.out (by omega)
      obtain ⟨x0, x1⟩ := hg i hlt
      obtain ⟨e, he⟩ : ∃ e, s.P[i] = e := ⟨_, rfl⟩
      have hmem : e ∈ s.P := by rw [← he]; exact List.getElem_mem hlt
      rw [he] at x0 x1
      have y0 := (hb.cell (p := ⟨g, i * 2, none⟩) hgl).trans x0
      have y1 := (hb.cell (p := ⟨g, i * 2 + 1, none⟩) hgl).trans x1
      simp only [peC, List.getElem?_cons_zero, List.getElem?_cons_succ] at y0 y1
      obtain ⟨b, m, n⟩ := e
      have hrow : w.rowIs b 68 (m * 3) (mkP n) := HH.out.eP _ hmem
      obtain ⟨n0, n1, n2⟩ : 0 ≤ n ∧ n ≤ 1099511627776 ∧ m ≤ 1099511627776 := HH.out.mP _ hmem
      simp only at y0 y1
      have HR := hide hrow
      have hbl := hrow.lt
      clear hg x0 x1 he hmem hrow
      have hd1 : decide ((i : Int) < (s.P.length : Int)) = true := by simp; omega
      go_wp2_with fail
      go_loopw [5] (fun t wr => ∃ k : Nat, k ≤ m ∧ t = .int .i64 k ∧ wo.heap.size < wr.heap.size ∧ Below w.heap.size w wr ∧ wr.cell? ⟨wo.heap.size, 0, none⟩ = some (.slice (some ⟨b, 0, none⟩) m m) ∧ wr.cell? ⟨wo.heap.size, 1, none⟩ = some (.int .i64 n)) (fun t _ => m - (intOf t).toNat)
      case atStart =>
        refine ⟨0, by omega, rfl, by simp, by (repeat (any_goals (first | exact Below.refl _ _ | assumption | refine Below.drew ?_ | refine below_drewN ?_ _ | refine Below.setCell ?_ ?_ _ | refine Below.alloc ?_ ?_ _ | omega | (simp; done) | (simp; omega)))), ?_, ?_⟩
        all_goals go_simp
      case round =>
        obtain ⟨k, hk, rfl, hszr, hbr, b0, b1⟩ := hrel
        by_cases hkm : k < m
        · obtain ⟨q0, q1, q2⟩ := mkP_row (row_below HR.out hbr hbl) k hkm
          have hd2 : decide ((k : Int) < (m : Int)) = true := by simp; omega
          have g0 : (0 : Int) ≤ (k : Int) := by omega
          have g1 : (k : Int) < (m : Int) := by omega
          go_wp2_with fail
          go_region_held3 (fun w' => w'.cell? ⟨wo.heap.size, 0, none⟩ = some (.slice (some ⟨b, 0, none⟩) m m) ∧ w'.cell? ⟨wo.heap.size, 1, none⟩ = some (.int .i64 n) ∧ w'.cell? ⟨b, k * 3, none⟩ = some (.int .i64 (2199023255552 + n)) ∧ w'.cell? ⟨b, k * 3 + 1, none⟩ = some (.int .i64 (-7)) ∧ w'.cell? ⟨b, k * 3 + 2, none⟩ = some (.int .i64 9)) (go_keep) ((go_at_call 26; refine (markPoint_any _ _ n0 n1).mono ?_; rintro e w' ⟨rfl, rfl⟩))
          go_wp2
          go_roundw
          case rel =>
            refine ⟨k + 1, by omega, by go_num, by simp; omega, by (repeat (any_goals (first | exact Below.refl _ _ | assumption | refine Below.drew ?_ | refine below_drewN ?_ _ | refine Below.setCell ?_ ?_ _ | refine Below.alloc ?_ ?_ _ | omega | (simp; done) | (simp; omega)))), ?_, ?_⟩
            all_goals go_simp
          case measure => simp [intOf]; omega
        · go_wp2
          go_roundw
          case rel => exact ⟨i + 1, by omega, by go_num, hbr⟩
          case measure => simp [intOf]; omega
    · have hd0 : decide ((i : Int) < (s.P.length : Int)) = false := by simp; omega
      go_wp2_with fail
      go_loopw [6] (fun t wr => ∃ j : Nat, j ≤ s.O.length ∧ t = .int .i64 j ∧ Below w.heap.size w wr) (fun t _ => s.O.length - (intOf t).toNat)
      case atStart => exact ⟨0, by omega, rfl, hb⟩
      case round =>
        obtain ⟨wp, rfl⟩ : ∃ wp, wp = wr := ⟨wr, rfl⟩
        obtain ⟨j, hj, rfl, hbj⟩ := hrel
        have hszj := hbj.size
        have d4 := (hbj.cell (p := ⟨h, 2 + 2, none⟩) hhl).trans c4
        by_cases hltj : j < s.O.length
        · obtain ⟨g, rfl, hgl, hg⟩ := HO.out (by omega)
          obtain ⟨x0, x1⟩ := hg j hltj
          obtain ⟨e, he⟩ : ∃ e, s.O[j] = e := ⟨_, rfl⟩
          have hmem : e ∈ s.O := by rw [← he]; exact List.getElem_mem hltj
          rw [he] at x0 x1
          have y0 := (hbj.cell (p := ⟨g, j * 2, none⟩) hgl).trans x0
          have y1 := (hbj.cell (p := ⟨g, j * 2 + 1, none⟩) hgl).trans x1
          simp only [oeC, List.getElem?_cons_zero, List.getElem?_cons_succ] at y0 y1
          obtain ⟨b, m, F, n⟩ := e
          have hrow : w.rowIs b 66 m (fun i => .slice (some ⟨F i, 0, none⟩) 1 1) := HH.out.eO _ hmem
          have hin : ∀ q, q < m → w.rowIs (F q) 68 3 (mkP n) := HH.out.eI _ hmem
          obtain ⟨n0, n1, n2⟩ : 0 ≤ n ∧ n ≤ 1099511627776 ∧ m ≤ 1099511627776 := HH.out.mO _ hmem
          simp only at y0 y1
          have HR := hide hrow
          have HIn := hide hin
          have hbl := hrow.lt
          clear hg x0 x1 he hmem hrow hin
          have hd1 : decide ((j : Int) < (s.O.length : Int)) = true := by simp; omega
          go_wp2_with fail
          go_loopw [8] (fun t wr => ∃ k : Nat, k ≤ m ∧ t = .int .i64 k ∧ wp.heap.size < wr.heap.size ∧ Below w.heap.size w wr ∧ wr.cell? ⟨wp.heap.size, 0, none⟩ = some (.slice (some ⟨b, 0, none⟩) m m) ∧ wr.cell? ⟨wp.heap.size, 1, none⟩ = some (.int .i64 n)) (fun t _ => m - (intOf t).toNat)
          case atStart =>
            refine ⟨0, by omega, rfl, by simp, by (repeat (any_goals (first | exact Below.refl _ _ | assumption | refine Below.drew ?_ | refine below_drewN ?_ _ | refine Below.setCell ?_ ?_ _ | refine Below.alloc ?_ ?_ _ | omega | (simp; done) | (simp; omega)))), ?_, ?_⟩
            all_goals go_simp
          case round =>
            obtain ⟨k, hk, rfl, hszr, hbr, b0, b1⟩ := hrel
            by_cases hkm : k < m
            · have r0 := (row_below HR.out hbr hbl).cell (i := k) hkm
              obtain ⟨q0, q1, q2⟩ := mkP_row (m := 1) (row_below (HIn.out k hkm) hbr (HIn.out k hkm).lt) 0 (by omega)
              simp only [Nat.zero_mul, Nat.zero_add] at q0 q1 q2
              have hd2 : decide ((k : Int) < (m : Int)) = true := by simp; omega
              have g0 : (0 : Int) ≤ (k : Int) := by omega
              have g1 : (k : Int) < (m : Int) := by omega
              go_wp2_with fail
              go_region_held3 (fun w' => w'.cell? ⟨wp.heap.size, 1, none⟩ = some (.int .i64 n) ∧ w'.cell? ⟨F k, 0, none⟩ = some (.int .i64 (2199023255552 + n)) ∧ w'.cell? ⟨F k, 1, none⟩ = some (.int .i64 (-7)) ∧ w'.cell? ⟨F k, 2, none⟩ = some (.int .i64 9)) (go_keep) ((go_at_call 26; refine (markPoint_any _ _ n0 n1).mono ?_; rintro e w' ⟨rfl, rfl⟩))
              go_wp2
              go_roundw
              case rel =>
                refine ⟨k + 1, by omega, by go_num, by simp; omega, by (repeat (any_goals (first | exact Below.refl _ _ | assumption | refine Below.drew ?_ | refine below_drewN ?_ _ | refine Below.setCell ?_ ?_ _ | refine Below.alloc ?_ ?_ _ | omega | (simp; done) | (simp; omega)))), ?_, ?_⟩
                all_goals go_simp
              case measure => simp [intOf]; omega
            · go_wp2
              go_roundw
              case rel => exact ⟨j + 1, by omega, by go_num, hbr⟩
              case measure => simp [intOf]; omega
        · have hd3 : decide ((j : Int) < (s.O.length : Int)) = false := by simp; omega
          go_wp2
          go_ret
          exact ⟨rfl, hbj⟩
end Go.Proofs.YtkhcjkmifddlbaaGreat
