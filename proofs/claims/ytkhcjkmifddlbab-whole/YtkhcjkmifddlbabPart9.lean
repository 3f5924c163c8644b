/- Joined: CvX, Kp, TmV, Tm, TmR, TmT, TmU, Fl, FlV, FlB, FlC. -/
import Derived.Test.YtkhcjkmifddlbabPart8
import Derived.Test.YtkhcjkmifddlbabPart2
import Derived.Test.YtkhcjkmifddlbabPart3
/- CvX -/
namespace Go.Proofs.Ytkhcjkmifddlbab
open Go.RowKit Go.Deep

theorem info_u8 : (Try.prog.info? 5).map (fun i => (i.zero, i.size, i.bytes)) = some (some (.int .u8 0), 1, 1) := by kernel_rfl
/-- The first k bytes of a part of a columns. -/
def pixL (A : Nat → Nat → Int) (x y a k : Nat) : List Int := (List.range k).map fun q => byteV (A (x + q % a) (y + q / a))
def u8C (l : List Int) : List Value := l.map (Value.int .u8)
theorem pixL_succ (A : Nat → Nat → Int) (x y a k : Nat) : pixL A x y a (k + 1) = pixL A x y a k ++ [byteV (A (x + k % a) (y + k / a))] := by
  unfold pixL; rw [List.range_succ, List.map_append]; rfl
theorem u8C_snoc (l : List Int) (z : Int) : u8C (l ++ [z]) = u8C l ++ [.int .u8 z] := by simp [u8C]
theorem pixL_len (A : Nat → Nat → Int) (x y a k : Nat) : (pixL A x y a k).length = k := by simp [pixL]
def gr3 (a b : Int) (v : Value) (q : Nat) : Value := [Value.int .i64 a, .int .i64 b, v][q]?.getD undef
theorem gr3_row (a b : Int) (v : Value) (w : World) (t : TypeId) : (w.alloc (.cells #[.int .i64 a, .int .i64 b, v] t)).rowIs w.heap.size t 3 (gr3 a b v) := by
  refine World.rowIs_alloc w #[.int .i64 a, .int .i64 b, v] t (gr3 a b v) (fun i hi => ?_)
  have hi : i < 3 := hi
  rcases (show i = 0 ∨ i = 1 ∨ i = 2 by omega) with rfl | rfl | rfl <;> rfl
theorem gr3_cells {w : World} {p : Nat} {t : TypeId} {a b : Int} {v : Value} (h : w.rowIs p t 3 (gr3 a b v)) : w.cell? ⟨p, 0, none⟩ = some (.int .i64 a) ∧ w.cell? ⟨p, 1, none⟩ = some (.int .i64 b) ∧ w.cell? ⟨p, 2, none⟩ = some v :=
  ⟨h.cell (i := 0) (by omega), h.cell (i := 1) (by omega), h.cell (i := 2) (by omega)⟩
theorem gr3_set {w : World} {p : Nat} {t : TypeId} {f : Nat → Value} (h : w.rowIs p t 3 f) (a b : Int) (v : Value) : (((w.setCell ⟨p, 0, none⟩ (.int .i64 a)).setCell ⟨p, 1, none⟩ (.int .i64 b)).setCell ⟨p, 2, none⟩ v).rowIs p t 3 (gr3 a b v) := by
  refine (((h.set 0 _).set 1 _).set 2 _).congr fun q hq => ?_
  rcases (show q = 0 ∨ q = 1 ∨ q = 2 by omega) with rfl | rfl | rfl <;> rfl

set_option maxRecDepth 100000 in
set_option maxHeartbeats 4000000 in
theorem canvasGray_any (bk W H tk x y a b : Nat) (tt : TypeId) (A : Nat → Nat → Int) (P st : Int) (S : Nat → Prop) (w : World) (hC : Cnv w bk tt W H tk A P S st) (hW : 1 ≤ W ∧ W ≤ 64) (hH : 1 ≤ H ∧ H ≤ 64) (hP : P ≤ 140737488355328)
    (ha : 1 ≤ a ∧ x + a ≤ W) (hb : 1 ≤ b ∧ y + b ≤ H) (hA : ∀ i j, i < W → j < H → -9000000000000000000 ≤ A i j ∧ A i j ≤ 9000000000000000000) :
    Calls Try.prog 51 #[.pointer (some ⟨bk, 0, none⟩), .int .i64 x, .int .i64 y, .int .i64 a, .int .i64 b] w fun e w' => ∃ v, e = .returned (.tuple #[.agg #[.int .i64 a, .int .i64 b, v], .int .i64 0]) ∧ Below w.heap.size w w' ∧ w'.ownsRow w.heap.size 5 1 v (a * b) (u8C (pixL A x y a (a * b))) := by
  obtain ⟨i0, hi0, hz0, hz1, hz2⟩ := info_parts info_u8
  have HC := hide hC
  have p1 : partB (x : Int) (a : Int) (W : Int) = true := by simp [partB]; omega
  have p2 : partB (y : Int) (b : Int) (H : Int) = true := by simp [partB]; omega
  obtain ⟨k0, k1, k2, k3, hbl⟩ := hC.cells
  have HA := hide hA
  have HZ := hide (gr3_row 0 0 (.slice none 0 0) w 57)
  clear hC hA
  go_enter Try.func51, Try.ntmps51
  go_wp2_with (go_at_call 67; refine (isPart_any _ _ _ _ (by omega)).mono ?_; rintro e w' ⟨rfl, rfl⟩)
  obtain ⟨sb, hsb⟩ : ∃ sb, sb = w.heap.size := ⟨_, rfl⟩
  obtain ⟨W1, hW1⟩ : ∃ W1, W1 = w.alloc (.cells #[.int .i64 0, .int .i64 0, .slice none 0 0] 57) := ⟨_, rfl⟩
  have hs1 : W1.heap.size = sb + 1 := by rw [hW1, hsb]; simp
  have HB1 : Hid (Below w.heap.size w W1) := by unfold Hid; rw [hW1]; exact (Below.refl _ _).alloc (Nat.le_refl _) _
  rw [← hW1, ← hsb] at HZ
  rw [← hW1]
  try rw [← hsb]
  have HC1 := hide (HC.out.below HB1.out)
  have HSb : Hid (sb = w.heap.size) := hsb
  clear hW1 hsb HC k0 k1 k2 k3
  go_loopw [12, 13] (fun v t wr => ∃ j : Nat, j ≤ b ∧ t = .int .i64 j ∧ Below (sb + 1) W1 wr ∧ wr.ownsRow (sb + 1) 5 1 v (j * a) (u8C (pixL A x y a (j * a)))) (fun _ t _ => b - (intOf t).toNat)
  case atStart => exact ⟨0, by omega, rfl, Below.refl _ _, by simp [pixL, u8C]; exact World.ownsRow_nil _ _ _ _⟩
  case round =>
    obtain ⟨wo, rfl⟩ : ∃ wo, wo = wr := ⟨_, rfl⟩
    obtain ⟨vo, rfl⟩ : ∃ vo, vo = u12 := ⟨_, rfl⟩
    obtain ⟨j, hj, rfl, hbo, howno⟩ := hrel
    by_cases hlt : j < b
    · have hd1 : decide ((j : Int) < (b : Int)) = true := by simp; omega
      have hmj : j * a + a ≤ a * b := by rw [Nat.mul_comm a b]; exact Num.mul_lt_row hlt
      have hab : a * b ≤ 64 * 64 := Nat.mul_le_mul (show a ≤ 64 by omega) (show b ≤ 64 by omega)
      obtain ⟨ja, hja⟩ : ∃ ja, ja = j * a := ⟨_, rfl⟩
      rw [← hja] at howno hmj
      have HJA := hide hja
      have HOo := hide howno
      have HBo := hide hbo
      clear howno hbo hja
      go_wp2_with fail
      go_loopw [12, 14] (fun v t wr => ∃ i : Nat, i ≤ a ∧ t = .int .i64 i ∧ Below (sb + 1) W1 wr ∧ wr.ownsRow (sb + 1) 5 1 v (ja + i) (u8C (pixL A x y a (ja + i)))) (fun _ t _ => a - (intOf t).toNat)
      case atStart => exact ⟨0, by omega, rfl, HBo.out, HOo.out⟩
      case round =>
        obtain ⟨v, rfl⟩ : ∃ v, v = u12 := ⟨_, rfl⟩
        obtain ⟨i, hi, rfl, hb1, hown⟩ := hrel
        have hsz := hb1.size
        by_cases hli : i < a
        · have hdi : decide ((i : Int) < (a : Int)) = true := by simp; omega
          have HCall := hide (areaOf_any bk W H tk (x + i) (y + j) tt A P st S wr (HC1.out.below (hb1.mono (by omega))) hW hH (by omega) (by omega) hP)
          rw [show ((x + i : Nat) : Int) = (x : Int) + (i : Int) by omega, show ((y + j : Nat) : Int) = (y : Int) + (j : Int) by omega] at HCall
          obtain ⟨b1, b2⟩ := HA.out (x + i) (y + j) (by omega) (by omega)
          have HSu := hide (pixL_succ A x y a (ja + i))
          have hmod : (ja + i) % a = i := by rw [HJA.out, Nat.mul_comm j a, Nat.mul_add_mod, Nat.mod_eq_of_lt hli]
          have hdiv : (ja + i) / a = j := by rw [HJA.out, Nat.mul_comm j a, Nat.mul_add_div (by omega), Nat.div_eq_of_lt hli, Nat.add_zero]
          rw [hmod, hdiv] at HSu
          obtain ⟨z, hz⟩ : ∃ z, z = A (x + i) (y + j) := ⟨_, rfl⟩
          rw [← hz] at HCall b1 b2 HSu
          obtain ⟨L, hL⟩ : ∃ L, L = u8C (pixL A x y a (ja + i)) := ⟨_, rfl⟩
          rw [← hL] at hown
          have HLs : Hid (u8C (pixL A x y a (ja + i + 1)) = L ++ [.int .u8 (byteV z)]) := by unfold Hid; rw [HSu.out, u8C_snoc, hL]
          have HOw := hide hown
          have HBw := hide hb1
          clear hmod hdiv hz hL hown hb1
          go_wp2_with fail
          refine HCall.out.mono ?_
          rintro e w2 ⟨rfl, hb2⟩
          have hs2 := hb2.size
          have hB2 : Below (sb + 1) W1 w2 := HBw.out.trans (hb2.mono (by omega))
          have hown2 := owns_of_block HOw.out (fun q hq => hb2.block q (HOw.out.lt q hq).2)
          clear hb2 HOw HBw HCall
          go_wp2_with fail
          refine (byteOf_any _ _ b1 b2).mono ?_
          rintro e w3 ⟨rfl, hw3⟩
          rw [hw3]
          clear hw3
          go_wp2_with (at_builtin; refine wpList_append_lies _ rfl _ _ 55 rfl (sb + 1) 5 i0 (.int .u8 0) 1 1 Try.underlying55 hi0 hz0 hz1 hz2 rfl (by omega) v (ja + i) L rfl (hown2.alloc _) ⟨w2.heap.size, 0, none⟩ 1 1 [.int .u8 (byteV z)] rfl rfl ?a1 ?a2 (by omega) ?a3 ?a4 ?a5 (w2.heap.size + 1) (by simp) ?_)
          try (case a1 => exact news_new w2 [.int .u8 (byteV z)] _ _ rfl)
          case a2 => first | rfl | (intro u hu; simp at hu; subst hu; rfl)
          case a3 => unfold maxLen; omega
          case a4 => omega
          case a5 => first | omega | (simp; omega)
          intro g cap w4 hown4 hgrow hat hlt4
          have hb4 : Below (sb + 1) W1 w4 := (hB2.alloc (by omega) _).grown hgrow (by simp; omega) (fun q hq => (hown2.lt q hq).1)
          have HO4 : Hid (w4.ownsRow (sb + 1) 5 1 (.slice (some ⟨g, 0, none⟩) (ja + i + 1) cap) (ja + (i + 1)) (u8C (pixL A x y a (ja + (i + 1))))) := by
            unfold Hid
            rw [← Nat.add_assoc, HLs.out]
            exact hown4
          clear hown4 hgrow hat hown2 hB2
          go_wp2
          go_roundw
          case rel => exact ⟨i + 1, by omega, by go_num, hb4, HO4.out⟩
          case measure => simp [intOf]; omega
        · have e : i = a := by omega
          have hdi : decide ((i : Int) < (a : Int)) = false := by simp; omega
          have HO : Hid (wr.ownsRow (sb + 1) 5 1 v ((j + 1) * a) (u8C (pixL A x y a ((j + 1) * a)))) := by
            unfold Hid
            rw [e, HJA.out, ← Nat.succ_mul] at hown
            exact hown
          have HB := hide hb1
          clear hown hb1
          go_wp2
          go_roundw
          case rel => exact ⟨j + 1, by omega, by go_num, HB.out, HO.out⟩
          case measure => simp [intOf]; omega
    · have e : j = b := by omega
      have hd0 : decide ((j : Int) < (b : Int)) = false := by simp; omega
      have HO : Hid (wo.ownsRow w.heap.size 5 1 vo (a * b) (u8C (pixL A x y a (a * b)))) := by
        unfold Hid
        rw [e, Nat.mul_comm b a] at howno
        exact owns_mono howno (by rw [← HSb.out]; omega)
      have hZ2 := row_below HZ.out hbo (by omega)
      obtain ⟨z0, z1, z2⟩ := gr3_cells hZ2
      have f0 := hZ2.frozen 0
      have f1 := hZ2.frozen 1
      have f2 := hZ2.frozen 2
      have hsl := hZ2.lt
      obtain ⟨ao, cap0, hv, _⟩ := owns_formN HO.out
      have HR := hide (gr3_set hZ2 a b vo)
      have hB : Below w.heap.size w wo := HB1.out.trans (hbo.mono (by rw [← HSb.out]; omega))
      have HB : Hid (Below w.heap.size w (((wo.setCell ⟨sb, 0, none⟩ (.int .i64 a)).setCell ⟨sb, 1, none⟩ (.int .i64 b)).setCell ⟨sb, 2, none⟩ vo)) := ((hB.setCell (p := ⟨sb, 0, none⟩) (by rw [← HSb.out]; exact Nat.le_refl _) _).setCell (p := ⟨sb, 1, none⟩) (by rw [← HSb.out]; exact Nat.le_refl _) _).setCell (p := ⟨sb, 2, none⟩) (by rw [← HSb.out]; exact Nat.le_refl _) _
      have HOF : Hid ((((wo.setCell ⟨sb, 0, none⟩ (.int .i64 a)).setCell ⟨sb, 1, none⟩ (.int .i64 b)).setCell ⟨sb, 2, none⟩ vo).ownsRow w.heap.size 5 1 vo (a * b) (u8C (pixL A x y a (a * b)))) := by
        refine owns_of_block HO.out (fun q hq => ?_)
        have hq1 := (howno.lt q hq).1
        have hne : q ≠ sb := by omega
        rw [set_otherB hne, set_otherB hne, set_otherB hne]
      subst hv
      clear howno hbo hZ2 hB HO
      go_wp2
      obtain ⟨wF, hwF⟩ : ∃ wF, wF = ((wo.setCell ⟨sb, 0, none⟩ (.int .i64 a)).setCell ⟨sb, 1, none⟩ (.int .i64 b)).setCell ⟨sb, 2, none⟩ (.slice ao (a * b) cap0) := ⟨_, rfl⟩
      rw [← hwF]
      rw [← hwF] at HR HB HOF
      obtain ⟨g0, g1, g2⟩ := gr3_cells HR.out
      exact bodyPost_ret (v := .tuple #[.agg #[.int .i64 a, .int .i64 b, .slice ao (a * b) cap0], .int .i64 0]) (by simp [results, Try.results51, go_sem, g0, g1, g2]) rfl ⟨_, rfl, HB.out, HOF.out⟩

set_option maxRecDepth 100000 in
set_option maxHeartbeats 2000000 in
theorem glyphGray_any (bk W H tk x y a b : Nat) (tt : TypeId) (A : Nat → Nat → Int) (P st : Int) (S : Nat → Prop) (w : World) (hC : Cnv w bk tt W H tk A P S st) (hW : 1 ≤ W ∧ W ≤ 64) (hH : 1 ≤ H ∧ H ≤ 64) (hP : P ≤ 140737488355328)
    (ha : 1 ≤ a ∧ x + a ≤ W) (hb : 1 ≤ b ∧ y + b ≤ H) (hA : ∀ i j, i < W → j < H → -9000000000000000000 ≤ A i j ∧ A i j ≤ 9000000000000000000) :
    Calls Try.prog 29 #[.pointer (some ⟨bk, 0, none⟩), .int .i64 x, .int .i64 y, .int .i64 a, .int .i64 b] w fun e w' => ∃ v, e = .returned (.tuple #[.agg #[.int .i64 a, .int .i64 b, v], .int .i64 0]) ∧ Below w.heap.size w w' ∧ w'.ownsRow w.heap.size 5 1 v (a * b) (u8C (pixL A x y a (a * b))) := by
  have hB0 : Hid (Below w.heap.size w (w.alloc (.cells #[.int .i64 0, .int .i64 0, .slice none 0 0] 57))) := (Below.refl _ _).alloc (Nat.le_refl _) _
  have HCall := hide (canvasGray_any bk W H tk x y a b tt A P st S _ (hC.below hB0.out) hW hH hP ha hb hA)
  have HZ := hide (gr3_row 0 0 (.slice none 0 0) w 57)
  have hbl := hC.cells.2.2.2.2
  clear hC hA
  go_enter Try.func29, Try.ntmps29
  go_wp2_with fail
  refine HCall.out.mono ?_
  rintro e w1 ⟨v, rfl, hb1, hown⟩
  have hs1 := hb1.size
  rw [nblk_alloc] at hs1
  have hZ2 := row_below HZ.out hb1 (by simp)
  obtain ⟨z0, z1, z2⟩ := gr3_cells hZ2
  have f0 := hZ2.frozen 0
  have f1 := hZ2.frozen 1
  have f2 := hZ2.frozen 2
  have hsl : w.heap.size < w1.heap.size := by omega
  obtain ⟨ao, cap0, hv, _⟩ := owns_formN hown
  have HR := hide (gr3_set hZ2 a b v)
  have hB : Below w.heap.size w w1 := hB0.out.trans (hb1.mono (by simp))
  have HB : Hid (Below w.heap.size w (((w1.setCell ⟨w.heap.size, 0, none⟩ (.int .i64 a)).setCell ⟨w.heap.size, 1, none⟩ (.int .i64 b)).setCell ⟨w.heap.size, 2, none⟩ v)) := ((hB.setCell (p := ⟨w.heap.size, 0, none⟩) (Nat.le_refl _) _).setCell (p := ⟨w.heap.size, 1, none⟩) (Nat.le_refl _) _).setCell (p := ⟨w.heap.size, 2, none⟩) (Nat.le_refl _) _
  have HOF : Hid ((((w1.setCell ⟨w.heap.size, 0, none⟩ (.int .i64 a)).setCell ⟨w.heap.size, 1, none⟩ (.int .i64 b)).setCell ⟨w.heap.size, 2, none⟩ v).ownsRow w.heap.size 5 1 v (a * b) (u8C (pixL A x y a (a * b)))) := by
    refine owns_mono (owns_of_block hown (fun q hq => ?_)) (by simp)
    have hq1 := (hown.lt q hq).1
    have hne : q ≠ w.heap.size := by simp at hq1; omega
    rw [set_otherB hne, set_otherB hne, set_otherB hne]
  subst hv
  clear hown hb1 hZ2 hB HCall
  go_wp2
  obtain ⟨wF, hwF⟩ : ∃ wF, wF = ((w1.setCell ⟨w.heap.size, 0, none⟩ (.int .i64 a)).setCell ⟨w.heap.size, 1, none⟩ (.int .i64 b)).setCell ⟨w.heap.size, 2, none⟩ (.slice ao (a * b) cap0) := ⟨_, rfl⟩
  rw [← hwF]
  rw [← hwF] at HR HB HOF
  obtain ⟨g0, g1, g2⟩ := gr3_cells HR.out
  exact bodyPost_ret (v := .tuple #[.agg #[.int .i64 a, .int .i64 b, .slice ao (a * b) cap0], .int .i64 0]) (by simp [results, Try.results29, go_sem, g0, g1, g2]) rfl ⟨_, rfl, HB.out, HOF.out⟩
end Go.Proofs.Ytkhcjkmifddlbab

/- Kp -/
namespace Go.Proofs.Ytkhcjkmifddlbab
open Go.RowKit Go.Deep

def pickV (c n : Int) : Int := (if c < 0 then -(c + 1) else c).tmod n
theorem pickV_rng (c n : Int) (hn : 0 < n) : 0 ≤ pickV c n ∧ pickV c n < n := by
  unfold pickV
  split
  · exact ⟨Int.tmod_nonneg _ (by omega), Int.tmod_lt_of_pos _ hn⟩
  · exact ⟨Int.tmod_nonneg _ (by omega), Int.tmod_lt_of_pos _ hn⟩
set_option maxHeartbeats 400000 in
theorem pick_any (c n : Int) (w : World) (h1 : -9223372036854775808 ≤ c) (h2 : c ≤ 9223372036854775807) (hn : 1 ≤ n ∧ n ≤ 4294967296) :
    Calls Try.prog 11 #[.int .i64 c, .int .i64 n] w fun e w' => e = .returned (.int .i64 (pickV c n)) ∧ w' = w := by
  by_cases h : c < 0
  · have HE : Hid (pickV c n = (-(c + 1)).tmod n) := by unfold Hid pickV; rw [if_pos h]
    have r := pickV_rng c n (by omega)
    rw [HE.out] at r
    go_enter Try.func11, Try.ntmps11
    go_wp2
    go_ret
    exact ⟨ret_int (by rw [HE.out]; first | rfl | rw [Int.neg_tmod] | (rw [Int.tmod_eq_emod_of_nonneg (by omega)])), rfl⟩
  · have HE : Hid (pickV c n = c.tmod n) := by unfold Hid pickV; rw [if_neg h]
    have r := pickV_rng c n (by omega)
    rw [HE.out] at r
    go_enter Try.func11, Try.ntmps11
    go_wp2
    go_ret
    exact ⟨ret_int (by rw [HE.out]; first | rfl | rw [Int.neg_tmod] | (rw [Int.tmod_eq_emod_of_nonneg (by omega)])), rfl⟩
def nearV (c m : Int) : Int := c.tmod (m + 1)
theorem nearV_rng (c m : Int) (hm : 0 ≤ m) : -m ≤ nearV c m ∧ nearV c m ≤ m := by
  unfold nearV
  obtain ⟨_, h1, h2, _⟩ := Num.tdiv_facts c (m + 1) (by omega)
  omega
set_option maxHeartbeats 400000 in
theorem knear_any (c m : Int) (w : World) (hm : 1 ≤ m ∧ m ≤ 4294967296) :
    Calls Try.prog 26 #[.int .i64 c, .int .i64 m] w fun e w' => e = .returned (.int .i64 (nearV c m)) ∧ w' = w := by
  have r := nearV_rng c m (by omega)
  unfold nearV at r ⊢
  go_enter Try.func26, Try.ntmps26
  go_wp2
  go_ret
  exact ⟨rfl, rfl⟩
def windowN (c : Int) : Nat := (pickV c 64 + 1).toNat
theorem windowN_rng (c : Int) : (1 ≤ windowN c ∧ windowN c ≤ 64) ∧ ((windowN c : Nat) : Int) = pickV c 64 + 1 := by
  have := pickV_rng c 64 (by omega)
  unfold windowN
  omega
set_option maxHeartbeats 400000 in
theorem window_any (c : Int) (w : World) (h1 : -9223372036854775808 ≤ c) (h2 : c ≤ 9223372036854775807) :
    Calls Try.prog 10 #[.int .i64 c] w fun e w' => e = .returned (.int .i64 (windowN c)) ∧ w' = w := by
  have r := pickV_rng c 64 (by omega)
  have HE := hide (windowN_rng c).2
  go_enter Try.func10, Try.ntmps10
  go_wp2_with (go_at_call 11; refine (pick_any _ _ _ (by omega) (by omega) (by omega)).mono ?_; rintro e w' ⟨rfl, rfl⟩)
  go_ret
  exact ⟨ret_int (by rw [HE.out]), rfl⟩
set_option maxHeartbeats 400000 in
theorem ksize_any (n : Int) (w : World) (h1 : -9000000000000000000 ≤ n) (h2 : n ≤ 9000000000000000000) :
    Calls Try.prog 22 #[.int .i64 n] w fun e w' => e = .returned (.int .i64 (Num.sz n)) ∧ w' = w := by
  by_cases a : n < 0
  · go_enter Try.func22, Try.ntmps22
    go_wp2
    go_ret
    exact ⟨ret_int (by unfold Num.sz; rw [if_pos (by omega)]), rfl⟩
  · go_enter Try.func22, Try.ntmps22
    go_wp2
    go_ret
    exact ⟨ret_int (by unfold Num.sz; rw [if_neg (by omega)]), rfl⟩
set_option maxHeartbeats 400000 in
theorem kleast_any (a b : Int) (w : World) :
    Calls Try.prog 47 #[.int .i64 a, .int .i64 b] w fun e w' => e = .returned (.int .i64 (Num.lsV a b)) ∧ w' = w := by
  by_cases h : a < b
  · go_enter Try.func47, Try.ntmps47
    go_wp2
    go_ret
    exact ⟨ret_int (by unfold Num.lsV; rw [if_pos (by omega)]), rfl⟩
  · go_enter Try.func47, Try.ntmps47
    go_wp2
    go_ret
    exact ⟨ret_int (by unfold Num.lsV; rw [if_neg (by omega)]), rfl⟩
theorem shade_eq (a : Int) : byteV a = (255 * Num.lsV (Num.sz a) 8192 + 4096) / 8192 := by
  unfold byteV Num.hu
  omega
set_option maxHeartbeats 400000 in
theorem shade_any (a : Int) (w : World) (h1 : -9000000000000000000 ≤ a) (h2 : a ≤ 9000000000000000000) :
    Calls Try.prog 30 #[.int .i64 a] w fun e w' => e = .returned (.int .u8 (byteV a)) ∧ w' = w := by
  have z1 := Num.sz_nn a
  have z2 := Num.ls_le (Num.sz a) 8192
  have z3 := Num.ls_or (Num.sz a) 8192
  have HE := hide (shade_eq a)
  have z4 := byteV_bd a
  rw [HE.out] at z4
  go_enter Try.func30, Try.ntmps30
  go_wp2_with (first | (go_at_call 22; refine (ksize_any _ _ (by omega) (by omega)).mono ?_; rintro e w' ⟨rfl, rfl⟩) | (go_at_call 47; refine (kleast_any _ _ _).mono ?_; rintro e w' ⟨rfl, rfl⟩))
  go_ret
  rw [HE.out]
  exact ⟨rfl, rfl⟩
set_option maxHeartbeats 400000 in
theorem plain_any (x y : Int) (w : World) :
    Calls Try.prog 18 #[.int .i64 x, .int .i64 y] w fun e w' => e = .returned (.agg #[.int .i64 1024, .int .i64 0, .int .i64 0, .int .i64 1024, .int .i64 x, .int .i64 y]) ∧ Below w.heap.size w w' := by
  go_enter Try.func18, Try.ntmps18
  go_wp2
  refine bodyPost_ret (v := .agg #[.int .i64 1024, .int .i64 0, .int .i64 0, .int .i64 1024, .int .i64 x, .int .i64 y]) (by simp [results, Try.results18, go_sem]) rfl ⟨rfl, ?_⟩
  (repeat (any_goals (first | exact Below.refl _ _ | assumption | refine Below.drew ?_ | refine below_drewN ?_ _ | refine Below.setCell ?_ ?_ _ | refine Below.alloc ?_ ?_ _ | omega | (simp; done) | (simp; omega))))

set_option maxRecDepth 100000 in
set_option maxHeartbeats 2000000 in
theorem laid_any (W H : Nat) (st : Int) (ad : Option Addr) (N cc : Nat) (AA : Nat → Option Addr) (C n : Nat → Nat) (X Y K : Nat → Nat → Int) (a b c d x y : Int) (w : World) (hW : 1 ≤ W ∧ W ≤ 64) (hH : 1 ≤ H ∧ H ≤ 64) (hst : st = 0 ∨ st = 1)
    (hN : N ≤ 4294967296) (hn : ∀ i, i < N → n i ≤ 4294967296) (ho : OutAt w ad N AA C n X Y K) (hE : traceE N n X Y K ⟨a, b, c, d, x, y⟩ = 0) :
    Calls Try.prog 12 #[.slice ad N cc, .agg #[.int .i64 a, .int .i64 b, .int .i64 c, .int .i64 d, .int .i64 x, .int .i64 y], .int .i64 W, .int .i64 H, .int .i64 st] w fun e w' => ∃ bk S, e = .returned (.tuple #[.pointer (some ⟨bk, 0, none⟩), .bool true]) ∧ Below w.heap.size w w' ∧
      Cnv w' bk 85 W H 1 (fun i j => Num.areaV (traceL n X Y K ⟨a, b, c, d, x, y⟩) N i j) 781440000000 S st ∧ ∀ q, S q → w.heap.size ≤ q := by
  have hB0 : Hid (Below w.heap.size w (w.alloc (.cells #[.int .i64 a, .int .i64 b, .int .i64 c, .int .i64 d, .int .i64 x, .int .i64 y] 24))) := (Below.refl _ _).alloc (Nat.le_refl _) _
  have HNew := hide (fun w' => glyphNew_any W H st w' hW hH hst)
  have HMr := hide (mp6_row a b c d x y w 24)
  have HO := hide (ho.below hB0.out)
  have HN := hide hn
  have HE := hide hE
  clear ho hn hE
  go_enter Try.func12, Try.ntmps12
  go_wp2_with fail
  refine (HNew.out _).mono ?_
  rintro e w1 ⟨bk, S, rfl, hb1, hC1, hS1⟩
  have hs1 := hb1.size
  rw [nblk_alloc] at hs1
  have hMr1 := row_below HMr.out hb1 (by simp)
  obtain ⟨d0, d1, d2, d3, d4, d5⟩ := mp6_cells hMr1
  have hl0 : layE (traceE N n X Y K ⟨a, b, c, d, x, y⟩) 0 = 0 := by rw [HE.out]; rfl
  have HAdd := hide (glyphAdd_any bk W H 0 85 _ st S ad N cc AA C n X Y K a b c d x y w1 (by simpa using hC1) hW hH (by omega) hN HN.out (HO.out.below hb1))
  rw [hl0] at HAdd
  have hB1 : Below w.heap.size w w1 := hB0.out.trans (hb1.mono (by simp))
  have HS1 := hide hS1
  have HB1 := hide hB1
  clear hb1 hC1 hS1 hMr1 hB1 HNew hl0
  go_wp2_with fail
  refine HAdd.out.mono ?_
  rintro e w2 ⟨rfl, hT2, _, h2⟩
  obtain ⟨S2, hC2, hS2⟩ := h2 (by trivial)
  have HC2 : Hid (Cnv w2 bk 85 W H 1 (fun i j => Num.areaV (traceL n X Y K ⟨a, b, c, d, x, y⟩) N i j) 781440000000 S2 st) := hC2.mono (fun i j _ _ => by omega) (by simp)
  have HB2 : Hid (Below w.heap.size w w2) := HB1.out.trans (hT2.below (by omega) (fun q hq => by have := HS1.out q hq; simp at this; omega))
  have HS2 : Hid (∀ q, S2 q → w.heap.size ≤ q) := fun q hq => by
    rcases hS2 q hq with h | h
    · have := HS1.out q h; simp at this; omega
    · omega
  clear hT2 h2 hC2 hS2 HAdd
  go_wp2
  go_ret2
  exact ⟨bk, S2, rfl, HB2.out, HC2.out, HS2.out⟩

set_option maxRecDepth 100000 in
set_option maxHeartbeats 2000000 in
theorem holds_any (bk W H tk i j : Nat) (tt : TypeId) (A : Nat → Nat → Int) (P st : Int) (S : Nat → Prop) (w : World) (hC : Cnv w bk tt W H tk A P S st) (hW : 1 ≤ W ∧ W ≤ 64) (hH : 1 ≤ H ∧ H ≤ 64) (hP : P ≤ 140737488355328) (hi : i < W) (hj : j < H)
    (hA : ∀ i j, i < W → j < H → -9000000000000000000 ≤ A i j ∧ A i j ≤ 9000000000000000000) :
    Calls Try.prog 14 #[.pointer (some ⟨bk, 0, none⟩), .int .i64 i, .int .i64 j, .int .i64 (A i j)] w fun e w' => e = .returned (.bool true) ∧ Below w.heap.size w w' := by
  have h1 : areaN W H A i j = A i j := by unfold areaN; rw [if_pos (by omega)]; simp
  have h2 : areaE W H i j = 0 := by unfold areaE; rw [if_pos (by omega)]
  have HAr := hide (glyphArea_any bk W H tk tt A P st i j S w hC hW hH hP)
  rw [h1, h2] at HAr
  have HGr := hide (fun w' (hb : Below w.heap.size w w') => glyphGray_any bk W H tk i j 1 1 tt A P st S w' (hC.below hb) hW hH hP (by omega) (by omega) hA)
  have hbd := hA i j hi hj
  have HPx : Hid (u8C (pixL A i j 1 (1 * 1)) = [.int .u8 (byteV (A i j))]) := by simp [Hid, pixL, u8C]
  obtain ⟨z, hz⟩ : ∃ z, z = A i j := ⟨_, rfl⟩
  rw [← hz] at HAr HPx hbd ⊢
  have HShade := hide (fun w' => shade_any z w' hbd.1 hbd.2)
  clear hC hA h1 h2 hz
  go_enter Try.func14, Try.ntmps14
  go_wp2_with fail
  refine HAr.out.mono ?_
  rintro e w1 ⟨rfl, hb1⟩
  have hs1 := hb1.size
  have HCall := hide (HGr.out w1 hb1)
  have HB1 := hide hb1
  clear hb1 HAr
  go_wp2_with fail
  refine HCall.out.mono ?_
  rintro e w2 ⟨v, rfl, hb2, hown⟩
  have hs2 := hb2.size
  have HB2 := hide (HB1.out.trans (hb2.mono (by omega)))
  rw [HPx.out] at hown
  obtain ⟨g, cap, rfl, hg1, hg2⟩ := hown.form (by omega)
  have c0 := hown.cellAt 0 (by omega)
  simp only [List.getElem?_cons_zero] at c0
  clear hb2 hown HCall
  go_wp2_with (go_at_call 30; refine (HShade.out _).mono ?_; rintro e w' ⟨rfl, rfl⟩)
  all_goals
    go_ret
    exact ⟨rfl, by have := HB2.out; (repeat (any_goals (first | exact Below.refl _ _ | assumption | refine Below.drew ?_ | refine below_drewN ?_ _ | refine Below.setCell ?_ ?_ _ | refine Below.alloc ?_ ?_ _ | omega | (simp; done) | (simp; omega))))⟩
end Go.Proofs.Ytkhcjkmifddlbab

/- TmV -/
namespace Go.Proofs.Ytkhcjkmifddlbab
open Go.RowKit Go.Deep

/-- A field: where points may lie. -/
structure Fd where
  l : Int
  w : Int
  u : Int
  h : Int
def Fd.X (f : Fd) (x : Int) : Int := f.l + pickV x f.w
def Fd.Y (f : Fd) (y : Int) : Int := f.u + pickV y f.h
/-- What one point becomes: p, and q the one behind it, both brought into the field; k its kind. -/
def tmB (px py qx qy k : Int) : List (Int × Int × Int) :=
  if k = 0 then [(px, py, 0)] else if k = 1 then [(px, py, 1)] else [(px, py, 0), (px, qy, 2), (qx, py, 2), (qx, qy, 0)]
/-- The first i points of a ring of n. -/
def tmU (f : Fd) (X Y K : Nat → Int) (n i : Nat) : List (Int × Int × Int) := (List.range i).flatMap fun i => tmB (f.X (X i)) (f.Y (Y i)) (f.X (X ((i + 1) % n))) (f.Y (Y ((i + 1) % n))) (pickV (K i) 3)
theorem tmU_succ (f : Fd) (X Y K : Nat → Int) (n i : Nat) : tmU f X Y K n (i + 1) = tmU f X Y K n i ++ tmB (f.X (X i)) (f.Y (Y i)) (f.X (X ((i + 1) % n))) (f.Y (Y ((i + 1) % n))) (pickV (K i) 3) := by
  unfold tmU; rw [List.range_succ, List.flatMap_append]; simp
theorem tmB_len (px py qx qy k : Int) : 1 ≤ (tmB px py qx qy k).length ∧ (tmB px py qx qy k).length ≤ 4 := by
  unfold tmB; repeat' split
  all_goals simp
theorem tmU_len (f : Fd) (X Y K : Nat → Int) (n i : Nat) : i ≤ (tmU f X Y K n i).length ∧ (tmU f X Y K n i).length ≤ 4 * i := by
  induction i with
  | zero => simp [tmU]
  | succ i ih =>
    rw [tmU_succ, List.length_append]
    have := tmB_len (f.X (X i)) (f.Y (Y i)) (f.X (X ((i + 1) % n))) (f.Y (Y ((i + 1) % n))) (pickV (K i) 3)
    omega
def tmN (n : Nat) : Nat := if n < 12 then n else 12
/-- The ring of a contour of n points. -/
def tmR (f : Fd) (X Y K : Nat → Int) (n : Nat) : List (Int × Int × Int) := tmU f X Y K (tmN n) (tmN n)
/-- The kind of point i of a list. -/
def kd (l : List (Int × Int × Int)) (i : Nat) : Int := (l[i]?.getD (0, 0, 0)).2.2
def ptX (l : List (Int × Int × Int)) (i : Nat) : Int := (l[i]?.getD (0, 0, 0)).1
def ptY (l : List (Int × Int × Int)) (i : Nat) : Int := (l[i]?.getD (0, 0, 0)).2.1
/-- Kinds that stand where they may. -/
def KOk (l : List (Int × Int × Int)) : Prop := ∀ i, i < l.length → (kd l i = 0 ∨ kd l i = 1 ∨ kd l i = 2) ∧ (kd l i = 2 → 1 ≤ i ∧ i + 1 < l.length ∧ ((kd l (i - 1) = 0 ∧ kd l (i + 1) = 2) ∨ (kd l (i - 1) = 2 ∧ kd l (i + 1) = 0)))
theorem kd_left {l r : List (Int × Int × Int)} {i : Nat} (h : i < l.length) : kd (l ++ r) i = kd l i := by unfold kd; rw [List.getElem?_append_left h]
theorem kd_right {l r : List (Int × Int × Int)} {i : Nat} (h : l.length ≤ i) : kd (l ++ r) i = kd r (i - l.length) := by unfold kd; rw [List.getElem?_append_right h]
theorem kok_append {l r : List (Int × Int × Int)} (hl : KOk l) (hr : KOk r) : KOk (l ++ r) := by
  intro i hi
  rw [List.length_append] at hi
  rcases Nat.lt_or_ge i l.length with h | h
  · have a := hl i h
    rw [kd_left h]
    refine ⟨a.1, fun e => ?_⟩
    obtain ⟨b1, b2, b3⟩ := a.2 e
    refine ⟨b1, by rw [List.length_append]; omega, ?_⟩
    rw [kd_left (by omega), kd_left b2]; exact b3
  · have a := hr (i - l.length) (by omega)
    rw [kd_right h]
    refine ⟨a.1, fun e => ?_⟩
    obtain ⟨b1, b2, b3⟩ := a.2 e
    refine ⟨by omega, by rw [List.length_append]; omega, ?_⟩
    rw [kd_right (by omega), kd_right (by omega), show i - 1 - l.length = i - l.length - 1 by omega, show i + 1 - l.length = i - l.length + 1 by omega]; exact b3
theorem kok_block (px py qx qy k : Int) : KOk (tmB px py qx qy k) := by
  unfold tmB
  split
  · intro i hi
    have : i = 0 := by simpa using hi
    subst this; simp [kd]
  · split
    · intro i hi
      have : i = 0 := by simpa using hi
      subst this; simp [kd]
    · intro i hi
      have hi : i < 4 := hi
      rcases (show i = 0 ∨ i = 1 ∨ i = 2 ∨ i = 3 by omega) with rfl | rfl | rfl | rfl <;> simp [kd]
theorem kok_U (f : Fd) (X Y K : Nat → Int) (n : Nat) : ∀ i, KOk (tmU f X Y K n i) := by
  intro i
  induction i with
  | zero => intro i hi; simp [tmU] at hi
  | succ i ih => rw [tmU_succ]; exact kok_append ih (kok_block _ _ _ _ _)
theorem kok_bad {l : List (Int × Int × Int)} (h : KOk l) : ∀ i, i < l.length → Num.badB (kd l) l.length i = false := by
  intro i hi
  obtain ⟨a, b⟩ := h i hi
  unfold Num.badB Num.mayB
  rcases a with e | e | e
  · simp [e]
  · simp [e]
  · obtain ⟨b1, b2, b3⟩ := b e
    have p : Num.prevK (kd l) l.length i = kd l (i - 1) := by unfold Num.prevK; rw [if_neg (by omega)]
    have n : Num.nextK (kd l) l.length i = kd l (i + 1) := by unfold Num.nextK; rw [if_pos b2]
    rw [p, n]
    rcases b3 with ⟨c1, c2⟩ | ⟨c1, c2⟩ <;> simp [e, c1, c2]
/-- All points of a list are from lo to hi. -/
def PtIn (a b c d : Int) (l : List (Int × Int × Int)) : Prop := ∀ p ∈ l, (a ≤ p.1 ∧ p.1 ≤ b) ∧ c ≤ p.2.1 ∧ p.2.1 ≤ d
theorem fd_in (f : Fd) (hw : 0 < f.w) (hh : 0 < f.h) (x y : Int) : (f.l ≤ f.X x ∧ f.X x ≤ f.l + f.w - 1) ∧ f.u ≤ f.Y y ∧ f.Y y ≤ f.u + f.h - 1 := by
  have a := pickV_rng x f.w hw
  have b := pickV_rng y f.h hh
  unfold Fd.X Fd.Y
  omega
theorem tmU_in (f : Fd) (hw : 0 < f.w) (hh : 0 < f.h) (X Y K : Nat → Int) (n i : Nat) : PtIn f.l (f.l + f.w - 1) f.u (f.u + f.h - 1) (tmU f X Y K n i) := by
  intro p hp
  unfold tmU at hp
  rw [List.mem_flatMap] at hp
  obtain ⟨q, _, hq⟩ := hp
  have a := fd_in f hw hh (X q) (Y q)
  have b := fd_in f hw hh (X ((q + 1) % n)) (Y ((q + 1) % n))
  unfold tmB at hq
  split at hq
  · simp at hq; subst hq; exact a
  · split at hq
    · simp at hq; subst hq; exact a
    · simp at hq
      rcases hq with rfl | rfl | rfl | rfl
      · exact a
      · exact ⟨a.1, b.2⟩
      · exact ⟨b.1, a.2⟩
      · exact b
theorem pt_in {a b c d : Int} {l : List (Int × Int × Int)} (h : PtIn a b c d l) {i : Nat} (hi : i < l.length) : (a ≤ ptX l i ∧ ptX l i ≤ b) ∧ c ≤ ptY l i ∧ ptY l i ≤ d := by
  have := h l[i] (List.getElem_mem hi)
  unfold ptX ptY
  simp [hi]
  omega
/-- A tame outline may not be refused. -/
theorem tame_ok {M : Nat} {L : Nat → List (Int × Int × Int)} {m : Num.Mp} {B : Int} (hM : M ≤ 4) (hL : ∀ j, j < M → 2 ≤ (L j).length ∧ (L j).length ≤ 48 ∧ KOk (L j) ∧ PtIn (-B) B (-B) B (L j)) (hB : 0 ≤ B ∧ B ≤ 4096) (hf : Num.fairB m.a m.b m.c m.d m.x m.y = true) (hm : MpOk (2 * B) m) :
    traceE M (fun j => (L j).length) (fun j => ptX (L j)) (fun j => ptY (L j)) (fun j => kd (L j)) m = 0 := by
  have hs : ∀ k, k ≤ M → Num.sumN (fun j => (L j).length) k ≤ 48 * k := by
    intro k
    induction k with
    | zero => intro _; simp [Num.sumN]
    | succ k ih => intro h; have := ih (by omega); have := (hL k (by omega)).2.1; simp only [Num.sumN]; omega
  exact trace_ok (B := B) (by omega) (by have := hs M (Nat.le_refl _); omega) (fun j hj => ⟨(hL j hj).1, kok_bad (hL j hj).2.2.1⟩) (fun j hj i hi => pt_in (hL j hj).2.2.2 hi) hB hf hm
/-- A tame map. -/
theorem tame_map {a b c d x y : Int} (ha : -2047 ≤ a ∧ a ≤ 2047) (hb : -2047 ≤ b ∧ b ≤ 2047) (hc : -2047 ≤ c ∧ c ≤ 2047) (hd : -2047 ≤ d ∧ d ≤ 2047) (hx : -8192 ≤ x ∧ x ≤ 8192) (hy : -8192 ≤ y ∧ y ≤ 8192) : Num.fairB a b c d x y = true ∧ MpOk (2 * 2047) ⟨a, b, c, d, x, y⟩ := by
  have hf : Num.fairB a b c d x y = true := by
    have h1 : ∀ z m : Int, -m ≤ z → z ≤ m → Num.wi z m = true := fun z m h1 h2 => by simp [Num.wi]; omega
    unfold Num.fairB
    rw [h1 a _ (by omega) (by omega), h1 b _ (by omega) (by omega), h1 c _ (by omega) (by omega), h1 d _ (by omega) (by omega), h1 x _ (by omega) (by omega), h1 y _ (by omega) (by omega)]
    rfl
  refine ⟨hf, fun s t hs ht => ?_⟩
  have p1 := Num.mul_bd a s 2047 4094 (by omega) (by omega)
  have p2 := Num.mul_bd b t 2047 4094 (by omega) (by omega)
  have p3 := Num.mul_bd c s 2047 4094 (by omega) (by omega)
  have p4 := Num.mul_bd d t 2047 4094 (by omega) (by omega)
  exact place_ok (L := 8185) (D := 8192) (by omega) (by omega) hf (by simp only; omega) (by simp only; omega) (by simp only; omega) (by simp only; omega) (by omega)
end Go.Proofs.Ytkhcjkmifddlbab

/- Tm -/
namespace Go.Proofs.Ytkhcjkmifddlbab
open Go.RowKit Go.Deep

def openF : Fd := ⟨-2047, 4095, -2047, 4095⟩
set_option maxHeartbeats 400000 in
theorem kopen_any (w : World) : Calls Try.prog 7 #[] w fun e w' => e = .returned (.agg #[.int .i64 (-2047), .int .i64 4095, .int .i64 (-2047), .int .i64 4095]) ∧ Below w.heap.size w w' := by
  go_enter Try.func7, Try.ntmps7
  go_wp2
  refine bodyPost_ret (v := .agg #[.int .i64 (-2047), .int .i64 4095, .int .i64 (-2047), .int .i64 4095]) (by simp [results, Try.results7, go_sem]) rfl ⟨rfl, ?_⟩
  (repeat (any_goals (first | exact Below.refl _ _ | assumption | refine Below.drew ?_ | refine below_drewN ?_ _ | refine Below.setCell ?_ ?_ _ | refine Below.alloc ?_ ?_ _ | omega | (simp; done) | (simp; omega))))
/-- A field as it may be. -/
def Fd.Ok (f : Fd) : Prop := (-2047 ≤ f.l ∧ f.l ≤ 0) ∧ (1 ≤ f.w ∧ f.w ≤ 4097) ∧ (-2047 ≤ f.u ∧ f.u ≤ 0) ∧ 1 ≤ f.h ∧ f.h ≤ 4097
set_option maxHeartbeats 1000000 in
theorem kspot_any (fl fw fu fh x y k : Int) (w : World) (hf : (⟨fl, fw, fu, fh⟩ : Fd).Ok) (hx : -9223372036854775808 ≤ x ∧ x ≤ 9223372036854775807) (hy : -9223372036854775808 ≤ y ∧ y ≤ 9223372036854775807) :
    Calls Try.prog 48 #[.agg #[.int .i64 fl, .int .i64 fw, .int .i64 fu, .int .i64 fh], .agg #[.int .i64 x, .int .i64 y, .int .i64 k]] w fun e w' => e = .returned (.agg #[.int .i64 ((⟨fl, fw, fu, fh⟩ : Fd).X x), .int .i64 ((⟨fl, fw, fu, fh⟩ : Fd).Y y)]) ∧ Below w.heap.size w w' := by
  unfold Fd.Ok at hf
  simp only at hf
  have r1 := pickV_rng x fw (by omega)
  have r2 := pickV_rng y fh (by omega)
  unfold Fd.X Fd.Y
  simp only
  go_enter Try.func48, Try.ntmps48
  go_wp2_with (go_at_call 11; refine (pick_any _ _ _ (by omega) (by omega) (by omega)).mono ?_; rintro e w' ⟨rfl, rfl⟩)
  refine bodyPost_ret (v := .agg #[.int .i64 (fl + pickV x fw), .int .i64 (fu + pickV y fh)]) (by simp [results, Try.results48, go_sem]) rfl ⟨rfl, ?_⟩
  (repeat (any_goals (first | exact Below.refl _ _ | assumption | refine Below.drew ?_ | refine below_drewN ?_ _ | refine Below.setCell ?_ ?_ _ | refine Below.alloc ?_ ?_ _ | omega | (simp; done) | (simp; omega))))
set_option maxHeartbeats 1000000 in
theorem ktameMap_any (a b c d x y : Int) (w : World) :
    Calls Try.prog 9 #[.agg #[.int .i64 a, .int .i64 b, .int .i64 c, .int .i64 d, .int .i64 x, .int .i64 y]] w fun e w' => e = .returned (.agg #[.int .i64 (nearV a 2047), .int .i64 (nearV b 2047), .int .i64 (nearV c 2047), .int .i64 (nearV d 2047), .int .i64 (nearV x 4095), .int .i64 (nearV y 4095)]) ∧ Below w.heap.size w w' := by
  go_enter Try.func9, Try.ntmps9
  go_wp2_with (go_at_call 26; refine (knear_any _ _ _ (by omega)).mono ?_; rintro e w' ⟨rfl, rfl⟩)
  refine bodyPost_ret (v := .agg #[.int .i64 (nearV a 2047), .int .i64 (nearV b 2047), .int .i64 (nearV c 2047), .int .i64 (nearV d 2047), .int .i64 (nearV x 4095), .int .i64 (nearV y 4095)]) (by simp [results, Try.results9, go_sem]) rfl ⟨rfl, ?_⟩
  (repeat (any_goals (first | exact Below.refl _ _ | assumption | refine Below.drew ?_ | refine below_drewN ?_ _ | refine Below.setCell ?_ ?_ _ | refine Below.alloc ?_ ?_ _ | omega | (simp; done) | (simp; omega))))
end Go.Proofs.Ytkhcjkmifddlbab

/- TmR -/
namespace Go.Proofs.Ytkhcjkmifddlbab
open Go.RowKit Go.Deep

/-- The cells that a round reads. -/
def SF (w : World) (fb : Nat) (f : Fd) (b o : Nat) (x y k : Int) : Prop :=
  w.cell? ⟨fb, 0, none⟩ = some (.int .i64 f.l) ∧ w.cell? ⟨fb, 1, none⟩ = some (.int .i64 f.w) ∧ w.cell? ⟨fb, 2, none⟩ = some (.int .i64 f.u) ∧ w.cell? ⟨fb, 3, none⟩ = some (.int .i64 f.h) ∧
  w.cell? ⟨b, o, none⟩ = some (.int .i64 x) ∧ w.cell? ⟨b, o + 1, none⟩ = some (.int .i64 y) ∧ w.cell? ⟨b, o + 2, none⟩ = some (.int .i64 k)
theorem SF.below {w w' : World} {B fb b o : Nat} {f : Fd} {x y k : Int} (h : SF w fb f b o x y k) (hb : Below B w w') (h1 : fb < B) (h2 : b < B) : SF w' fb f b o x y k :=
  ⟨(hb.cell (p := ⟨fb, _, none⟩) h1).trans h.1, (hb.cell (p := ⟨fb, _, none⟩) h1).trans h.2.1, (hb.cell (p := ⟨fb, _, none⟩) h1).trans h.2.2.1, (hb.cell (p := ⟨fb, _, none⟩) h1).trans h.2.2.2.1, (hb.cell (p := ⟨b, _, none⟩) h2).trans h.2.2.2.2.1, (hb.cell (p := ⟨b, _, none⟩) h2).trans h.2.2.2.2.2.1, (hb.cell (p := ⟨b, _, none⟩) h2).trans h.2.2.2.2.2.2⟩

set_option maxHeartbeats 1000000 in
theorem kspot_ex (fl fw fu fh x y k : Int) (w : World) (hf : (⟨fl, fw, fu, fh⟩ : Fd).Ok) (hx : -9223372036854775808 ≤ x ∧ x ≤ 9223372036854775807) (hy : -9223372036854775808 ≤ y ∧ y ≤ 9223372036854775807) :
    Calls Try.prog 48 #[.agg #[.int .i64 fl, .int .i64 fw, .int .i64 fu, .int .i64 fh], .agg #[.int .i64 x, .int .i64 y, .int .i64 k]] w fun e w' => e = .returned (.agg #[.int .i64 ((⟨fl, fw, fu, fh⟩ : Fd).X x), .int .i64 ((⟨fl, fw, fu, fh⟩ : Fd).Y y)]) ∧ w' = ((w.alloc (.cells #[.int .i64 fl, .int .i64 fw, .int .i64 fu, .int .i64 fh] 26)).alloc (.cells #[.int .i64 x, .int .i64 y, .int .i64 k] 90)).alloc (.cells #[.int .i64 ((⟨fl, fw, fu, fh⟩ : Fd).X x), .int .i64 ((⟨fl, fw, fu, fh⟩ : Fd).Y y)] 53) := by
  unfold Fd.Ok at hf
  simp only at hf
  have r1 := pickV_rng x fw (by omega)
  have r2 := pickV_rng y fh (by omega)
  unfold Fd.X Fd.Y
  simp only
  go_enter Try.func48, Try.ntmps48
  go_wp2_with (go_at_call 11; refine (pick_any _ _ _ (by omega) (by omega) (by omega)).mono ?_; rintro e w' ⟨rfl, rfl⟩)
  refine bodyPost_ret (v := .agg #[.int .i64 (fl + pickV x fw), .int .i64 (fu + pickV y fh)]) (by simp [results, Try.results48, go_sem]) rfl ⟨rfl, ?_⟩
  rfl

def spt2 (x y : Int) (q : Nat) : Value := [Value.int .i64 x, .int .i64 y][q]?.getD undef
/-- A spot lies in a block of its own. -/
structure SpAt (w W : World) (sb : Nat) (x y : Int) : Prop where
  below : Below w.heap.size w W
  row : W.rowIs sb 53 2 (spt2 x y)
  new : w.heap.size ≤ sb
theorem spt2_c {w : World} {sb : Nat} {x y : Int} (h : w.rowIs sb 53 2 (spt2 x y)) : w.cell? ⟨sb, 0, none⟩ = some (.int .i64 x) ∧ w.cell? ⟨sb, 1, none⟩ = some (.int .i64 y) := ⟨h.cell (i := 0) (by omega), h.cell (i := 1) (by omega)⟩
theorem sp_row (w : World) (x y : Int) : (w.alloc (.cells #[.int .i64 x, .int .i64 y] 53)).rowIs w.heap.size 53 2 (spt2 x y) := by
  refine World.rowIs_alloc w #[.int .i64 x, .int .i64 y] 53 _ (fun i hi => ?_)
  have hi : i < 2 := hi
  rcases (show i = 0 ∨ i = 1 by omega) with rfl | rfl <;> rfl
theorem spAt_mk {w W0 W : World} {sb : Nat} {x y : Int} (h0 : Below w.heap.size w W0) (hsb : sb = W0.heap.size) (h : Below (sb + 1) (W0.alloc (.cells #[.int .i64 x, .int .i64 y] 53)) W) : SpAt w W sb x y := by
  have hz := h0.size
  subst hsb
  exact ⟨(h0.alloc hz _).trans (h.mono (by omega)), row_below (sp_row W0 x y) h (by omega), hz⟩
theorem sp_late {w : World} {o1 o2 o3 : Obj} {x y : Int} : SpAt w ((((w.alloc o1).alloc o2).alloc o3).alloc (.cells #[.int .i64 x, .int .i64 y] 53)).drew (w.heap.size + 1 + 1 + 1) x y :=
  spAt_mk (W0 := ((w.alloc o1).alloc o2).alloc o3) (by (repeat (any_goals (first | exact Below.refl _ _ | assumption | refine Below.drew ?_ | refine below_drewN ?_ _ | refine Below.setCell ?_ ?_ _ | refine Below.alloc ?_ ?_ _ | omega | (simp; done) | (simp; omega))))) (by simp) (by (repeat (any_goals (first | exact Below.refl _ _ | assumption | refine Below.drew ?_ | refine below_drewN ?_ _ | refine Below.setCell ?_ ?_ _ | refine Below.alloc ?_ ?_ _ | omega | (simp; done) | (simp; omega)))))
theorem sp_early {w : World} {o1 o2 o3 : Obj} {x y : Int} : SpAt w ((((w.alloc (.cells #[.int .i64 x, .int .i64 y] 53)).alloc o1).alloc o2).alloc o3).drew w.heap.size x y :=
  spAt_mk (W0 := w) (by (repeat (any_goals (first | exact Below.refl _ _ | assumption | refine Below.drew ?_ | refine below_drewN ?_ _ | refine Below.setCell ?_ ?_ _ | refine Below.alloc ?_ ?_ _ | omega | (simp; done) | (simp; omega))))) (by simp) (by (repeat (any_goals (first | exact Below.refl _ _ | assumption | refine Below.drew ?_ | refine below_drewN ?_ _ | refine Below.setCell ?_ ?_ _ | refine Below.alloc ?_ ?_ _ | omega | (simp; done) | (simp; omega)))))

set_option maxRecDepth 100000 in
set_option maxHeartbeats 4000000 in
theorem kring_any (fl fw fu fh : Int) (a : Option Addr) (n c : Nat) (X Y K : Nat → Int) (w : World) (hf : (⟨fl, fw, fu, fh⟩ : Fd).Ok) (hr : RingAt w a n X Y K)
    (hX : ∀ i, -9223372036854775808 ≤ X i ∧ X i ≤ 9223372036854775807) (hY : ∀ i, -9223372036854775808 ≤ Y i ∧ Y i ≤ 9223372036854775807) (hK : ∀ i, -9223372036854775808 ≤ K i ∧ K i ≤ 9223372036854775807) :
    Calls Try.prog 25 #[.agg #[.int .i64 fl, .int .i64 fw, .int .i64 fu, .int .i64 fh], .slice a n c] w fun e w' => ∃ v, e = .returned v ∧ Below w.heap.size w w' ∧ w'.ownsRow w.heap.size 90 3 v (tmR ⟨fl, fw, fu, fh⟩ X Y K n).length ((tmR ⟨fl, fw, fu, fh⟩ X Y K n).flatMap ptC) := by
  obtain ⟨i0, hi0, hz0, hz1, hz2⟩ := info_parts info_pt
  have hm : Num.lsV (n : Int) 12 = ((tmN n : Nat) : Int) := by unfold Num.lsV tmN; split <;> split <;> omega
  have hm12 : tmN n ≤ 12 ∧ tmN n ≤ n := by unfold tmN; split <;> omega
  obtain ⟨m, hmm⟩ : ∃ m, m = tmN n := ⟨_, rfl⟩
  have HR : Hid (tmR ⟨fl, fw, fu, fh⟩ X Y K n = tmU ⟨fl, fw, fu, fh⟩ X Y K m m) := by unfold Hid tmR; rw [hmm]
  obtain ⟨R, hR⟩ : ∃ R, R = tmR ⟨fl, fw, fu, fh⟩ X Y K n := ⟨_, rfl⟩
  rw [← hR] at HR ⊢
  rw [← hmm] at hm hm12
  have HM := hide hm
  have HRg := hide hr
  have HX := hide hX
  have HY := hide hY
  have HK := hide hK
  have HF := hide hf
  have HSp := hide (fun x y k w' h1 h2 => kspot_ex fl fw fu fh x y k w' hf h1 h2)
  have HFb := hide (sh4_row fl fw fu fh w 26)
  clear hr hX hY hK hmm hR hm hf
  go_enter Try.func25, Try.ntmps25
  go_wp2_with (go_at_call 47; refine (kleast_any _ _ _).mono ?_; rw [HM.out]; rintro e w' ⟨rfl, hw'⟩; rw [hw']; clear hw')
  obtain ⟨fb, hfb⟩ : ∃ fb, fb = w.heap.size := ⟨_, rfl⟩
  obtain ⟨W1, hW1⟩ : ∃ W1, W1 = w.alloc (.cells #[.int .i64 fl, .int .i64 fw, .int .i64 fu, .int .i64 fh] 26) := ⟨_, rfl⟩
  have hs1 : W1.heap.size = fb + 1 := by rw [hW1, hfb]; simp
  have HB1 : Hid (Below w.heap.size w W1) := by unfold Hid; rw [hW1]; exact (Below.refl _ _).alloc (Nat.le_refl _) _
  rw [← hW1, ← hfb] at HFb
  try rw [← hW1, ← hfb]
  have HFw : Hid (fb = w.heap.size) := hfb
  clear hW1 hfb
  go_loopw [5, 7] (fun v t wr => ∃ i : Nat, i ≤ m ∧ t = .int .i64 i ∧ Below (fb + 1) W1 wr ∧ wr.ownsRow (fb + 1) 90 3 v (tmU ⟨fl, fw, fu, fh⟩ X Y K m i).length ((tmU ⟨fl, fw, fu, fh⟩ X Y K m i).flatMap ptC)) (fun _ t _ => m - (intOf t).toNat)
  case atStart => exact ⟨0, by omega, rfl, Below.refl _ _, World.ownsRow_nil _ _ _ _⟩
  case round =>
    obtain ⟨v, rfl⟩ : ∃ v, v = u5 := ⟨_, rfl⟩
    obtain ⟨i, hi, rfl, hb, hown⟩ := hrel
    have hsz := hb.size
    by_cases hlt : i < m
    · have hd1 : decide ((i : Int) < (m : Int)) = true := by simp; omega
      rcases HRg.out with h | ⟨b, off, rfl, hc⟩
      · omega
      have hbl : b < w.heap.size := World.block_lt_of_cell? w _ (hc 0 (by omega)).1
      have hbl : b < fb := by rw [HFw.out]; exact hbl
      have hnx : (i + 1) % m < n := by have := Nat.mod_lt (i + 1) (show 0 < m by omega); omega
      have hcw : ∀ j, j < n → SF wr fb ⟨fl, fw, fu, fh⟩ b (off + j * 3) (X j) (Y j) (K j) := fun j hj => by
        obtain ⟨c0, c1, c2⟩ := hc j hj
        have e : ∀ q, w.cell? ⟨b, q, none⟩ = wr.cell? ⟨b, q, none⟩ := fun q => ((hb.cell (p := ⟨b, q, none⟩) (by show b < fb + 1; omega)).trans (HB1.out.cell (p := ⟨b, q, none⟩) (by rw [← HFw.out]; exact hbl))).symm
        have hF := row_below HFb.out hb (by omega)
        exact ⟨hF.cell (i := 0) (by omega), hF.cell (i := 1) (by omega), hF.cell (i := 2) (by omega), hF.cell (i := 3) (by omega), (e _).symm.trans c0, (e _).symm.trans c1, (e _).symm.trans c2⟩
      have hS0 := hcw i (by omega)
      have hS1 := hcw ((i + 1) % m) hnx
      obtain ⟨t0, t1, t2, t3, t4, t5, t6⟩ := hS0
      have HS0 := hide (hcw i (by omega))
      have HS1 := hide hS1
      have HCi := hide (fun w' => HSp.out (X i) (Y i) (K i) w' (HX.out i) (HY.out i))
      have i0' : (0 : Int) ≤ (i : Int) := by omega
      have i1' : (i : Int) < (n : Int) := by omega
      have hbw : b < wr.heap.size := by omega
      have hfw : fb < wr.heap.size := by omega
      have HOw := hide hown
      have HBw := hide hb
      have HKi := hide t6
      have hsz' : fb + 1 ≤ wr.heap.size := by omega
      clear hcw hS1 hc hown hb
      go_wp2_with fail
      go_region_held3 (fun w' => w'.cell? ⟨fb, 0, none⟩ = some (.int .i64 fl) ∧ w'.cell? ⟨fb, 1, none⟩ = some (.int .i64 fw) ∧ w'.cell? ⟨fb, 2, none⟩ = some (.int .i64 fu) ∧ w'.cell? ⟨fb, 3, none⟩ = some (.int .i64 fh) ∧ w'.cell? ⟨b, off + i * 3, none⟩ = some (.int .i64 (X i)) ∧ w'.cell? ⟨b, off + i * 3 + 1, none⟩ = some (.int .i64 (Y i)) ∧ w'.cell? ⟨b, off + i * 3 + 2, none⟩ = some (.int .i64 (K i))) (first | exact HS0.out | exact HS0.out.below (B := wr.heap.size) (by (repeat (any_goals (first | exact Below.refl _ _ | assumption | refine Below.drew ?_ | refine below_drewN ?_ _ | refine Below.setCell ?_ ?_ _ | refine Below.alloc ?_ ?_ _ | omega | (simp; done) | (simp; omega))))) hfw hbw) ((go_at_call 48; refine (HCi.out _).mono ?_; rintro e w' ⟨rfl, rfl⟩))
      all_goals
        first
        | (obtain ⟨W2, hW2⟩ : ∃ W2, W2 = ((((wr.alloc (.cells #[.int .i64 fl, .int .i64 fw, .int .i64 fu, .int .i64 fh] 26)).alloc (.cells #[.int .i64 (X i), .int .i64 (Y i), .int .i64 (K i)] 90)).alloc (.cells #[.int .i64 ((⟨fl, fw, fu, fh⟩ : Fd).X (X i)), .int .i64 ((⟨fl, fw, fu, fh⟩ : Fd).Y (Y i))] 53)).alloc (.cells #[.int .i64 ((⟨fl, fw, fu, fh⟩ : Fd).X (X i)), .int .i64 ((⟨fl, fw, fu, fh⟩ : Fd).Y (Y i))] 53)).drew := ⟨_, rfl⟩
           rw [← hW2]
           obtain ⟨sb, hsb⟩ : ∃ sb, sb = wr.heap.size + 1 + 1 + 1 := ⟨_, rfl⟩
           rw [← hsb]
           have HP : Hid (SpAt wr W2 sb ((⟨fl, fw, fu, fh⟩ : Fd).X (X i)) ((⟨fl, fw, fu, fh⟩ : Fd).Y (Y i))) := by unfold Hid; rw [hW2, hsb]; exact sp_late
           clear hW2 hsb)
        | (obtain ⟨W2, hW2⟩ : ∃ W2, W2 = ((((wr.alloc (.cells #[.int .i64 ((⟨fl, fw, fu, fh⟩ : Fd).X (X i)), .int .i64 ((⟨fl, fw, fu, fh⟩ : Fd).Y (Y i))] 53)).alloc (.cells #[.int .i64 fl, .int .i64 fw, .int .i64 fu, .int .i64 fh] 26)).alloc (.cells #[.int .i64 (X i), .int .i64 (Y i), .int .i64 (K i)] 90)).alloc (.cells #[.int .i64 ((⟨fl, fw, fu, fh⟩ : Fd).X (X i)), .int .i64 ((⟨fl, fw, fu, fh⟩ : Fd).Y (Y i))] 53)).drew := ⟨_, rfl⟩
           rw [← hW2]
           obtain ⟨sb, hsb⟩ : ∃ sb, sb = wr.heap.size := ⟨_, rfl⟩
           rw [← hsb]
           have HP : Hid (SpAt wr W2 sb ((⟨fl, fw, fu, fh⟩ : Fd).X (X i)) ((⟨fl, fw, fu, fh⟩ : Fd).Y (Y i))) := by unfold Hid; rw [hW2, hsb]; exact sp_early
           clear hW2 hsb)
      all_goals
        have hzP := HP.out.below.size
        obtain ⟨t0, t1, t2, t3, t4, t5, t6⟩ := HS1.out.below HP.out.below hfw hbw
        have HCj := hide (fun w' => HSp.out (X ((i + 1) % m)) (Y ((i + 1) % m)) (K ((i + 1) % m)) w' (HX.out _) (HY.out _))
        have hmod : ((i : Int) + 1).tmod (m : Int) = (((i + 1) % m : Nat) : Int) := by rw [Int.tmod_eq_emod_of_nonneg (by omega)]; push_cast; rfl
        have hjm : (i + 1) % m < m := Nat.mod_lt (i + 1) (by omega)
        obtain ⟨j, hj⟩ : ∃ j, j = (i + 1) % m := ⟨_, rfl⟩
        rw [← hj] at hjm hnx t4 t5 t6 HCj hmod
        clear HS0
        have hjz0 : (0 : Int) ≤ (j : Int) := by omega
        have hjz1 : (j : Int) < (n : Int) := by omega
        have hm0 : ¬ (m : Int) = 0 := by omega
        have hm1 : ¬ m = 0 := by omega
        have hm2 : ((m : Int) == 0) = false := by simp; omega
        have hw1 : IntKind.i64.wrap ((i : Int) + 1) = (i : Int) + 1 := wrap_ok _ (by omega) (by omega)
        have hw2 : IntKind.i64.wrap (j : Int) = (j : Int) := wrap_ok _ (by omega) (by omega)
        have HSj := hide (HS1.out.below HP.out.below hfw hbw)
        rw [← hj] at HSj
        have HJ := hide hj
        clear hj
        go_wp2_with fail
        go_region_held3 (fun w' => w'.cell? ⟨fb, 0, none⟩ = some (.int .i64 fl) ∧ w'.cell? ⟨fb, 1, none⟩ = some (.int .i64 fw) ∧ w'.cell? ⟨fb, 2, none⟩ = some (.int .i64 fu) ∧ w'.cell? ⟨fb, 3, none⟩ = some (.int .i64 fh) ∧ w'.cell? ⟨b, off + j * 3, none⟩ = some (.int .i64 (X j)) ∧ w'.cell? ⟨b, off + j * 3 + 1, none⟩ = some (.int .i64 (Y j)) ∧ w'.cell? ⟨b, off + j * 3 + 2, none⟩ = some (.int .i64 (K j))) (first | exact HSj.out | exact HSj.out.below (B := W2.heap.size) (by (repeat (any_goals (first | exact Below.refl _ _ | assumption | refine Below.drew ?_ | refine below_drewN ?_ _ | refine Below.setCell ?_ ?_ _ | refine Below.alloc ?_ ?_ _ | omega | (simp; done) | (simp; omega))))) (by omega) (by omega)) ((go_at_call 48; refine (HCj.out _).mono ?_; rintro e w' ⟨rfl, rfl⟩))
      all_goals
        first
        | (obtain ⟨W3, hW3⟩ : ∃ W3, W3 = ((((W2.alloc (.cells #[.int .i64 fl, .int .i64 fw, .int .i64 fu, .int .i64 fh] 26)).alloc (.cells #[.int .i64 (X j), .int .i64 (Y j), .int .i64 (K j)] 90)).alloc (.cells #[.int .i64 ((⟨fl, fw, fu, fh⟩ : Fd).X (X j)), .int .i64 ((⟨fl, fw, fu, fh⟩ : Fd).Y (Y j))] 53)).alloc (.cells #[.int .i64 ((⟨fl, fw, fu, fh⟩ : Fd).X (X j)), .int .i64 ((⟨fl, fw, fu, fh⟩ : Fd).Y (Y j))] 53)).drew := ⟨_, rfl⟩
           rw [← hW3]
           obtain ⟨qb, hqb⟩ : ∃ qb, qb = W2.heap.size + 1 + 1 + 1 := ⟨_, rfl⟩
           rw [← hqb]
           have HQ : Hid (SpAt W2 W3 qb ((⟨fl, fw, fu, fh⟩ : Fd).X (X j)) ((⟨fl, fw, fu, fh⟩ : Fd).Y (Y j))) := by unfold Hid; rw [hW3, hqb]; exact sp_late
           clear hW3 hqb)
        | (obtain ⟨W3, hW3⟩ : ∃ W3, W3 = ((((W2.alloc (.cells #[.int .i64 ((⟨fl, fw, fu, fh⟩ : Fd).X (X j)), .int .i64 ((⟨fl, fw, fu, fh⟩ : Fd).Y (Y j))] 53)).alloc (.cells #[.int .i64 fl, .int .i64 fw, .int .i64 fu, .int .i64 fh] 26)).alloc (.cells #[.int .i64 (X j), .int .i64 (Y j), .int .i64 (K j)] 90)).alloc (.cells #[.int .i64 ((⟨fl, fw, fu, fh⟩ : Fd).X (X j)), .int .i64 ((⟨fl, fw, fu, fh⟩ : Fd).Y (Y j))] 53)).drew := ⟨_, rfl⟩
           rw [← hW3]
           obtain ⟨qb, hqb⟩ : ∃ qb, qb = W2.heap.size := ⟨_, rfl⟩
           rw [← hqb]
           have HQ : Hid (SpAt W2 W3 qb ((⟨fl, fw, fu, fh⟩ : Fd).X (X j)) ((⟨fl, fw, fu, fh⟩ : Fd).Y (Y j))) := by unfold Hid; rw [hW3, hqb]; exact sp_early
           clear hW3 hqb)
      all_goals
        have hz3 := HQ.out.below.size
        have hb3 : Below wr.heap.size wr W3 := HP.out.below.trans (HQ.out.below.mono hzP)
        have k0 : W3.cell? ⟨b, off + i * 3 + 2, none⟩ = some (.int .i64 (K i)) := (hb3.cell (p := ⟨b, _, none⟩) hbw).trans HKi.out
        have hPr := row_below HP.out.row HQ.out.below HP.out.row.lt
        have hQr := HQ.out.row
        have hown3 := owns_of_block HOw.out (fun g hg => hb3.block g (HOw.out.lt g hg).2)
        have hB3 : Below (fb + 1) W1 W3 := HBw.out.trans (hb3.mono hsz')
        have hst := tmU_succ ⟨fl, fw, fu, fh⟩ X Y K m i
        have hlen := tmU_len ⟨fl, fw, fu, fh⟩ X Y K m i
        rw [← HJ.out] at hst
        obtain ⟨px, hpx⟩ : ∃ px, px = (⟨fl, fw, fu, fh⟩ : Fd).X (X i) := ⟨_, rfl⟩
        obtain ⟨py, hpy⟩ : ∃ py, py = (⟨fl, fw, fu, fh⟩ : Fd).Y (Y i) := ⟨_, rfl⟩
        obtain ⟨qx, hqx⟩ : ∃ qx, qx = (⟨fl, fw, fu, fh⟩ : Fd).X (X j) := ⟨_, rfl⟩
        obtain ⟨qy, hqy⟩ : ∃ qy, qy = (⟨fl, fw, fu, fh⟩ : Fd).Y (Y j) := ⟨_, rfl⟩
        obtain ⟨kk, hkk⟩ : ∃ kk, kk = pickV (K i) 3 := ⟨_, rfl⟩
        have hkr := pickV_rng (K i) 3 (by omega)
        have HPk := hide (fun w' => pick_any (K i) 3 w' (HK.out i).1 (HK.out i).2 (by omega))
        rw [← hpx, ← hpy, ← hqx, ← hqy, ← hkk] at hst
        rw [← hpx, ← hpy] at hPr
        rw [← hqx, ← hqy] at hQr
        obtain ⟨p0, p1⟩ := spt2_c hPr
        obtain ⟨q0, q1⟩ := spt2_c hQr
        have HPr := hide hPr
        have HQr := hide hQr
        rw [← hkk] at hkr HPk
        try rw [← hpx, ← hpy, ← hqx, ← hqy]
        obtain ⟨xs, hxs⟩ : ∃ xs, xs = (tmU ⟨fl, fw, fu, fh⟩ X Y K m i).flatMap ptC := ⟨_, rfl⟩
        obtain ⟨ln, hln⟩ : ∃ ln, ln = (tmU ⟨fl, fw, fu, fh⟩ X Y K m i).length := ⟨_, rfl⟩
        rw [← hxs, ← hln] at hown3
        rw [← hln] at hlen
        have HXs := hide hxs
        have HLn := hide hln
        have HSt := hide hst
        have HB3 := hide hB3
        clear hPr hQr hpx hpy hqx hqy hkk hxs hln hst hB3 hb3 t0 t1 t2 t3 t4 t5 t6 HSj HS1 HP HQ HCi HCj
        rcases (show kk = 0 ∨ kk = 1 ∨ kk = 2 by omega) with hk | hk | hk
        · rw [hk] at HSt HPk
          clear hk hkr
          go_wp2_with fail
          refine (HPk.out _).mono ?_
          rintro e w' ⟨rfl, hw'⟩
          rw [hw']
          clear hw'
          go_wp2_with (at_builtin; refine wpList_append_lies _ rfl _ _ 41 rfl (fb + 1) 90 i0 (.agg #[.int .i64 0, .int .i64 0, .int .i64 0]) 3 24 Try.underlying41 hi0 hz0 hz1 hz2 rfl (by omega) v ln xs rfl (hown3.alloc _) ⟨W3.heap.size, 0, none⟩ 1 1 [.int .i64 px, .int .i64 py, .int .i64 0] rfl rfl (news_new W3 [.int .i64 px, .int .i64 py, .int .i64 0] _ _ rfl) (one_ints _ _ _) (by omega) (by unfold maxLen; omega) (by omega) (by first | omega | (simp; omega)) (W3.heap.size + 1) (by simp) ?_)
          intro g cap w4 hown4 hgrow hat hlt4
          have HB4 := hide ((HB3.out.alloc (by omega) _).grown hgrow (by simp; omega) (fun q hq => (hown3.lt q hq).1))
          have HO4 : Hid (w4.ownsRow (fb + 1) 90 3 (.slice (some ⟨g, 0, none⟩) (ln + 1) cap) (tmU ⟨fl, fw, fu, fh⟩ X Y K m (i + 1)).length ((tmU ⟨fl, fw, fu, fh⟩ X Y K m (i + 1)).flatMap ptC)) := by
            unfold Hid
            rw [HSt.out]
            exact push_pt (by rw [← HXs.out]; exact hown4) rfl (by rw [HLn.out])
          clear hown4 hgrow hat hlt4 hown3
          go_wp2
          go_roundw
          case rel => exact ⟨i + 1, by omega, by go_num, HB4.out, HO4.out⟩
          case measure => simp [intOf]; omega
        · rw [hk] at HSt HPk
          clear hk hkr
          go_wp2_with fail
          refine (HPk.out _).mono ?_
          rintro e w' ⟨rfl, hw'⟩
          rw [hw']
          clear hw'
          go_wp2_with (at_builtin; refine wpList_append_lies _ rfl _ _ 41 rfl (fb + 1) 90 i0 (.agg #[.int .i64 0, .int .i64 0, .int .i64 0]) 3 24 Try.underlying41 hi0 hz0 hz1 hz2 rfl (by omega) v ln xs rfl (hown3.alloc _) ⟨W3.heap.size, 0, none⟩ 1 1 [.int .i64 px, .int .i64 py, .int .i64 1] rfl rfl (news_new W3 [.int .i64 px, .int .i64 py, .int .i64 1] _ _ rfl) (one_ints _ _ _) (by omega) (by unfold maxLen; omega) (by omega) (by first | omega | (simp; omega)) (W3.heap.size + 1) (by simp) ?_)
          intro g cap w4 hown4 hgrow hat hlt4
          have HB4 := hide ((HB3.out.alloc (by omega) _).grown hgrow (by simp; omega) (fun q hq => (hown3.lt q hq).1))
          have HO4 : Hid (w4.ownsRow (fb + 1) 90 3 (.slice (some ⟨g, 0, none⟩) (ln + 1) cap) (tmU ⟨fl, fw, fu, fh⟩ X Y K m (i + 1)).length ((tmU ⟨fl, fw, fu, fh⟩ X Y K m (i + 1)).flatMap ptC)) := by
            unfold Hid
            rw [HSt.out]
            exact push_pt (by rw [← HXs.out]; exact hown4) rfl (by rw [HLn.out])
          clear hown4 hgrow hat hlt4 hown3
          go_wp2
          go_roundw
          case rel => exact ⟨i + 1, by omega, by go_num, HB4.out, HO4.out⟩
          case measure => simp [intOf]; omega
        · rw [hk] at HSt HPk
          clear hk hkr
          go_wp2_with fail
          refine (HPk.out _).mono ?_
          rintro e w' ⟨rfl, hw'⟩
          rw [hw']
          clear hw'
          go_wp2_with (at_builtin; refine wpList_append_lies _ rfl _ _ 41 rfl (fb + 1) 90 i0 (.agg #[.int .i64 0, .int .i64 0, .int .i64 0]) 3 24 Try.underlying41 hi0 hz0 hz1 hz2 rfl (by omega) v ln xs rfl (hown3.alloc _) ⟨W3.heap.size, 0, none⟩ 1 1 [.int .i64 px, .int .i64 py, .int .i64 0] rfl rfl (news_new W3 [.int .i64 px, .int .i64 py, .int .i64 0] _ _ rfl) (one_ints _ _ _) (by omega) (by unfold maxLen; omega) (by omega) (by first | omega | (simp; omega)) (W3.heap.size + 1) (by simp) ?_)
          intro g1 cap1 w1' hown1' hgrow1 hat1 hlt1
          have HB1' := hide ((HB3.out.alloc (by omega) _).grown hgrow1 (by simp; omega) (fun q hq => (hown3.lt q hq).1))
          have hs1' := HB1'.out.size
          have hgz1 : W3.heap.size ≤ w1'.heap.size := by have := hgrow1.size; simp at this; omega
          have hfar1 : ∀ q, q < W3.heap.size → tyOf W3 q ≠ some 90 → w1'.heap[q]? = W3.heap[q]? := fun q hq ht => grown_other hgrow1 (fun b hb => owns_ty hown3 hb) hq ht
          have HPr1 := hide (HPr.out.of_block (hfar1 sb HPr.out.lt (by rw [row_ty HPr.out]; decide)))
          have HQr1 := hide (HQr.out.of_block (hfar1 qb HQr.out.lt (by rw [row_ty HQr.out]; decide)))
          obtain ⟨p0, p1⟩ := spt2_c HPr1.out
          obtain ⟨q0, q1⟩ := spt2_c HQr1.out
          obtain ⟨x1, hx1⟩ : ∃ x1, x1 = xs ++ [.int .i64 px, .int .i64 py, .int .i64 0] := ⟨_, rfl⟩
          have hO1 := hown1'
          rw [← hx1] at hO1
          have HX1 := hide hx1
          clear hx1 hown1' hgrow1 hat1 hlt1 hfar1 hown3
          go_wp2_with (at_builtin; refine wpList_append_lies _ rfl _ _ 41 rfl (fb + 1) 90 i0 (.agg #[.int .i64 0, .int .i64 0, .int .i64 0]) 3 24 Try.underlying41 hi0 hz0 hz1 hz2 rfl (by omega) _ (ln + 1) x1 rfl (hO1.alloc _) ⟨w1'.heap.size, 0, none⟩ 1 1 [.int .i64 px, .int .i64 qy, .int .i64 2] rfl rfl (news_new w1' [.int .i64 px, .int .i64 qy, .int .i64 2] _ _ rfl) (one_ints _ _ _) (by omega) (by unfold maxLen; omega) (by omega) (by first | omega | (simp; omega)) (w1'.heap.size + 1) (by simp) ?_)
          intro g2 cap2 w2' hown2' hgrow2 hat2 hlt2
          have HB2' := hide ((HB1'.out.alloc (by omega) _).grown hgrow2 (by simp; omega) (fun q hq => (hO1.lt q hq).1))
          have hs2' := HB2'.out.size
          have hgz2 : w1'.heap.size ≤ w2'.heap.size := by have := hgrow2.size; simp at this; omega
          have hfar2 : ∀ q, q < w1'.heap.size → tyOf w1' q ≠ some 90 → w2'.heap[q]? = w1'.heap[q]? := fun q hq ht => grown_other hgrow2 (fun b hb => owns_ty hO1 hb) hq ht
          have HPr2 := hide (HPr1.out.of_block (hfar2 sb HPr1.out.lt (by rw [row_ty HPr1.out]; decide)))
          have HQr2 := hide (HQr1.out.of_block (hfar2 qb HQr1.out.lt (by rw [row_ty HQr1.out]; decide)))
          obtain ⟨p0, p1⟩ := spt2_c HPr2.out
          obtain ⟨q0, q1⟩ := spt2_c HQr2.out
          obtain ⟨x2, hx2⟩ : ∃ x2, x2 = x1 ++ [.int .i64 px, .int .i64 qy, .int .i64 2] := ⟨_, rfl⟩
          have hO2 := hown2'
          rw [← hx2] at hO2
          have HX2 := hide hx2
          clear hx2 hown2' hgrow2 hat2 hlt2 hfar2 hO1
          go_wp2_with (at_builtin; refine wpList_append_lies _ rfl _ _ 41 rfl (fb + 1) 90 i0 (.agg #[.int .i64 0, .int .i64 0, .int .i64 0]) 3 24 Try.underlying41 hi0 hz0 hz1 hz2 rfl (by omega) _ (ln + 1 + 1) x2 rfl (hO2.alloc _) ⟨w2'.heap.size, 0, none⟩ 1 1 [.int .i64 qx, .int .i64 py, .int .i64 2] rfl rfl (news_new w2' [.int .i64 qx, .int .i64 py, .int .i64 2] _ _ rfl) (one_ints _ _ _) (by omega) (by unfold maxLen; omega) (by omega) (by first | omega | (simp; omega)) (w2'.heap.size + 1) (by simp) ?_)
          intro g3 cap3 w3' hown3' hgrow3 hat3 hlt3
          have HB3' := hide ((HB2'.out.alloc (by omega) _).grown hgrow3 (by simp; omega) (fun q hq => (hO2.lt q hq).1))
          have hs3' := HB3'.out.size
          have hgz3 : w2'.heap.size ≤ w3'.heap.size := by have := hgrow3.size; simp at this; omega
          have hfar3 : ∀ q, q < w2'.heap.size → tyOf w2' q ≠ some 90 → w3'.heap[q]? = w2'.heap[q]? := fun q hq ht => grown_other hgrow3 (fun b hb => owns_ty hO2 hb) hq ht
          have HPr3 := hide (HPr2.out.of_block (hfar3 sb HPr2.out.lt (by rw [row_ty HPr2.out]; decide)))
          have HQr3 := hide (HQr2.out.of_block (hfar3 qb HQr2.out.lt (by rw [row_ty HQr2.out]; decide)))
          obtain ⟨p0, p1⟩ := spt2_c HPr3.out
          obtain ⟨q0, q1⟩ := spt2_c HQr3.out
          obtain ⟨x3, hx3⟩ : ∃ x3, x3 = x2 ++ [.int .i64 qx, .int .i64 py, .int .i64 2] := ⟨_, rfl⟩
          have hO3 := hown3'
          rw [← hx3] at hO3
          have HX3 := hide hx3
          clear hx3 hown3' hgrow3 hat3 hlt3 hfar3 hO2
          go_wp2_with (at_builtin; refine wpList_append_lies _ rfl _ _ 41 rfl (fb + 1) 90 i0 (.agg #[.int .i64 0, .int .i64 0, .int .i64 0]) 3 24 Try.underlying41 hi0 hz0 hz1 hz2 rfl (by omega) _ (ln + 1 + 1 + 1) x3 rfl (hO3.alloc _) ⟨w3'.heap.size, 0, none⟩ 1 1 [.int .i64 qx, .int .i64 qy, .int .i64 0] rfl rfl (news_new w3' [.int .i64 qx, .int .i64 qy, .int .i64 0] _ _ rfl) (one_ints _ _ _) (by omega) (by unfold maxLen; omega) (by omega) (by first | omega | (simp; omega)) (w3'.heap.size + 1) (by simp) ?_)
          intro g4 cap4 w4' hown4' hgrow4 hat4 hlt4
          have HB4' := hide ((HB3'.out.alloc (by omega) _).grown hgrow4 (by simp; omega) (fun q hq => (hO3.lt q hq).1))
          have hs4' := HB4'.out.size
          have hgz4 : w3'.heap.size ≤ w4'.heap.size := by have := hgrow4.size; simp at this; omega
          have hfar4 : ∀ q, q < w3'.heap.size → tyOf w3' q ≠ some 90 → w4'.heap[q]? = w3'.heap[q]? := fun q hq ht => grown_other hgrow4 (fun b hb => owns_ty hO3 hb) hq ht
          have HPr4 := hide (HPr3.out.of_block (hfar4 sb HPr3.out.lt (by rw [row_ty HPr3.out]; decide)))
          have HQr4 := hide (HQr3.out.of_block (hfar4 qb HQr3.out.lt (by rw [row_ty HQr3.out]; decide)))
          obtain ⟨p0, p1⟩ := spt2_c HPr4.out
          obtain ⟨q0, q1⟩ := spt2_c HQr4.out
          have HO4 : Hid (w4'.ownsRow (fb + 1) 90 3 (.slice (some ⟨g4, 0, none⟩) (ln + 1 + 1 + 1 + 1) cap4) (tmU ⟨fl, fw, fu, fh⟩ X Y K m (i + 1)).length ((tmU ⟨fl, fw, fu, fh⟩ X Y K m (i + 1)).flatMap ptC)) := by
            unfold Hid
            have e1 : (tmU ⟨fl, fw, fu, fh⟩ X Y K m (i + 1)).length = ln + 1 + 1 + 1 + 1 := by rw [HSt.out, List.length_append, ← HLn.out]; rfl
            have e2 : (tmU ⟨fl, fw, fu, fh⟩ X Y K m (i + 1)).flatMap ptC = x3 ++ [.int .i64 qx, .int .i64 qy, .int .i64 0] := by rw [HSt.out, List.flatMap_append, ← HXs.out, HX3.out, HX2.out, HX1.out]; simp [tmB, ptC]
            rw [e1, e2]
            exact hown4'
          clear hown4' hgrow4 hat4 hlt4 hfar4 hO3
          go_wp2
          go_roundw
          case rel => exact ⟨i + 1, by omega, by go_num, HB4'.out, HO4.out⟩
          case measure => simp [intOf]; omega
    · have e : i = m := by omega
      have hd0 : decide ((i : Int) < (m : Int)) = false := by simp; omega
      subst e
      rw [← HR.out] at hown
      have HB2 := hide (HB1.out.trans (hb.mono (by rw [HFw.out]; omega)))
      have HO2 := hide hown
      clear hb hown
      go_wp2
      go_ret
      exact ⟨_, rfl, HB2.out, owns_mono HO2.out (by rw [HFw.out]; omega)⟩
end Go.Proofs.Ytkhcjkmifddlbab

/- TmT -/
namespace Go.Proofs.Ytkhcjkmifddlbab
open Go.RowKit Go.Deep

/-- What tame makes of the first i contours. -/
def tmO (f : Fd) (n : Nat → Nat) (X Y K : Nat → Nat → Int) : Nat → List (List (Int × Int × Int))
  | 0 => []
  | i + 1 => if (tmO f n X Y K i).length < 4 ∧ 1 < n i then tmO f n X Y K i ++ [tmR f (X i) (Y i) (K i) (n i)] else tmO f n X Y K i
theorem tmO_len (f : Fd) (n : Nat → Nat) (X Y K : Nat → Nat → Int) : ∀ i, (tmO f n X Y K i).length ≤ 4 := by
  intro i
  induction i with
  | zero => simp [tmO]
  | succ i ih =>
    unfold tmO
    split
    · rw [List.length_append]; simp; omega
    · exact ih
theorem tmO_full (f : Fd) (n : Nat → Nat) (X Y K : Nat → Nat → Int) {i : Nat} (h : (tmO f n X Y K i).length = 4) : ∀ k, tmO f n X Y K (i + k) = tmO f n X Y K i := by
  intro k
  induction k with
  | zero => rfl
  | succ k ih =>
    have e : tmO f n X Y K (i + k + 1) = if (tmO f n X Y K (i + k)).length < 4 ∧ 1 < n (i + k) then tmO f n X Y K (i + k) ++ [tmR f (X (i + k)) (Y (i + k)) (K (i + k)) (n (i + k))] else tmO f n X Y K (i + k) := rfl
    show tmO f n X Y K (i + k + 1) = _
    rw [e, ih, if_neg (by omega)]
theorem tmO_mem (f : Fd) (n : Nat → Nat) (X Y K : Nat → Nat → Int) : ∀ (i : Nat) (l : List (Int × Int × Int)), l ∈ tmO f n X Y K i → ∃ c, 1 < n c ∧ l = tmR f (X c) (Y c) (K c) (n c) := by
  intro i
  induction i with
  | zero => intro l hl; simp [tmO] at hl
  | succ i ih =>
    intro l hl
    unfold tmO at hl
    split at hl
    · rename_i h
      rcases List.mem_append.1 hl with hl | hl
      · exact ih l hl
      · simp at hl; exact ⟨i, h.2, hl⟩
    · exact ih l hl
/-- A tame ring may stand: 2 to 48 points, kinds as they may be, all in the field. -/
theorem tmR_facts (f : Fd) (hw : 0 < f.w) (hh : 0 < f.h) (X Y K : Nat → Int) {n : Nat} (hn : 1 < n) : 2 ≤ (tmR f X Y K n).length ∧ (tmR f X Y K n).length ≤ 48 ∧ KOk (tmR f X Y K n) ∧ PtIn f.l (f.l + f.w - 1) f.u (f.u + f.h - 1) (tmR f X Y K n) := by
  have h := tmU_len f X Y K (tmN n) (tmN n)
  have h2 : 2 ≤ tmN n ∧ tmN n ≤ 12 := by unfold tmN; split <;> omega
  unfold tmR
  exact ⟨by omega, by omega, kok_U _ _ _ _ _ _, tmU_in f hw hh _ _ _ _ _⟩

/-- Rings of points, as a call hands them out. -/
structure PtRings (w : World) (base : Nat) (v : Value) (m : Nat) (V : Nat → Value) (L : Nat → List (Int × Int × Int)) : Prop where
  outer : w.ownsRow base 41 1 v m ((List.range m).map V)
  inner : ∀ i, i < m → w.ownsRow base 90 3 (V i) (L i).length ((L i).flatMap ptC)
theorem PtRings.of_blocks {w w' : World} {base : Nat} {v : Value} {m : Nat} {V : Nat → Value} {L : Nat → List (Int × Int × Int)} (h : PtRings w base v m V L) (h1 : ∀ b, v.ownBlock = some b → w'.heap[b]? = w.heap[b]?) (h2 : ∀ i, i < m → ∀ b, (V i).ownBlock = some b → w'.heap[b]? = w.heap[b]?) : PtRings w' base v m V L :=
  ⟨owns_of_block h.outer h1, fun i hi => owns_of_block (h.inner i hi) (h2 i hi)⟩
theorem PtRings.below {w w' : World} {base : Nat} {v : Value} {m : Nat} {V : Nat → Value} {L : Nat → List (Int × Int × Int)} (h : PtRings w base v m V L) (hb : Below w.heap.size w w') : PtRings w' base v m V L :=
  h.of_blocks (fun b hbb => hb.block b (h.outer.lt b hbb).2) (fun i hi b hbb => hb.block b ((h.inner i hi).lt b hbb).2)
theorem PtRings.mono {w : World} {base base' : Nat} {v : Value} {m : Nat} {V : Nat → Value} {L : Nat → List (Int × Int × Int)} (h : PtRings w base v m V L) (hb : base' ≤ base) : PtRings w base' v m V L :=
  ⟨owns_mono h.outer hb, fun i hi => owns_mono (h.inner i hi) hb⟩
theorem PtRings.nil (w : World) (base : Nat) (V : Nat → Value) (L : Nat → List (Int × Int × Int)) : PtRings w base (.slice none 0 0) 0 V L :=
  ⟨World.ownsRow_nil _ _ _ _, fun i hi => by omega⟩
/-- One ring more. -/
theorem PtRings.push {w w3 : World} {base k g cap m c : Nat} {v : Value} {ao : Option Addr} {V : Nat → Value} {L L' : Nat → List (Int × Int × Int)} {o : Obj} (h : PtRings w base v k V L) (hin : w.ownsRow base 90 3 (.slice ao m c) (L' k).length ((L' k).flatMap ptC)) (he : ∀ i, i < k → L' i = L i)
    (hown : w3.ownsRow base 41 1 (.slice (some ⟨g, 0, none⟩) (k + 1) cap) (k + 1) ((List.range k).map V ++ [.slice ao m c])) (hg : (w.alloc o).grownBy w3 v.ownBlock) :
    PtRings w3 base (.slice (some ⟨g, 0, none⟩) (k + 1) cap) (k + 1) (fun i => if i = k then .slice ao m c else V i) L' := by
  have hkeep : ∀ (u : Value) (l : List (Int × Int × Int)), w.ownsRow base 90 3 u l.length (l.flatMap ptC) → w3.ownsRow base 90 3 u l.length (l.flatMap ptC) := fun u l h' => owns_of_block h' (fun b hbb => by
    have hty := owns_ty h' hbb
    have hlt9 := (h'.lt b hbb).2
    rw [hg.block b (by rw [nblk_alloc]; omega) (fun e => by
      have := owns_ty h.outer e.symm
      rw [hty] at this
      simp at this), blk_alloc_lt _ _ _ hlt9])
  refine ⟨?_, fun i hi => ?_⟩
  · rw [range_map_snoc, range_map_congr (g := V) (fun j hj => by rw [if_neg (by omega)]), if_pos rfl]
    exact hown
  · by_cases e : i = k
    · subst e; rw [if_pos rfl]; exact hkeep _ _ hin
    · rw [if_neg e, he i (by omega)]; exact hkeep _ _ (h.inner i (by omega))
/-- As an outline is read. -/
theorem PtRings.out {w : World} {base : Nat} {v : Value} {m : Nat} {V : Nat → Value} {L : Nat → List (Int × Int × Int)} (h : PtRings w base v m V L) :
    ∃ ad cc A C, v = .slice ad m cc ∧ OutAt w ad m A C (fun j => (L j).length) (fun j => ptX (L j)) (fun j => ptY (L j)) (fun j => kd (L j)) := by
  obtain ⟨ad, cc, hv, hao⟩ := owns_formN h.outer
  have key : ∀ i, ∃ q : Option Addr × Nat, i < m → V i = .slice q.1 (L i).length q.2 ∧ RingAt w q.1 (L i).length (ptX (L i)) (ptY (L i)) (kd (L i)) := by
    intro i
    by_cases hi : i < m
    · have hin := h.inner i hi
      obtain ⟨ai, ci, hvi, hai⟩ := owns_formN hin
      refine ⟨(ai, ci), fun _ => ⟨hvi, ?_⟩⟩
      rcases Nat.eq_zero_or_pos (L i).length with h0 | h0
      · exact .inl h0
      · obtain ⟨g, rfl⟩ := hai h0
        rw [hvi] at hin
        refine .inr ⟨g, 0, rfl, fun k hk => ?_⟩
        have f0 := flat3 ptC (fun _ => rfl) (L i) k 0 hk (by omega)
        have f1 := flat3 ptC (fun _ => rfl) (L i) k 1 hk (by omega)
        have f2 := flat3 ptC (fun _ => rfl) (L i) k 2 hk (by omega)
        have e0 := hin.cellAt (k * 3 + 0) (by omega)
        have e1 := hin.cellAt (k * 3 + 1) (by omega)
        have e2 := hin.cellAt (k * 3 + 2) (by omega)
        rw [f0] at e0
        rw [f1] at e1
        rw [f2] at e2
        refine ⟨?_, ?_, ?_⟩
        · rw [Nat.zero_add]; rw [Nat.add_zero] at e0; rw [e0]; simp [ptC, ptX, hk]
        · rw [Nat.zero_add, e1]; simp [ptC, ptY, hk]
        · rw [Nat.zero_add, e2]; simp [ptC, kd, hk]
    · exact ⟨(none, 0), fun e => absurd e hi⟩
  obtain ⟨q, hq⟩ := Classical.skolem.1 key
  refine ⟨ad, cc, fun i => (q i).1, fun i => (q i).2, hv, ?_, fun i hi => (hq i hi).2⟩
  rcases Nat.eq_zero_or_pos m with h0 | h0
  · exact .inl h0
  · obtain ⟨g, rfl⟩ := hao h0
    refine .inr ⟨g, 0, rfl, fun i hi => ?_⟩
    have ho := h.outer
    rw [hv] at ho
    have hc := ho.cellAt i (by omega)
    rw [Nat.zero_add, hc, List.getElem?_map, List.getElem?_range hi]
    simp only [Option.map_some]
    rw [(hq i hi).1]
theorem sh4_cells {w : World} {p : Nat} {t : TypeId} {a b c d : Int} (h : w.rowIs p t 4 (sh4 a b c d)) : w.cell? ⟨p, 0, none⟩ = some (.int .i64 a) ∧ w.cell? ⟨p, 1, none⟩ = some (.int .i64 b) ∧ w.cell? ⟨p, 2, none⟩ = some (.int .i64 c) ∧ w.cell? ⟨p, 3, none⟩ = some (.int .i64 d) :=
  ⟨h.cell (i := 0) (by omega), h.cell (i := 1) (by omega), h.cell (i := 2) (by omega), h.cell (i := 3) (by omega)⟩
/-- List j of a list of lists. -/
def nth (l : List (List (Int × Int × Int))) (j : Nat) : List (Int × Int × Int) := l[j]?.getD []
theorem nth_left {l r : List (List (Int × Int × Int))} {j : Nat} (h : j < l.length) : nth (l ++ r) j = nth l j := by unfold nth; rw [List.getElem?_append_left h]
theorem nth_last (l : List (List (Int × Int × Int))) (x : List (Int × Int × Int)) : nth (l ++ [x]) l.length = x := by unfold nth; simp

set_option maxRecDepth 100000 in
set_option maxHeartbeats 4000000 in
theorem ktame_any (fl fw fu fh : Int) (ad : Option Addr) (N cc : Nat) (A : Nat → Option Addr) (C n : Nat → Nat) (X Y K : Nat → Nat → Int) (w : World) (hf : (⟨fl, fw, fu, fh⟩ : Fd).Ok) (hN : (N : Int) ≤ 9223372036854775807) (ho : OutAt w ad N A C n X Y K)
    (hX : ∀ j i, -9223372036854775808 ≤ X j i ∧ X j i ≤ 9223372036854775807) (hY : ∀ j i, -9223372036854775808 ≤ Y j i ∧ Y j i ≤ 9223372036854775807) (hK : ∀ j i, -9223372036854775808 ≤ K j i ∧ K j i ≤ 9223372036854775807) :
    Calls Try.prog 8 #[.agg #[.int .i64 fl, .int .i64 fw, .int .i64 fu, .int .i64 fh], .slice ad N cc] w fun e w' => ∃ v V, e = .returned v ∧ Below w.heap.size w w' ∧ PtRings w' w.heap.size v (tmO ⟨fl, fw, fu, fh⟩ n X Y K N).length V (nth (tmO ⟨fl, fw, fu, fh⟩ n X Y K N)) := by
  obtain ⟨i0, hi0, hz0, hz1, hz2⟩ := info_parts info_ptslice
  obtain ⟨T, hT⟩ : ∃ T, T = tmO ⟨fl, fw, fu, fh⟩ n X Y K := ⟨_, rfl⟩
  have HT4 : Hid (∀ i, (T i).length ≤ 4) := fun i => by rw [hT]; exact tmO_len _ _ _ _ _ i
  have HTs : Hid (∀ i, T (i + 1) = if (T i).length < 4 ∧ 1 < n i then T i ++ [tmR ⟨fl, fw, fu, fh⟩ (X i) (Y i) (K i) (n i)] else T i) := fun i => by rw [hT]; rfl
  have HTf : Hid (∀ i k, (T i).length = 4 → T (i + k) = T i) := fun i k h => by rw [hT] at h ⊢; exact tmO_full _ _ _ _ _ h k
  have HT0 : Hid (T 0 = []) := by unfold Hid; rw [hT]; rfl
  rw [← hT]
  have HRing := hide (fun (j : Nat) (w' : World) (h : RingAt w' (A j) (n j) (X j) (Y j) (K j)) => kring_any fl fw fu fh (A j) (n j) (C j) (X j) (Y j) (K j) w' hf h (hX j) (hY j) (hK j))
  obtain ⟨W1, hW1⟩ : ∃ W1, W1 = w.alloc (.cells #[.int .i64 fl, .int .i64 fw, .int .i64 fu, .int .i64 fh] 26) := ⟨_, rfl⟩
  obtain ⟨fb, hfb⟩ : ∃ fb, fb = w.heap.size := ⟨_, rfl⟩
  have hs1 : W1.heap.size = fb + 1 := by rw [hW1, hfb]; simp
  have HB1 : Hid (Below fb w W1) := by unfold Hid; rw [hW1, hfb]; exact (Below.refl _ _).alloc (Nat.le_refl _) _
  have HFr : Hid (W1.rowIs fb 26 4 (sh4 fl fw fu fh)) := by unfold Hid; rw [hW1, hfb]; exact sh4_row fl fw fu fh w 26
  have HO := hide ho
  have HFB := hide hfb
  have HS1 := hide hs1
  clear ho hX hY hK hf hT hs1
  go_enter Try.func8, Try.ntmps8
  go_wp2_with fail
  rw [← hW1]
  try rw [← hfb]
  clear hW1 hfb
  go_loopw [5, 6] (fun v t wr => ∃ (c : Nat) (V : Nat → Value), c ≤ N ∧ t = .int .i64 c ∧ Below (fb + 1) W1 wr ∧ PtRings wr (fb + 1) v (T c).length V (nth (T c))) (fun _ t _ => N - (intOf t).toNat)
  case atStart => exact ⟨0, fun _ => undef, by omega, rfl, Below.refl _ _, by rw [HT0.out]; exact PtRings.nil _ _ _ _⟩
  case round =>
    obtain ⟨c, V, hc, rfl, hb, hP⟩ := hrel
    have hsz := hb.size
    have hs1 := HS1.out
    obtain ⟨ao, cap, hv, _⟩ := owns_formN hP.outer
    subst hv
    have hBw : Below w.heap.size w wr := by rw [← HFB.out]; exact HB1.out.trans (hb.mono (by omega))
    by_cases hlt : c < N
    · have hd1 : decide ((c : Int) < (N : Int)) = true := by simp; omega
      by_cases h4 : (T c).length < 4
      · have hd2 : decide (((T c).length : Int) < 4) = true := by simp; omega
        have hOw := HO.out.below hBw
        rcases hOw.1 with h0 | ⟨ob, ooff, rfl, hcell⟩
        · omega
        have cc0 := hcell c hlt
        have hobl : ob < wr.heap.size := World.block_lt_of_cell? wr _ cc0
        have g0 : (0 : Int) ≤ (c : Int) := by omega
        have g1 : (c : Int) < (N : Int) := by omega
        obtain ⟨f0, f1, f2, f3⟩ := sh4_cells (row_below HFr.out hb (by omega))
        have hfbl : fb < wr.heap.size := (row_below HFr.out hb (by omega)).lt
        by_cases hn1 : 1 < n c
        · have hd3 : decide ((1 : Int) < (n c : Int)) = true := by simp; omega
          have hBd : Below wr.heap.size wr wr.drew := (Below.refl _ _).drew
          have HCall := hide (HRing.out c wr.drew ((hOw.2 c hlt).below hBd))
          have HP := hide hP
          have HB := hide hb
          have HTc : Hid (T (c + 1) = T c ++ [tmR ⟨fl, fw, fu, fh⟩ (X c) (Y c) (K c) (n c)]) := by unfold Hid; rw [HTs.out, if_pos ⟨h4, hn1⟩]
          obtain ⟨M, hM⟩ : ∃ M, M = (T c).length := ⟨_, rfl⟩
          obtain ⟨R, hR⟩ : ∃ R, R = tmR ⟨fl, fw, fu, fh⟩ (X c) (Y c) (K c) (n c) := ⟨_, rfl⟩
          rw [← hM] at HP h4 hd2 ⊢
          rw [← hR] at HCall HTc
          have HMM := hide hM
          clear hOw hcell hP hb hBw hBd hM hR
          go_wp2_with fail
          go_region_with (go_at_call 25; refine HCall.out.mono ?_; rintro e w2 ⟨vr, rfl, hb2, hown2⟩)
          all_goals
            obtain ⟨ar, cr, hvr, _⟩ := owns_formN hown2
            subst hvr
            have hs2 := hb2.size
            have hdr : wr.drew.heap.size = wr.heap.size := rfl
            have hB2 : Below (fb + 1) W1 w2 := HB.out.drew.trans (hb2.mono (by omega))
            have hP2 : PtRings w2 (fb + 1) (.slice ao M cap) M V (nth (T c)) := (HP.out.below ((Below.refl _ _).drew)).below hb2
            have hin2 := owns_mono hown2 (show fb + 1 ≤ wr.drew.heap.size by omega)
            obtain ⟨xs, hxs⟩ : ∃ xs, xs = (List.range M).map V := ⟨_, rfl⟩
            have ho2 : w2.ownsRow (fb + 1) 41 1 (.slice ao M cap) M xs := by rw [hxs]; exact hP2.outer
            have HXS := hide hxs
            have HP2 := hide hP2
            have HB2 := hide hB2
            have HIn := hide hin2
            clear hb2 hown2 hP2 hin2 hxs hB2
            go_wp2_with (at_builtin; refine wpList_append_lies _ rfl _ _ 22 rfl (fb + 1) 41 i0 (.slice none 0 0) 1 24 Try.underlying22 hi0 hz0 hz1 hz2 rfl (by omega) (.slice ao M cap) M xs rfl (ho2.alloc _) ⟨w2.heap.size, 0, none⟩ 1 1 [.slice ar R.length cr] rfl rfl (news_new w2 [.slice ar R.length cr] _ _ rfl) (one_slice _ _ _) (by omega) (by unfold maxLen; omega) (by omega) (by first | omega | (simp; omega)) (w2.heap.size + 1) (by simp) ?_)
            intro g cap1 w3 hown3 hgrow hat hlt3
            have hb3 : Below (fb + 1) W1 w3 := (HB2.out.alloc (by omega) _).grown hgrow (by simp; omega) (fun q hq => (ho2.lt q hq).1)
            have HF : Hid (PtRings w3 (fb + 1) (.slice (some ⟨g, 0, none⟩) (M + 1) cap1) (T (c + 1)).length (fun i => if i = M then .slice ar R.length cr else V i) (nth (T (c + 1)))) := by
              unfold Hid
              have e1 : (T (c + 1)).length = M + 1 := by rw [HTc.out, List.length_append, ← HMM.out]; rfl
              have e2 : nth (T (c + 1)) M = R := by rw [HTc.out, HMM.out]; exact nth_last _ _
              rw [e1]
              refine PtRings.push HP2.out (by rw [e2]; exact HIn.out) (fun i hi => by rw [HTc.out]; exact nth_left (by rw [← HMM.out]; exact hi)) (by rw [← HXS.out]; exact hown3) hgrow
            have HB3 := hide hb3
            clear hown3 hgrow hat hb3 ho2
            go_wp2
            go_roundw
          case rel => exact ⟨c + 1, _, by omega, by go_num, HB3.out, HF.out⟩
          case measure => simp [intOf]; omega
          case rel => exact ⟨c + 1, _, by omega, by go_num, HB3.out, HF.out⟩
          case measure => simp [intOf]; omega
        · have hd3 : decide ((1 : Int) < (n c : Int)) = false := by simp; omega
          have HTc : Hid (T (c + 1) = T c) := by unfold Hid; rw [HTs.out, if_neg (fun e => hn1 e.2)]
          have HP := hide hP
          have HB := hide hb
          clear hOw hcell hP hb hBw
          go_wp2
          go_roundw
          case rel => exact ⟨c + 1, V, by omega, by go_num, HB.out, by rw [HTc.out]; exact HP.out⟩
          case measure => simp [intOf]; omega
      · have e4 : (T c).length = 4 := by have := HT4.out c; omega
        have hd2 : decide (((T c).length : Int) < 4) = false := by simp; omega
        have HTe : Hid (T N = T c) := by
          have := HTf.out c (N - c) e4
          rw [show c + (N - c) = N by omega] at this
          exact this
        have HP := hide hP
        have HBw := hide hBw
        have HM : Hid (fb + 1 ≥ w.heap.size) := by unfold Hid; rw [HFB.out]; omega
        clear hP hb hBw e4
        go_wp2
        go_ret
        exact ⟨_, V, rfl, HBw.out, by rw [HTe.out]; exact HP.out.mono HM.out⟩
    · have e : c = N := by omega
      have hd1 : decide ((c : Int) < (N : Int)) = false := by simp; omega
      have HP := hide hP
      have HBw := hide hBw
      have HM : Hid (fb + 1 ≥ w.heap.size) := by unfold Hid; rw [HFB.out]; omega
      have HE : Hid (c = N) := e
      clear hP hb hBw e
      go_wp2
      go_ret
      exact ⟨_, V, rfl, HBw.out, by rw [← HE.out]; exact HP.out.mono HM.out⟩
end Go.Proofs.Ytkhcjkmifddlbab

/- TmU -/
namespace Go.Proofs.Ytkhcjkmifddlbab
open Go.RowKit Go.Deep

theorem segSp_pos {m : Num.Mp} {g : Num.Sg} (h : Num.putOk m g = true) (hk : g.k = 0 ∨ g.k = 1 ∨ g.k = 2) : 0 < (Num.segSp m g).length := by
  have hc := Num.put_curve h hk
  have hN := (curveN_eq (Num.curve_ok hc).2).2.1
  unfold Num.segSp Num.curveL
  rw [if_pos hc]
  simp
  omega
/-- No ring of a trace is empty. -/
theorem trace_pos {N : Nat} {n : Nat → Nat} {X Y K : Nat → Nat → Int} {m : Num.Mp} (h : traceE N n X Y K m = 0) (h2 : ∀ j, j < N → 2 ≤ n j ∧ ∀ i, i < n j → Num.badB (K j) (n j) i = false) {j : Nat} (hj : j < N) : 0 < (traceL n X Y K m j).length := by
  obtain ⟨s2, sb⟩ := h2 j hj
  have hok : traceOk N n X Y K m = true := by
    unfold traceE at h
    split at h
    · split at h
      · simp at h
      · split at h
        · simp at h
        · rename_i h1; simpa using h1
    · rename_i h1; exact absurd h h1
  unfold traceOk at hok
  rw [List.all_eq_true] at hok
  have hr := hok j (by simpa using hj)
  unfold Num.ringOk at hr
  rw [List.all_eq_true] at hr
  have hp := refRing_pos (X := X j) (Y := Y j) s2 sb
  have hkd := ringL_kd (n := n) (X := X) (Y := Y) (K := K) (k := j) s2 sb
  unfold ringL at hr hkd
  unfold traceL ringL Num.ringSp
  cases hq : Num.refRing (X j) (Y j) (K j) (n j) with
  | nil => rw [hq] at hp; simp at hp
  | cons g r =>
    rw [hq] at hr hkd
    have h1 := hr g (by simp)
    have h2 := hkd g (by simp)
    rw [List.flatMap_cons, List.length_append]
    have := segSp_pos h1 h2
    omega

set_option maxRecDepth 100000 in
set_option maxHeartbeats 2000000 in
theorem ktraced_any (ad : Option Addr) (N cc : Nat) (A : Nat → Option Addr) (C n : Nat → Nat) (X Y K : Nat → Nat → Int) (a b c d x y : Int) (w : World) (hN : N ≤ 4294967296) (hn : ∀ i, i < N → n i ≤ 4294967296) (ho : OutAt w ad N A C n X Y K)
    (hE : traceE N n X Y K ⟨a, b, c, d, x, y⟩ = 0) (hp : ∀ j, j < N → 0 < (traceL n X Y K ⟨a, b, c, d, x, y⟩ j).length) :
    Calls Try.prog 21 #[.slice ad N cc, .agg #[.int .i64 a, .int .i64 b, .int .i64 c, .int .i64 d, .int .i64 x, .int .i64 y]] w fun e w' => ∃ v V, e = .returned (.tuple #[v, .bool true]) ∧ Below w.heap.size w w' ∧ SpRings w' w.heap.size v N V (traceL n X Y K ⟨a, b, c, d, x, y⟩) := by
  obtain ⟨W1, hW1⟩ : ∃ W1, W1 = w.alloc (.cells #[.int .i64 a, .int .i64 b, .int .i64 c, .int .i64 d, .int .i64 x, .int .i64 y] 24) := ⟨_, rfl⟩
  have HB1 : Hid (Below w.heap.size w W1) := by unfold Hid; rw [hW1]; exact (Below.refl _ _).alloc (Nat.le_refl _) _
  have hTN : traceN N n X Y K ⟨a, b, c, d, x, y⟩ = N := by unfold traceN; rw [if_pos hE]
  have HCall := hide (glyphTrace_any ad N cc A C n X Y K a b c d x y W1 hN hn (ho.below HB1.out))
  rw [hE, hTN] at HCall
  obtain ⟨L, hL⟩ : ∃ L, L = traceL n X Y K ⟨a, b, c, d, x, y⟩ := ⟨_, rfl⟩
  rw [← hL] at HCall hp ⊢
  have HP := hide hp
  have hsW : w.heap.size ≤ W1.heap.size := HB1.out.size
  clear ho hn hE hTN hp hL
  go_enter Try.func21, Try.ntmps21
  go_wp2_with fail
  rw [← hW1]
  refine HCall.out.mono ?_
  rintro e w2 ⟨v, V, rfl, hb2, hS⟩
  obtain ⟨ao, cap, rfl, hao⟩ := owns_formN hS.outer
  have HS := hide hS
  have HAo := hide hao
  have HB2 : Hid (Below w.heap.size w w2) := HB1.out.trans (hb2.mono hsW)
  clear hb2 hS hao hW1 HCall
  go_wp2_with fail
  go_loopw [8] (fun t wr => ∃ k : Nat, k ≤ N ∧ t = .int .i64 k ∧ wr = w2) (fun t _ => N - (intOf t).toNat)
  case atStart => exact ⟨0, by omega, rfl, rfl⟩
  case round =>
    obtain ⟨k, hk, rfl, rfl⟩ := hrel
    by_cases hlt : k < N
    · obtain ⟨g, rfl⟩ := HAo.out (by omega)
      have hc := HS.out.outer.cellAt k (by omega)
      rw [List.getElem?_map, List.getElem?_range hlt] at hc
      simp only [Option.map_some] at hc
      obtain ⟨ak, ck, hvk, _⟩ := owns_formN (HS.out.inner k hlt)
      rw [hvk] at hc
      have hpos := HP.out k hlt
      have hd1 : decide ((k : Int) < (N : Int)) = true := by simp; omega
      have g0 : (0 : Int) ≤ (k : Int) := by omega
      have g1 : (k : Int) < (N : Int) := by omega
      have hd2 : (((L k).length : Int) == 0) = false := beq_eq_false_iff_ne.2 (by omega)
      obtain ⟨ll, hll⟩ : ∃ ll, ll = (L k).length := ⟨_, rfl⟩
      rw [← hll] at hc hpos hd2
      clear hvk hll
      go_wp2
      go_roundw
      case rel => exact ⟨k + 1, by omega, by go_num, by first | rfl | trivial⟩
      case measure => simp [intOf]; omega
    · have hd0 : decide ((k : Int) < (N : Int)) = false := by simp; omega
      go_wp2
      go_ret2
      exact ⟨_, V, rfl, HB2.out, HS.out.mono (by omega)⟩
end Go.Proofs.Ytkhcjkmifddlbab

/- Fl -/
namespace Go.Proofs.Ytkhcjkmifddlbab
open Go.RowKit Go.Deep

/-- A spot as the walks have it. -/
def InS (x y : Int) : Prop := (-16384 ≤ x ∧ x ≤ 16384) ∧ -16384 ≤ y ∧ y ≤ 16384
theorem turnV_bd {ax ay bx b2 x y : Int} (ha : InS ax ay) (hb : InS bx b2) (hx : 0 ≤ x ∧ x ≤ 8192) (hy : 0 ≤ y ∧ y ≤ 8192) :
    (-805306368 ≤ (b2 - ay) * (x - ax) ∧ (b2 - ay) * (x - ax) ≤ 805306368) ∧ -805306368 ≤ (bx - ax) * (y - ay) ∧ (bx - ax) * (y - ay) ≤ 805306368 := by
  unfold InS at ha hb
  have h1 := Num.mul_bd (b2 - ay) (x - ax) 32768 24576 (by omega) (by omega)
  have h2 := Num.mul_bd (bx - ax) (y - ay) 32768 24576 (by omega) (by omega)
  omega

end Go.Proofs.Ytkhcjkmifddlbab

/- FlV -/
namespace Go.Proofs.Ytkhcjkmifddlbab
namespace Num

/-- Chord k of a ring. -/
def chM (i j : Int) (l : List (Int × Int)) (k : Nat) : Bool := meetsV (ats l k).1 (ats l k).2 (ats l (nxR l.length k)).1 (ats l (nxR l.length k)).2 i j
def chX (i j : Int) (ax ay bx b2 : Int) : Int := crossV ax ay bx b2 i j
theorem cross_bd (ax ay bx b2 i j : Int) : -1 ≤ crossV ax ay bx b2 i j ∧ crossV ax ay bx b2 i j ≤ 1 := by
  unfold crossV; repeat' split
  all_goals omega
theorem ring_flatF {l : List (Int × Int)} {i j : Int} (h : ∀ k, k < l.length → chM i j l k = false) : ringF (chA i j) l = 8192 * ringF (chX i j) l := by
  have e : ∀ n, n ≤ l.length → sumZ (chF (chA i j) l) n = 8192 * sumZ (chF (chX i j) l) n + sumZ (fun k => spotG i j (ats l (nxR l.length k)).1 (ats l (nxR l.length k)).2 - spotG i j (ats l k).1 (ats l k).2) n := by
    intro n
    induction n with
    | zero => intro _; simp [sumZ]
    | succ n ih =>
      intro hn
      have h1 := ih (by omega)
      have h2 := flat_chord (h n (by omega))
      simp only [sumZ]
      rw [h1]
      have e1 : chF (chA i j) l n = chordV (ats l n).1 (ats l n).2 (ats l (nxR l.length n)).1 (ats l (nxR l.length n)).2 i j := rfl
      have e2 : chF (chX i j) l n = crossV (ats l n).1 (ats l n).2 (ats l (nxR l.length n)).1 (ats l (nxR l.length n)).2 i j := rfl
      rw [e1, e2, h2]
      omega
  have t := ring_tele (fun k => spotG i j (ats l k).1 (ats l k).2) l.length
  unfold ringF
  rw [e _ (Nat.le_refl _), t]
  omega
theorem flat_out {L : Nat → List (Int × Int)} {N : Nat} {i j : Int} (h : ∀ r, r < N → ∀ k, k < (L r).length → chM i j (L r) k = false) : areaV L N i j = 8192 * outF (chX i j) L N := by
  unfold areaV outF
  have e : ∀ n, n ≤ N → sumZ (fun r => ringF (chA i j) (L r)) n = 8192 * sumZ (fun r => ringF (chX i j) (L r)) n := by
    intro n
    induction n with
    | zero => intro _; simp [sumZ]
    | succ n ih =>
      intro hn
      simp only [sumZ]
      rw [ih (by omega), ring_flatF (h n (by omega))]
      omega
  exact e N (Nat.le_refl _)
end Num
end Go.Proofs.Ytkhcjkmifddlbab

/- FlB -/
namespace Go.Proofs.Ytkhcjkmifddlbab
open Go.RowKit Go.Deep

end Go.Proofs.Ytkhcjkmifddlbab

/- FlC -/
namespace Go.Proofs.Ytkhcjkmifddlbab
open Go.RowKit Go.Deep

/-- The tame outline of an argument, and its trace. -/
def tameL (n : Nat → Nat) (X Y K : Nat → Nat → Int) (N : Nat) : List (List (Int × Int × Int)) := tmO openF n X Y K N
def tameM (a b c d x y : Int) : Num.Mp := ⟨nearV a 2047, nearV b 2047, nearV c 2047, nearV d 2047, nearV x 4095, nearV y 4095⟩
def ptLen (T : List (List (Int × Int × Int))) (j : Nat) : Nat := (nth T j).length
def ptXX (T : List (List (Int × Int × Int))) (j : Nat) : Nat → Int := ptX (nth T j)
def ptYY (T : List (List (Int × Int × Int))) (j : Nat) : Nat → Int := ptY (nth T j)
def ptKK (T : List (List (Int × Int × Int))) (j : Nat) : Nat → Int := kd (nth T j)
theorem nth_mem {T : List (List (Int × Int × Int))} {j : Nat} (h : j < T.length) : nth T j ∈ T := by unfold nth; simp [h]
theorem openF_ok : openF.Ok := by unfold Fd.Ok openF; simp
/-- What a tame outline is like. -/
theorem tameL_facts (n : Nat → Nat) (X Y K : Nat → Nat → Int) (N : Nat) {j : Nat} (hj : j < (tameL n X Y K N).length) : 2 ≤ (nth (tameL n X Y K N) j).length ∧ (nth (tameL n X Y K N) j).length ≤ 48 ∧ KOk (nth (tameL n X Y K N) j) ∧ PtIn (-2047) 2047 (-2047) 2047 (nth (tameL n X Y K N) j) := by
  obtain ⟨c, hc, e⟩ := tmO_mem openF n X Y K N _ (nth_mem hj)
  have h := tmR_facts openF (by simp [openF]) (by simp [openF]) (X c) (Y c) (K c) hc
  rw [← e] at h
  exact h
theorem tame_trace (n : Nat → Nat) (X Y K : Nat → Nat → Int) (N : Nat) (a b c d x y : Int) : traceE (tameL n X Y K N).length (ptLen (tameL n X Y K N)) (ptXX (tameL n X Y K N)) (ptYY (tameL n X Y K N)) (ptKK (tameL n X Y K N)) (tameM a b c d x y) = 0 := by
  have hx := nearV_rng x 4095 (by omega)
  have hy := nearV_rng y 4095 (by omega)
  obtain ⟨hf, hm⟩ := tame_map (x := nearV x 4095) (y := nearV y 4095) (nearV_rng a 2047 (by omega)) (nearV_rng b 2047 (by omega)) (nearV_rng c 2047 (by omega)) (nearV_rng d 2047 (by omega)) (by omega) (by omega)
  exact tame_ok (B := 2047) (tmO_len _ _ _ _ _ _) (fun j hj => tameL_facts n X Y K N hj) (by omega) hf hm
theorem tame_pos (n : Nat → Nat) (X Y K : Nat → Nat → Int) (N : Nat) (a b c d x y : Int) {j : Nat} (hj : j < (tameL n X Y K N).length) : 0 < (traceL (ptLen (tameL n X Y K N)) (ptXX (tameL n X Y K N)) (ptYY (tameL n X Y K N)) (ptKK (tameL n X Y K N)) (tameM a b c d x y) j).length :=
  trace_pos (tame_trace n X Y K N a b c d x y) (fun _ hj => ⟨(tameL_facts n X Y K N hj).1, kok_bad (tameL_facts n X Y K N hj).2.2.1⟩) hj
theorem outF_one (F : Int → Int → Int → Int → Int) (R : Nat → List (Int × Int)) (r : Nat) : Num.outF F R (r + 1) = Num.outF F R r + Num.ringF F (R r) := rfl
theorem crossF_bd (l : List (Int × Int)) (i j : Int) (k : Nat) : -(k : Int) ≤ Num.sumZ (Num.chF (Num.chX i j) l) k ∧ Num.sumZ (Num.chF (Num.chX i j) l) k ≤ (k : Int) := by
  have h := Num.sumZ_bd (f := Num.chF (Num.chX i j) l) (B := 1) k (fun q _ => Num.cross_bd _ _ _ _ _ _)
  omega
theorem crossO_bd (R : Nat → List (Int × Int)) (i j : Int) {m : Nat} (h : ∀ q, q < m → (R q).length ≤ 44400) (r : Nat) (hr : r ≤ m) : -(44400 * (r : Int)) ≤ Num.outF (Num.chX i j) R r ∧ Num.outF (Num.chX i j) R r ≤ 44400 * (r : Int) :=
  Num.sumZ_bd (f := fun q => Num.ringF (Num.chX i j) (R q)) (B := 44400) r (fun q hq => by
    have h1 := crossF_bd (R q) i j (R q).length
    have h2 := h q (by omega)
    unfold Num.ringF
    omega)
theorem inS_of {R : List (Int × Int)} (h : ∀ p ∈ R, Num.inB p.1 p.2 = true) {k : Nat} (hk : k < R.length) : InS R[k].1 R[k].2 := Num.inB_yes (h _ (List.getElem_mem hk))

end Go.Proofs.Ytkhcjkmifddlbab
