/- Joined: CvX, Kp, OkV, ClsV, ClsW, ClsX, BoxV, Bx. -/
import Derived.Test.YtkhcjkmifddlbaaPart8
import Derived.Test.YtkhcjkmifddlbaaPart3
import Derived.Test.YtkhcjkmifddlbaaPart7
/- CvX -/
namespace Go.Proofs.Ytkhcjkmifddlbaa
open Go.RowKit Go.Deep

theorem info_u8 : (Try.prog.info? 5).map (fun i => (i.zero, i.size, i.bytes)) = some (some (.int .u8 0), 1, 1) := by kernel_rfl
/-- The first k bytes of a part of a columns. -/
def pixL (A : Nat → Nat → Int) (x y a k : Nat) : List Int := (List.range k).map fun q => byteV (A (x + q % a) (y + q / a))
def u8C (l : List Int) : List Value := l.map (Value.int .u8)
theorem pixL_succ (A : Nat → Nat → Int) (x y a k : Nat) : pixL A x y a (k + 1) = pixL A x y a k ++ [byteV (A (x + k % a) (y + k / a))] := by
  unfold pixL; rw [List.range_succ, List.map_append]; rfl
theorem u8C_snoc (l : List Int) (z : Int) : u8C (l ++ [z]) = u8C l ++ [.int .u8 z] := by simp [u8C]
theorem pixL_len (A : Nat → Nat → Int) (x y a k : Nat) : (pixL A x y a k).length = k := by simp [pixL]
def gr3 (a b : Int) (v : Value) (q : Nat) : Value := [Value.int .i64 a, .int .i64 b, v][q]?.getD undef
theorem gr3_row (a b : Int) (v : Value) (w : World) (t : TypeId) : (w.alloc (.cells #[.int .i64 a, .int .i64 b, v] t)).rowIs w.heap.size t 3 (gr3 a b v) := by
  refine World.rowIs_alloc w #[.int .i64 a, .int .i64 b, v] t (gr3 a b v) (fun i hi => ?_)
  have hi : i < 3 := hi
  rcases (show i = 0 ∨ i = 1 ∨ i = 2 by omega) with rfl | rfl | rfl <;> rfl
theorem gr3_cells {w : World} {p : Nat} {t : TypeId} {a b : Int} {v : Value} (h : w.rowIs p t 3 (gr3 a b v)) : w.cell? ⟨p, 0, none⟩ = some (.int .i64 a) ∧ w.cell? ⟨p, 1, none⟩ = some (.int .i64 b) ∧ w.cell? ⟨p, 2, none⟩ = some v :=
  ⟨h.cell (i := 0) (by omega), h.cell (i := 1) (by omega), h.cell (i := 2) (by omega)⟩
theorem gr3_set {w : World} {p : Nat} {t : TypeId} {f : Nat → Value} (h : w.rowIs p t 3 f) (a b : Int) (v : Value) : (((w.setCell ⟨p, 0, none⟩ (.int .i64 a)).setCell ⟨p, 1, none⟩ (.int .i64 b)).setCell ⟨p, 2, none⟩ v).rowIs p t 3 (gr3 a b v) := by
  refine (((h.set 0 _).set 1 _).set 2 _).congr fun q hq => ?_
  rcases (show q = 0 ∨ q = 1 ∨ q = 2 by omega) with rfl | rfl | rfl <;> rfl

set_option maxRecDepth 100000 in
set_option maxHeartbeats 4000000 in
theorem canvasGray_any (bk W H tk x y a b : Nat) (tt : TypeId) (A : Nat → Nat → Int) (P st : Int) (S : Nat → Prop) (w : World) (hC : Cnv w bk tt W H tk A P S st) (hW : 1 ≤ W ∧ W ≤ 64) (hH : 1 ≤ H ∧ H ≤ 64) (hP : P ≤ 140737488355328)
    (ha : 1 ≤ a ∧ x + a ≤ W) (hb : 1 ≤ b ∧ y + b ≤ H) (hA : ∀ i j, i < W → j < H → -9000000000000000000 ≤ A i j ∧ A i j ≤ 9000000000000000000) :
    Calls Try.prog 111 #[.pointer (some ⟨bk, 0, none⟩), .int .i64 x, .int .i64 y, .int .i64 a, .int .i64 b] w fun e w' => ∃ v, e = .returned (.tuple #[.agg #[.int .i64 a, .int .i64 b, v], .int .i64 0]) ∧ Below w.heap.size w w' ∧ w'.ownsRow w.heap.size 5 1 v (a * b) (u8C (pixL A x y a (a * b))) := by
  obtain ⟨i0, hi0, hz0, hz1, hz2⟩ := info_parts info_u8
  have HC := hide hC
  have p1 : partB (x : Int) (a : Int) (W : Int) = true := by simp [partB]; omega
  have p2 : partB (y : Int) (b : Int) (H : Int) = true := by simp [partB]; omega
  obtain ⟨k0, k1, k2, k3, hbl⟩ := hC.cells
  have HA := hide hA
  have HZ := hide (gr3_row 0 0 (.slice none 0 0) w 90)
  clear hC hA
  go_enter Try.func111, Try.ntmps111
  go_wp2_with (go_at_call 140; refine (isPart_any _ _ _ _ (by omega)).mono ?_; rintro e w' ⟨rfl, rfl⟩)
  obtain ⟨sb, hsb⟩ : ∃ sb, sb = w.heap.size := ⟨_, rfl⟩
  obtain ⟨W1, hW1⟩ : ∃ W1, W1 = w.alloc (.cells #[.int .i64 0, .int .i64 0, .slice none 0 0] 90) := ⟨_, rfl⟩
  have hs1 : W1.heap.size = sb + 1 := by rw [hW1, hsb]; simp
  have HB1 : Hid (Below w.heap.size w W1) := by unfold Hid; rw [hW1]; exact (Below.refl _ _).alloc (Nat.le_refl _) _
  rw [← hW1, ← hsb] at HZ
  rw [← hW1]
  try rw [← hsb]
  have HC1 := hide (HC.out.below HB1.out)
  have HSb : Hid (sb = w.heap.size) := hsb
  clear hW1 hsb HC k0 k1 k2 k3
  go_loopw [12, 13] (fun v t wr => ∃ j : Nat, j ≤ b ∧ t = .int .i64 j ∧ Below (sb + 1) W1 wr ∧ wr.ownsRow (sb + 1) 5 1 v (j * a) (u8C (pixL A x y a (j * a)))) (fun _ t _ => b - (intOf t).toNat)
  case atStart => exact ⟨0, by omega, rfl, Below.refl _ _, by simp [pixL, u8C]; exact World.ownsRow_nil _ _ _ _⟩
  case round =>
    obtain ⟨wo, rfl⟩ : ∃ wo, wo = wr := ⟨_, rfl⟩
    obtain ⟨vo, rfl⟩ : ∃ vo, vo = u12 := ⟨_, rfl⟩
    obtain ⟨j, hj, rfl, hbo, howno⟩ := hrel
    by_cases hlt : j < b
    · have hd1 : decide ((j : Int) < (b : Int)) = true := by simp; omega
      have hmj : j * a + a ≤ a * b := by rw [Nat.mul_comm a b]; exact Num.mul_lt_row hlt
      have hab : a * b ≤ 64 * 64 := Nat.mul_le_mul (show a ≤ 64 by omega) (show b ≤ 64 by omega)
      obtain ⟨ja, hja⟩ : ∃ ja, ja = j * a := ⟨_, rfl⟩
      rw [← hja] at howno hmj
      have HJA := hide hja
      have HOo := hide howno
      have HBo := hide hbo
      clear howno hbo hja
      go_wp2_with fail
      go_loopw [12, 14] (fun v t wr => ∃ i : Nat, i ≤ a ∧ t = .int .i64 i ∧ Below (sb + 1) W1 wr ∧ wr.ownsRow (sb + 1) 5 1 v (ja + i) (u8C (pixL A x y a (ja + i)))) (fun _ t _ => a - (intOf t).toNat)
      case atStart => exact ⟨0, by omega, rfl, HBo.out, HOo.out⟩
      case round =>
        obtain ⟨v, rfl⟩ : ∃ v, v = u12 := ⟨_, rfl⟩
        obtain ⟨i, hi, rfl, hb1, hown⟩ := hrel
        have hsz := hb1.size
        by_cases hli : i < a
        · have hdi : decide ((i : Int) < (a : Int)) = true := by simp; omega
          have HCall := hide (areaOf_any bk W H tk (x + i) (y + j) tt A P st S wr (HC1.out.below (hb1.mono (by omega))) hW hH (by omega) (by omega) hP)
          rw [show ((x + i : Nat) : Int) = (x : Int) + (i : Int) by omega, show ((y + j : Nat) : Int) = (y : Int) + (j : Int) by omega] at HCall
          obtain ⟨b1, b2⟩ := HA.out (x + i) (y + j) (by omega) (by omega)
          have HSu := hide (pixL_succ A x y a (ja + i))
          have hmod : (ja + i) % a = i := by rw [HJA.out, Nat.mul_comm j a, Nat.mul_add_mod, Nat.mod_eq_of_lt hli]
          have hdiv : (ja + i) / a = j := by rw [HJA.out, Nat.mul_comm j a, Nat.mul_add_div (by omega), Nat.div_eq_of_lt hli, Nat.add_zero]
          rw [hmod, hdiv] at HSu
          obtain ⟨z, hz⟩ : ∃ z, z = A (x + i) (y + j) := ⟨_, rfl⟩
          rw [← hz] at HCall b1 b2 HSu
          obtain ⟨L, hL⟩ : ∃ L, L = u8C (pixL A x y a (ja + i)) := ⟨_, rfl⟩
          rw [← hL] at hown
          have HLs : Hid (u8C (pixL A x y a (ja + i + 1)) = L ++ [.int .u8 (byteV z)]) := by unfold Hid; rw [HSu.out, u8C_snoc, hL]
          have HOw := hide hown
          have HBw := hide hb1
          clear hmod hdiv hz hL hown hb1
          go_wp2_with fail
          refine HCall.out.mono ?_
          rintro e w2 ⟨rfl, hb2⟩
          have hs2 := hb2.size
          have hB2 : Below (sb + 1) W1 w2 := HBw.out.trans (hb2.mono (by omega))
          have hown2 := owns_of_block HOw.out (fun q hq => hb2.block q (HOw.out.lt q hq).2)
          clear hb2 HOw HBw HCall
          go_wp2_with fail
          refine (byteOf_any _ _ b1 b2).mono ?_
          rintro e w3 ⟨rfl, hw3⟩
          rw [hw3]
          clear hw3
          go_wp2_with (at_builtin; refine wpList_append_lies _ rfl _ _ 88 rfl (sb + 1) 5 i0 (.int .u8 0) 1 1 Try.underlying88 hi0 hz0 hz1 hz2 rfl (by omega) v (ja + i) L rfl (hown2.alloc _) ⟨w2.heap.size, 0, none⟩ 1 1 [.int .u8 (byteV z)] rfl rfl ?a1 ?a2 (by omega) ?a3 ?a4 ?a5 (w2.heap.size + 1) (by simp) ?_)
          try (case a1 => exact news_new w2 [.int .u8 (byteV z)] _ _ rfl)
          case a2 => first | rfl | (intro u hu; simp at hu; subst hu; rfl)
          case a3 => unfold maxLen; omega
          case a4 => omega
          case a5 => first | omega | (simp; omega)
          intro g cap w4 hown4 hgrow hat hlt4
          have hb4 : Below (sb + 1) W1 w4 := (hB2.alloc (by omega) _).grown hgrow (by simp; omega) (fun q hq => (hown2.lt q hq).1)
          have HO4 : Hid (w4.ownsRow (sb + 1) 5 1 (.slice (some ⟨g, 0, none⟩) (ja + i + 1) cap) (ja + (i + 1)) (u8C (pixL A x y a (ja + (i + 1))))) := by
            unfold Hid
            rw [← Nat.add_assoc, HLs.out]
            exact hown4
          clear hown4 hgrow hat hown2 hB2
          go_wp2
          go_roundw
          case rel => exact ⟨i + 1, by omega, by go_num, hb4, HO4.out⟩
          case measure => simp [intOf]; omega
        · have e : i = a := by omega
          have hdi : decide ((i : Int) < (a : Int)) = false := by simp; omega
          have HO : Hid (wr.ownsRow (sb + 1) 5 1 v ((j + 1) * a) (u8C (pixL A x y a ((j + 1) * a)))) := by
            unfold Hid
            rw [e, HJA.out, ← Nat.succ_mul] at hown
            exact hown
          have HB := hide hb1
          clear hown hb1
          go_wp2
          go_roundw
          case rel => exact ⟨j + 1, by omega, by go_num, HB.out, HO.out⟩
          case measure => simp [intOf]; omega
    · have e : j = b := by omega
      have hd0 : decide ((j : Int) < (b : Int)) = false := by simp; omega
      have HO : Hid (wo.ownsRow w.heap.size 5 1 vo (a * b) (u8C (pixL A x y a (a * b)))) := by
        unfold Hid
        rw [e, Nat.mul_comm b a] at howno
        exact owns_mono howno (by rw [← HSb.out]; omega)
      have hZ2 := row_below HZ.out hbo (by omega)
      obtain ⟨z0, z1, z2⟩ := gr3_cells hZ2
      have f0 := hZ2.frozen 0
      have f1 := hZ2.frozen 1
      have f2 := hZ2.frozen 2
      have hsl := hZ2.lt
      obtain ⟨ao, cap0, hv, _⟩ := owns_formN HO.out
      have HR := hide (gr3_set hZ2 a b vo)
      have hB : Below w.heap.size w wo := HB1.out.trans (hbo.mono (by rw [← HSb.out]; omega))
      have HB : Hid (Below w.heap.size w (((wo.setCell ⟨sb, 0, none⟩ (.int .i64 a)).setCell ⟨sb, 1, none⟩ (.int .i64 b)).setCell ⟨sb, 2, none⟩ vo)) := ((hB.setCell (p := ⟨sb, 0, none⟩) (by rw [← HSb.out]; exact Nat.le_refl _) _).setCell (p := ⟨sb, 1, none⟩) (by rw [← HSb.out]; exact Nat.le_refl _) _).setCell (p := ⟨sb, 2, none⟩) (by rw [← HSb.out]; exact Nat.le_refl _) _
      have HOF : Hid ((((wo.setCell ⟨sb, 0, none⟩ (.int .i64 a)).setCell ⟨sb, 1, none⟩ (.int .i64 b)).setCell ⟨sb, 2, none⟩ vo).ownsRow w.heap.size 5 1 vo (a * b) (u8C (pixL A x y a (a * b)))) := by
        refine owns_of_block HO.out (fun q hq => ?_)
        have hq1 := (howno.lt q hq).1
        have hne : q ≠ sb := by omega
        rw [set_otherB hne, set_otherB hne, set_otherB hne]
      subst hv
      clear howno hbo hZ2 hB HO
      go_wp2
      obtain ⟨wF, hwF⟩ : ∃ wF, wF = ((wo.setCell ⟨sb, 0, none⟩ (.int .i64 a)).setCell ⟨sb, 1, none⟩ (.int .i64 b)).setCell ⟨sb, 2, none⟩ (.slice ao (a * b) cap0) := ⟨_, rfl⟩
      rw [← hwF]
      rw [← hwF] at HR HB HOF
      obtain ⟨g0, g1, g2⟩ := gr3_cells HR.out
      exact bodyPost_ret (v := .tuple #[.agg #[.int .i64 a, .int .i64 b, .slice ao (a * b) cap0], .int .i64 0]) (by simp [results, Try.results111, go_sem, g0, g1, g2]) rfl ⟨_, rfl, HB.out, HOF.out⟩

set_option maxRecDepth 100000 in
set_option maxHeartbeats 2000000 in
theorem glyphGray_any (bk W H tk x y a b : Nat) (tt : TypeId) (A : Nat → Nat → Int) (P st : Int) (S : Nat → Prop) (w : World) (hC : Cnv w bk tt W H tk A P S st) (hW : 1 ≤ W ∧ W ≤ 64) (hH : 1 ≤ H ∧ H ≤ 64) (hP : P ≤ 140737488355328)
    (ha : 1 ≤ a ∧ x + a ≤ W) (hb : 1 ≤ b ∧ y + b ≤ H) (hA : ∀ i j, i < W → j < H → -9000000000000000000 ≤ A i j ∧ A i j ≤ 9000000000000000000) :
    Calls Try.prog 74 #[.pointer (some ⟨bk, 0, none⟩), .int .i64 x, .int .i64 y, .int .i64 a, .int .i64 b] w fun e w' => ∃ v, e = .returned (.tuple #[.agg #[.int .i64 a, .int .i64 b, v], .int .i64 0]) ∧ Below w.heap.size w w' ∧ w'.ownsRow w.heap.size 5 1 v (a * b) (u8C (pixL A x y a (a * b))) := by
  have hB0 : Hid (Below w.heap.size w (w.alloc (.cells #[.int .i64 0, .int .i64 0, .slice none 0 0] 90))) := (Below.refl _ _).alloc (Nat.le_refl _) _
  have HCall := hide (canvasGray_any bk W H tk x y a b tt A P st S _ (hC.below hB0.out) hW hH hP ha hb hA)
  have HZ := hide (gr3_row 0 0 (.slice none 0 0) w 90)
  have hbl := hC.cells.2.2.2.2
  clear hC hA
  go_enter Try.func74, Try.ntmps74
  go_wp2_with fail
  refine HCall.out.mono ?_
  rintro e w1 ⟨v, rfl, hb1, hown⟩
  have hs1 := hb1.size
  rw [nblk_alloc] at hs1
  have hZ2 := row_below HZ.out hb1 (by simp)
  obtain ⟨z0, z1, z2⟩ := gr3_cells hZ2
  have f0 := hZ2.frozen 0
  have f1 := hZ2.frozen 1
  have f2 := hZ2.frozen 2
  have hsl : w.heap.size < w1.heap.size := by omega
  obtain ⟨ao, cap0, hv, _⟩ := owns_formN hown
  have HR := hide (gr3_set hZ2 a b v)
  have hB : Below w.heap.size w w1 := hB0.out.trans (hb1.mono (by simp))
  have HB : Hid (Below w.heap.size w (((w1.setCell ⟨w.heap.size, 0, none⟩ (.int .i64 a)).setCell ⟨w.heap.size, 1, none⟩ (.int .i64 b)).setCell ⟨w.heap.size, 2, none⟩ v)) := ((hB.setCell (p := ⟨w.heap.size, 0, none⟩) (Nat.le_refl _) _).setCell (p := ⟨w.heap.size, 1, none⟩) (Nat.le_refl _) _).setCell (p := ⟨w.heap.size, 2, none⟩) (Nat.le_refl _) _
  have HOF : Hid ((((w1.setCell ⟨w.heap.size, 0, none⟩ (.int .i64 a)).setCell ⟨w.heap.size, 1, none⟩ (.int .i64 b)).setCell ⟨w.heap.size, 2, none⟩ v).ownsRow w.heap.size 5 1 v (a * b) (u8C (pixL A x y a (a * b)))) := by
    refine owns_mono (owns_of_block hown (fun q hq => ?_)) (by simp)
    have hq1 := (hown.lt q hq).1
    have hne : q ≠ w.heap.size := by simp at hq1; omega
    rw [set_otherB hne, set_otherB hne, set_otherB hne]
  subst hv
  clear hown hb1 hZ2 hB HCall
  go_wp2
  obtain ⟨wF, hwF⟩ : ∃ wF, wF = ((w1.setCell ⟨w.heap.size, 0, none⟩ (.int .i64 a)).setCell ⟨w.heap.size, 1, none⟩ (.int .i64 b)).setCell ⟨w.heap.size, 2, none⟩ (.slice ao (a * b) cap0) := ⟨_, rfl⟩
  rw [← hwF]
  rw [← hwF] at HR HB HOF
  obtain ⟨g0, g1, g2⟩ := gr3_cells HR.out
  exact bodyPost_ret (v := .tuple #[.agg #[.int .i64 a, .int .i64 b, .slice ao (a * b) cap0], .int .i64 0]) (by simp [results, Try.results74, go_sem, g0, g1, g2]) rfl ⟨_, rfl, HB.out, HOF.out⟩
end Go.Proofs.Ytkhcjkmifddlbaa

/- Kp -/
namespace Go.Proofs.Ytkhcjkmifddlbaa
open Go.RowKit Go.Deep

def pickV (c n : Int) : Int := (if c < 0 then -(c + 1) else c).tmod n
theorem pickV_rng (c n : Int) (hn : 0 < n) : 0 ≤ pickV c n ∧ pickV c n < n := by
  unfold pickV
  split
  · exact ⟨Int.tmod_nonneg _ (by omega), Int.tmod_lt_of_pos _ hn⟩
  · exact ⟨Int.tmod_nonneg _ (by omega), Int.tmod_lt_of_pos _ hn⟩
set_option maxHeartbeats 400000 in
theorem pick_any (c n : Int) (w : World) (h1 : -9223372036854775808 ≤ c) (h2 : c ≤ 9223372036854775807) (hn : 1 ≤ n ∧ n ≤ 4294967296) :
    Calls Try.prog 21 #[.int .i64 c, .int .i64 n] w fun e w' => e = .returned (.int .i64 (pickV c n)) ∧ w' = w := by
  by_cases h : c < 0
  · have HE : Hid (pickV c n = (-(c + 1)).tmod n) := by unfold Hid pickV; rw [if_pos h]
    have r := pickV_rng c n (by omega)
    rw [HE.out] at r
    go_enter Try.func21, Try.ntmps21
    go_wp2
    go_ret
    exact ⟨ret_int (by rw [HE.out]; first | rfl | rw [Int.neg_tmod] | (rw [Int.tmod_eq_emod_of_nonneg (by omega)])), rfl⟩
  · have HE : Hid (pickV c n = c.tmod n) := by unfold Hid pickV; rw [if_neg h]
    have r := pickV_rng c n (by omega)
    rw [HE.out] at r
    go_enter Try.func21, Try.ntmps21
    go_wp2
    go_ret
    exact ⟨ret_int (by rw [HE.out]; first | rfl | rw [Int.neg_tmod] | (rw [Int.tmod_eq_emod_of_nonneg (by omega)])), rfl⟩
def nearV (c m : Int) : Int := c.tmod (m + 1)
theorem nearV_rng (c m : Int) (hm : 0 ≤ m) : -m ≤ nearV c m ∧ nearV c m ≤ m := by
  unfold nearV
  obtain ⟨_, h1, h2, _⟩ := Num.tdiv_facts c (m + 1) (by omega)
  omega
set_option maxHeartbeats 400000 in
theorem knear_any (c m : Int) (w : World) (hm : 1 ≤ m ∧ m ≤ 4294967296) :
    Calls Try.prog 20 #[.int .i64 c, .int .i64 m] w fun e w' => e = .returned (.int .i64 (nearV c m)) ∧ w' = w := by
  have r := nearV_rng c m (by omega)
  unfold nearV at r ⊢
  go_enter Try.func20, Try.ntmps20
  go_wp2
  go_ret
  exact ⟨rfl, rfl⟩
def windowN (c : Int) : Nat := (pickV c 64 + 1).toNat
theorem windowN_rng (c : Int) : (1 ≤ windowN c ∧ windowN c ≤ 64) ∧ ((windowN c : Nat) : Int) = pickV c 64 + 1 := by
  have := pickV_rng c 64 (by omega)
  unfold windowN
  omega
set_option maxHeartbeats 400000 in
theorem window_any (c : Int) (w : World) (h1 : -9223372036854775808 ≤ c) (h2 : c ≤ 9223372036854775807) :
    Calls Try.prog 25 #[.int .i64 c] w fun e w' => e = .returned (.int .i64 (windowN c)) ∧ w' = w := by
  have r := pickV_rng c 64 (by omega)
  have HE := hide (windowN_rng c).2
  go_enter Try.func25, Try.ntmps25
  go_wp2_with (go_at_call 21; refine (pick_any _ _ _ (by omega) (by omega) (by omega)).mono ?_; rintro e w' ⟨rfl, rfl⟩)
  go_ret
  exact ⟨ret_int (by rw [HE.out]), rfl⟩
set_option maxHeartbeats 400000 in
theorem ksize_any (n : Int) (w : World) (h1 : -9000000000000000000 ≤ n) (h2 : n ≤ 9000000000000000000) :
    Calls Try.prog 70 #[.int .i64 n] w fun e w' => e = .returned (.int .i64 (Num.sz n)) ∧ w' = w := by
  by_cases a : n < 0
  · go_enter Try.func70, Try.ntmps70
    go_wp2
    go_ret
    exact ⟨ret_int (by unfold Num.sz; rw [if_pos (by omega)]), rfl⟩
  · go_enter Try.func70, Try.ntmps70
    go_wp2
    go_ret
    exact ⟨ret_int (by unfold Num.sz; rw [if_neg (by omega)]), rfl⟩
set_option maxHeartbeats 400000 in
theorem kleast_any (a b : Int) (w : World) :
    Calls Try.prog 77 #[.int .i64 a, .int .i64 b] w fun e w' => e = .returned (.int .i64 (Num.lsV a b)) ∧ w' = w := by
  by_cases h : a < b
  · go_enter Try.func77, Try.ntmps77
    go_wp2
    go_ret
    exact ⟨ret_int (by unfold Num.lsV; rw [if_pos (by omega)]), rfl⟩
  · go_enter Try.func77, Try.ntmps77
    go_wp2
    go_ret
    exact ⟨ret_int (by unfold Num.lsV; rw [if_neg (by omega)]), rfl⟩
theorem shade_eq (a : Int) : byteV a = (255 * Num.lsV (Num.sz a) 8192 + 4096) / 8192 := by
  unfold byteV Num.hu
  omega
set_option maxHeartbeats 400000 in
theorem shade_any (a : Int) (w : World) (h1 : -9000000000000000000 ≤ a) (h2 : a ≤ 9000000000000000000) :
    Calls Try.prog 42 #[.int .i64 a] w fun e w' => e = .returned (.int .u8 (byteV a)) ∧ w' = w := by
  have z1 := Num.sz_nn a
  have z2 := Num.ls_le (Num.sz a) 8192
  have z3 := Num.ls_or (Num.sz a) 8192
  have HE := hide (shade_eq a)
  have z4 := byteV_bd a
  rw [HE.out] at z4
  go_enter Try.func42, Try.ntmps42
  go_wp2_with (first | (go_at_call 70; refine (ksize_any _ _ (by omega) (by omega)).mono ?_; rintro e w' ⟨rfl, rfl⟩) | (go_at_call 77; refine (kleast_any _ _ _).mono ?_; rintro e w' ⟨rfl, rfl⟩))
  go_ret
  rw [HE.out]
  exact ⟨rfl, rfl⟩
set_option maxHeartbeats 400000 in
theorem plain_any (x y : Int) (w : World) :
    Calls Try.prog 29 #[.int .i64 x, .int .i64 y] w fun e w' => e = .returned (.agg #[.int .i64 1024, .int .i64 0, .int .i64 0, .int .i64 1024, .int .i64 x, .int .i64 y]) ∧ Below w.heap.size w w' := by
  go_enter Try.func29, Try.ntmps29
  go_wp2
  refine bodyPost_ret (v := .agg #[.int .i64 1024, .int .i64 0, .int .i64 0, .int .i64 1024, .int .i64 x, .int .i64 y]) (by simp [results, Try.results29, go_sem]) rfl ⟨rfl, ?_⟩
  (repeat (any_goals (first | exact Below.refl _ _ | assumption | refine Below.drew ?_ | refine below_drewN ?_ _ | refine Below.setCell ?_ ?_ _ | refine Below.alloc ?_ ?_ _ | omega | (simp; done) | (simp; omega))))

set_option maxRecDepth 100000 in
set_option maxHeartbeats 2000000 in
theorem laid_any (W H : Nat) (st : Int) (ad : Option Addr) (N cc : Nat) (AA : Nat → Option Addr) (C n : Nat → Nat) (X Y K : Nat → Nat → Int) (a b c d x y : Int) (w : World) (hW : 1 ≤ W ∧ W ≤ 64) (hH : 1 ≤ H ∧ H ≤ 64) (hst : st = 0 ∨ st = 1)
    (hN : N ≤ 4294967296) (hn : ∀ i, i < N → n i ≤ 4294967296) (ho : OutAt w ad N AA C n X Y K) (hE : traceE N n X Y K ⟨a, b, c, d, x, y⟩ = 0) :
    Calls Try.prog 28 #[.slice ad N cc, .agg #[.int .i64 a, .int .i64 b, .int .i64 c, .int .i64 d, .int .i64 x, .int .i64 y], .int .i64 W, .int .i64 H, .int .i64 st] w fun e w' => ∃ bk S, e = .returned (.tuple #[.pointer (some ⟨bk, 0, none⟩), .bool true]) ∧ Below w.heap.size w w' ∧
      Cnv w' bk 149 W H 1 (fun i j => Num.areaV (traceL n X Y K ⟨a, b, c, d, x, y⟩) N i j) 781440000000 S st ∧ ∀ q, S q → w.heap.size ≤ q := by
  have hB0 : Hid (Below w.heap.size w (w.alloc (.cells #[.int .i64 a, .int .i64 b, .int .i64 c, .int .i64 d, .int .i64 x, .int .i64 y] 39))) := (Below.refl _ _).alloc (Nat.le_refl _) _
  have HNew := hide (fun w' => glyphNew_any W H st w' hW hH hst)
  have HMr := hide (mp6_row a b c d x y w 39)
  have HO := hide (ho.below hB0.out)
  have HN := hide hn
  have HE := hide hE
  clear ho hn hE
  go_enter Try.func28, Try.ntmps28
  go_wp2_with fail
  refine (HNew.out _).mono ?_
  rintro e w1 ⟨bk, S, rfl, hb1, hC1, hS1⟩
  have hs1 := hb1.size
  rw [nblk_alloc] at hs1
  have hMr1 := row_below HMr.out hb1 (by simp)
  obtain ⟨d0, d1, d2, d3, d4, d5⟩ := mp6_cells hMr1
  have hl0 : layE (traceE N n X Y K ⟨a, b, c, d, x, y⟩) 0 = 0 := by rw [HE.out]; rfl
  have HAdd := hide (glyphAdd_any bk W H 0 149 _ st S ad N cc AA C n X Y K a b c d x y w1 (by simpa using hC1) hW hH (by omega) hN HN.out (HO.out.below hb1))
  rw [hl0] at HAdd
  have hB1 : Below w.heap.size w w1 := hB0.out.trans (hb1.mono (by simp))
  have HS1 := hide hS1
  have HB1 := hide hB1
  clear hb1 hC1 hS1 hMr1 hB1 HNew hl0
  go_wp2_with fail
  refine HAdd.out.mono ?_
  rintro e w2 ⟨rfl, hT2, _, h2⟩
  obtain ⟨S2, hC2, hS2⟩ := h2 (by trivial)
  have HC2 : Hid (Cnv w2 bk 149 W H 1 (fun i j => Num.areaV (traceL n X Y K ⟨a, b, c, d, x, y⟩) N i j) 781440000000 S2 st) := hC2.mono (fun i j _ _ => by omega) (by simp)
  have HB2 : Hid (Below w.heap.size w w2) := HB1.out.trans (hT2.below (by omega) (fun q hq => by have := HS1.out q hq; simp at this; omega))
  have HS2 : Hid (∀ q, S2 q → w.heap.size ≤ q) := fun q hq => by
    rcases hS2 q hq with h | h
    · have := HS1.out q h; simp at this; omega
    · omega
  clear hT2 h2 hC2 hS2 HAdd
  go_wp2
  go_ret2
  exact ⟨bk, S2, rfl, HB2.out, HC2.out, HS2.out⟩

set_option maxRecDepth 100000 in
set_option maxHeartbeats 2000000 in
theorem holds_any (bk W H tk i j : Nat) (tt : TypeId) (A : Nat → Nat → Int) (P st : Int) (S : Nat → Prop) (w : World) (hC : Cnv w bk tt W H tk A P S st) (hW : 1 ≤ W ∧ W ≤ 64) (hH : 1 ≤ H ∧ H ≤ 64) (hP : P ≤ 140737488355328) (hi : i < W) (hj : j < H)
    (hA : ∀ i j, i < W → j < H → -9000000000000000000 ≤ A i j ∧ A i j ≤ 9000000000000000000) :
    Calls Try.prog 30 #[.pointer (some ⟨bk, 0, none⟩), .int .i64 i, .int .i64 j, .int .i64 (A i j)] w fun e w' => e = .returned (.bool true) ∧ Below w.heap.size w w' := by
  have h1 : areaN W H A i j = A i j := by unfold areaN; rw [if_pos (by omega)]; simp
  have h2 : areaE W H i j = 0 := by unfold areaE; rw [if_pos (by omega)]
  have HAr := hide (glyphArea_any bk W H tk tt A P st i j S w hC hW hH hP)
  rw [h1, h2] at HAr
  have HGr := hide (fun w' (hb : Below w.heap.size w w') => glyphGray_any bk W H tk i j 1 1 tt A P st S w' (hC.below hb) hW hH hP (by omega) (by omega) hA)
  have hbd := hA i j hi hj
  have HPx : Hid (u8C (pixL A i j 1 (1 * 1)) = [.int .u8 (byteV (A i j))]) := by simp [Hid, pixL, u8C]
  obtain ⟨z, hz⟩ : ∃ z, z = A i j := ⟨_, rfl⟩
  rw [← hz] at HAr HPx hbd ⊢
  have HShade := hide (fun w' => shade_any z w' hbd.1 hbd.2)
  clear hC hA h1 h2 hz
  go_enter Try.func30, Try.ntmps30
  go_wp2_with fail
  refine HAr.out.mono ?_
  rintro e w1 ⟨rfl, hb1⟩
  have hs1 := hb1.size
  have HCall := hide (HGr.out w1 hb1)
  have HB1 := hide hb1
  clear hb1 HAr
  go_wp2_with fail
  refine HCall.out.mono ?_
  rintro e w2 ⟨v, rfl, hb2, hown⟩
  have hs2 := hb2.size
  have HB2 := hide (HB1.out.trans (hb2.mono (by omega)))
  rw [HPx.out] at hown
  obtain ⟨g, cap, rfl, hg1, hg2⟩ := hown.form (by omega)
  have c0 := hown.cellAt 0 (by omega)
  simp only [List.getElem?_cons_zero] at c0
  clear hb2 hown HCall
  go_wp2_with (go_at_call 42; refine (HShade.out _).mono ?_; rintro e w' ⟨rfl, rfl⟩)
  all_goals
    go_ret
    exact ⟨rfl, by have := HB2.out; (repeat (any_goals (first | exact Below.refl _ _ | assumption | refine Below.drew ?_ | refine below_drewN ?_ _ | refine Below.setCell ?_ ?_ _ | refine Below.alloc ?_ ?_ _ | omega | (simp; done) | (simp; omega))))⟩
end Go.Proofs.Ytkhcjkmifddlbaa

/- OkV -/
namespace Go.Proofs.Ytkhcjkmifddlbaa
open Go.RowKit Go.Deep

theorem chk_ok {N : Nat} {n : Nat → Nat} {X Y K : Nat → Nat → Int} (h1 : N ≤ 16) (h2 : Num.sumN n N ≤ 200) (h3 : ∀ j, j < N → 2 ≤ n j ∧ ∀ i, i < n j → Num.badB (K j) (n j) i = false)
    (h4 : ∀ j, j < N → ∀ i, i < n j → (-4096 ≤ X j i ∧ X j i ≤ 4096) ∧ -4096 ≤ Y j i ∧ Y j i ≤ 4096) : (Num.chkV N n X Y K).1 = 0 := by
  unfold Num.chkV
  rw [if_neg (by simp [Num.manyB]; omega), Num.firstI_none, Num.firstI_none]
  · rfl
  · intro j hj
    unfold Num.farAt Num.farI
    rw [Num.firstI_none]
    · rfl
    · intro i hi
      have := h4 j hj i hi
      simp [Num.farB, Num.wi]
      omega
  · intro j hj
    unfold Num.shapeAt Num.shapeI
    rw [if_neg (by have := (h3 j hj).1; omega), Num.firstI_none]
    · rfl
    · exact (h3 j hj).2
/-- All numbers of a segment are from -B to B. -/
def SgBd (B : Int) (g : Num.Sg) : Prop := (-B ≤ g.x0 ∧ g.x0 ≤ B) ∧ (-B ≤ g.y0 ∧ g.y0 ≤ B) ∧ (-B ≤ g.x1 ∧ g.x1 ≤ B) ∧ (-B ≤ g.y1 ∧ g.y1 ≤ B) ∧ (-B ≤ g.x2 ∧ g.x2 ≤ B) ∧ (-B ≤ g.y2 ∧ g.y2 ≤ B) ∧ (-B ≤ g.x3 ∧ g.x3 ≤ B) ∧ -B ≤ g.y3 ∧ g.y3 ≤ B
theorem stp_bd {X Y K : Nat → Int} {n t : Nat} {B : Int} {p : Int × Int × Int} (hn : 0 < n) (hX : ∀ i, i < n → (-B ≤ X i ∧ X i ≤ B) ∧ -B ≤ Y i ∧ Y i ≤ B) (h : Num.stp X Y K n t = some p) : (-(2 * B) ≤ p.1 ∧ p.1 ≤ 2 * B) ∧ -(2 * B) ≤ p.2.1 ∧ p.2.1 ≤ 2 * B := by
  have a := hX (t / 2 % n) (Nat.mod_lt _ hn)
  have b := hX ((t / 2 + 1) % n) (Nat.mod_lt _ hn)
  unfold Num.stp at h
  split at h
  · simp at h; subst h; simp only; omega
  · split at h
    · simp at h; subst h; simp only; omega
    · cases h
theorem scan_bd {X Y K : Nat → Int} {n : Nat} {B : Int} (hn : 0 < n) (hX : ∀ i, i < n → (-B ≤ X i ∧ X i ≤ B) ∧ -B ≤ Y i ∧ Y i ≤ B) : ∀ (d k : Nat) (g : Num.Sg) (m : Nat), SgBd (2 * B) g → SgBd (2 * B) (Num.scanR X Y K n d k g m) := by
  intro d
  induction d with
  | zero => intro k g m hg; exact hg
  | succ d ih =>
    intro k g m hg
    unfold Num.scanR
    split
    · exact ih _ _ _ hg
    · rename_i p hp
      have hb := stp_bd hn hX hp
      split
      · unfold SgBd Num.setTo at *; simp only; omega
      · refine ih _ _ _ ?_
        unfold Num.addR
        split <;> (unfold SgBd at *; simp only; omega)
theorem ring_bd {X Y K : Nat → Int} {n : Nat} {B : Int} (hn : 0 < n) (hB : 0 ≤ B) (hX : ∀ i, i < n → (-B ≤ X i ∧ X i ≤ B) ∧ -B ≤ Y i ∧ Y i ≤ B) : ∀ g ∈ Num.refRing X Y K n, SgBd (2 * B) g := by
  intro g hg
  unfold Num.refRing at hg
  rw [List.mem_filterMap] at hg
  obtain ⟨t, _, ht⟩ := hg
  unfold Num.refF at ht
  split at ht
  · simp at ht
    subst ht
    unfold Num.fromV
    refine scan_bd hn hX _ _ _ _ ?_
    have a := hX (t / 2 % n) (Nat.mod_lt _ hn)
    have b := hX ((t / 2 + 1) % n) (Nat.mod_lt _ hn)
    unfold SgBd Num.initS Num.stv
    split <;> (simp only; omega)
  · cases ht
theorem place_ok {a b c d x y s t L D : Int} (hs : -8192 ≤ s ∧ s ≤ 8192) (ht : -8192 ≤ t ∧ t ≤ 8192) (hf : Num.fairB a b c d x y = true) (h1 : -(L * 2048) ≤ a * s + b * t ∧ a * s + b * t ≤ L * 2048) (h2 : -(L * 2048) ≤ c * s + d * t ∧ c * s + d * t ≤ L * 2048) (hx : -D ≤ x ∧ x ≤ D) (hy : -D ≤ y ∧ y ≤ D) (hL : L + D ≤ 16384) :
    Num.placeV a b c d x y s t = (x + Num.hu (a * s + b * t) 2048, y + Num.hu (c * s + d * t) 2048, 0) := by
  have u := Num.hu_between (n := a * s + b * t) (d := 2048) (B := L) (by omega) h1.1 h1.2
  have v := Num.hu_between (n := c * s + d * t) (d := 2048) (B := L) (by omega) h2.1 h2.2
  have w1 : (Num.wi s 8192 && Num.wi t 8192) = true := by simp [Num.wi]; omega
  have w2 : Num.inB (x + Num.hu (a * s + b * t) 2048) (y + Num.hu (c * s + d * t) 2048) = true := Num.inB_of (by omega) (by omega)
  unfold Num.placeV
  rw [if_neg (by rw [w1]; decide), if_neg (by rw [hf]; decide), if_neg (by rw [w2]; decide)]
/-- A map that brings all that is from -B to B in range. -/
def MpOk (B : Int) (m : Num.Mp) : Prop := ∀ s t, -B ≤ s ∧ s ≤ B → -B ≤ t ∧ t ≤ B → Num.pl m s t = (m.x + Num.hu (m.a * s + m.b * t) 2048, m.y + Num.hu (m.c * s + m.d * t) 2048, 0)
theorem put_ok {B : Int} {m : Num.Mp} {g : Num.Sg} (hm : MpOk B m) (hg : SgBd B g) : Num.putOk m g = true := by
  unfold Num.putOk
  rw [hm _ _ hg.1 hg.2.1, hm _ _ hg.2.2.1 hg.2.2.2.1, hm _ _ hg.2.2.2.2.1 hg.2.2.2.2.2.1, hm _ _ hg.2.2.2.2.2.2.1 hg.2.2.2.2.2.2.2]
  rfl
theorem trace_ok {N : Nat} {n : Nat → Nat} {X Y K : Nat → Nat → Int} {m : Num.Mp} {B : Int} (h1 : N ≤ 16) (h2 : Num.sumN n N ≤ 200) (h3 : ∀ j, j < N → 2 ≤ n j ∧ ∀ i, i < n j → Num.badB (K j) (n j) i = false)
    (h4 : ∀ j, j < N → ∀ i, i < n j → (-B ≤ X j i ∧ X j i ≤ B) ∧ -B ≤ Y j i ∧ Y j i ≤ B) (hB : 0 ≤ B ∧ B ≤ 4096) (hf : Num.fairB m.a m.b m.c m.d m.x m.y = true) (hm : MpOk (2 * B) m) : traceE N n X Y K m = 0 := by
  unfold traceE
  rw [if_pos (chk_ok h1 h2 h3 (fun j hj i hi => by have := h4 j hj i hi; omega)), if_neg (by rw [hf]; decide), if_neg]
  rw [traceOk_yes (fun i hi => ?_)]
  · decide
  · unfold Num.ringOk
    rw [List.all_eq_true]
    intro g hg
    exact put_ok hm (ring_bd (by have := (h3 i hi).1; omega) hB.1 (h4 i hi) g hg)
/-- A line's spots but the last. -/
theorem segSp_line {m : Num.Mp} {g : Num.Sg} (hk : g.k = 0) (h : Num.putOk m g = true) : Num.segSp m g = [((Num.pl m g.x0 g.y0).1, (Num.pl m g.x0 g.y0).2.1)] := by
  have hc := Num.put_curve h (.inl hk)
  have hn : Num.curveN (Num.putV m g) = 1 := by
    unfold Num.curveN
    have : Num.needV (Num.putV m g) = 0 := by unfold Num.needV Num.putV; simp [hk]
    rw [this, Num.stepsV_zero (by omega)]; rfl
  unfold Num.segSp Num.curveL
  rw [if_pos hc, hn]
  simp [List.range_succ, Num.spotX, Num.spotY, Num.putV, hk]
/-- The four lines of a contour of four On points. -/
theorem ring4 {X Y K : Nat → Int} (h0 : K 0 = 0) (h1 : K 1 = 0) (h2 : K 2 = 0) (h3 : K 3 = 0) : Num.refRing X Y K 4 =
    [⟨0, 2 * X 0, 2 * Y 0, 0, 0, 0, 0, 2 * X 1, 2 * Y 1⟩, ⟨0, 2 * X 1, 2 * Y 1, 0, 0, 0, 0, 2 * X 2, 2 * Y 2⟩, ⟨0, 2 * X 2, 2 * Y 2, 0, 0, 0, 0, 2 * X 3, 2 * Y 3⟩, ⟨0, 2 * X 3, 2 * Y 3, 0, 0, 0, 0, 2 * X 0, 2 * Y 0⟩] := by
  unfold Num.refRing
  rw [show 2 * 4 = 8 from rfl, show List.range 8 = [0, 1, 2, 3, 4, 5, 6, 7] from rfl]
  simp [Num.refF, Num.onB, Num.stp, Num.fromV, Num.scanR, Num.stv, Num.initS, Num.setTo, h0, h1, h2, h3]
end Go.Proofs.Ytkhcjkmifddlbaa

/- ClsV -/
namespace Go.Proofs.Ytkhcjkmifddlbaa
namespace Num

def clp (v lo hi : Int) : Int := if v < lo then lo else if hi < v then hi else v
/-- The length of the pixel's part to the right of the chord's line, at a height, times the chord's height. -/
def leftV (ax ay bx b2 i y : Int) : Int := clp ((64 * i + 64 - ax) * (b2 - ay) - (y - ay) * (bx - ax)) 0 (64 * (b2 - ay))
theorem left_turn (ax ay bx b2 i y : Int) : leftV ax ay bx b2 i y = clp (turnV ax ay bx b2 (64 * i + 64) y) 0 (64 * (b2 - ay)) := by
  unfold leftV turnV
  rw [Int.mul_comm (64 * i + 64 - ax), Int.mul_comm (y - ay)]
def grK (a b : Int) : Int := if b < a then a else b
def stripL (ax ay bx b2 i t : Int) (k : Nat) : Int := lsV (leftV ax ay bx b2 i (t + k)) (leftV ax ay bx b2 i (t + k + 1))
def stripH (ax ay bx b2 i t : Int) (k : Nat) : Int := gr (leftV ax ay bx b2 i (t + k)) (leftV ax ay bx b2 i (t + k + 1))
def topV (ay j : Int) : Int := gr ay (64 * j)
def botV (b2 j : Int) : Int := lsV b2 (64 * j + 64)
def lowV (ax ay bx b2 i j : Int) : Int := if b2 - ay ≤ 0 then 0 else (sumZ (stripL ax ay bx b2 i (topV ay j)) (botV b2 j - topV ay j).toNat).tdiv (b2 - ay)
def highV (ax ay bx b2 i j : Int) : Int := if b2 - ay ≤ 0 then 0 else (sumZ (stripH ax ay bx b2 i (topV ay j)) (botV b2 j - topV ay j).toNat + (b2 - ay) - 1).tdiv (b2 - ay)
def offV (ax ay bx b2 i j : Int) : Int := if b2 - ay ≤ 0 then 0 else if meetsV ax ay bx b2 i j = true then 64 else 0

/-- Convex: half the area to the right, of a line. -/
def qq (M k : Int) : Int := if k < 0 then 0 else if M < k then 2 * (M * k) - M * M else k * k
theorem qq_lip {M a b : Int} (hM : 0 ≤ M) (h : a ≤ b) : 2 * (clp a 0 M * (b - a)) ≤ qq M b - qq M a ∧ qq M b - qq M a ≤ 2 * (clp b 0 M * (b - a)) := by
  have nn : ∀ {x y : Int}, 0 ≤ x → 0 ≤ y → 0 ≤ x * y := fun h1 h2 => Int.mul_nonneg h1 h2
  unfold qq clp
  by_cases a0 : a < 0
  · rw [if_pos a0, if_pos a0]
    by_cases b0 : b < 0
    · rw [if_pos b0, if_pos b0]; simp
    · rw [if_neg b0, if_neg b0]
      by_cases b1 : M < b
      · rw [if_pos b1, if_pos b1]
        have h1 := nn hM (show 0 ≤ b - M by omega)
        have h2 := nn hM (show 0 ≤ -a by omega)
        have h3 := nn hM hM
        simp only [Int.mul_sub, Int.zero_mul, Int.mul_neg] at h1 h2 ⊢
        omega
      · rw [if_neg b1, if_neg b1]
        have h1 := nn (show 0 ≤ b by omega) (show 0 ≤ b by omega)
        have h2 := nn (show 0 ≤ b by omega) (show 0 ≤ -a by omega)
        simp only [Int.mul_sub, Int.zero_mul, Int.mul_neg] at h2 ⊢
        omega
  · rw [if_neg a0, if_neg a0, if_neg (show ¬ b < 0 by omega), if_neg (show ¬ b < 0 by omega)]
    by_cases a1 : M < a
    · rw [if_pos a1, if_pos a1, if_pos (show M < b by omega), if_pos (show M < b by omega), Int.mul_sub]; omega
    · rw [if_neg a1, if_neg a1]
      by_cases b1 : M < b
      · rw [if_pos b1, if_pos b1]
        have h1 := nn (show 0 ≤ M - a by omega) (show 0 ≤ M - a by omega)
        have h2 := nn (show 0 ≤ M - a by omega) (show 0 ≤ b - M by omega)
        have c1 := Int.mul_comm a M
        simp only [Int.sub_mul, Int.mul_sub] at h1 h2 ⊢
        omega
      · rw [if_neg b1, if_neg b1]
        have h1 := nn (show 0 ≤ b - a by omega) (show 0 ≤ b - a by omega)
        have c1 := Int.mul_comm a b
        simp only [Int.sub_mul, Int.mul_sub] at h1 ⊢
        omega
theorem qq_scale (e M k : Int) (he : 0 < e) : qq (e * M) (e * k) = e * (e * qq M k) := by
  unfold qq
  by_cases k0 : k < 0
  · have := Int.mul_pos he (show 0 < -k by omega)
    rw [Int.mul_neg] at this
    rw [if_pos k0, if_pos (by omega)]; simp
  · have := Int.mul_nonneg (show 0 ≤ e by omega) (show 0 ≤ k by omega)
    rw [if_neg k0, if_neg (by omega)]
    by_cases k1 : M < k
    · have := Int.mul_pos he (show 0 < k - M by omega)
      rw [Int.mul_sub] at this
      rw [if_pos k1, if_pos (by omega), Int.mul_sub, Int.mul_sub]
      have x1 : e * M * (e * k) = e * (e * (M * k)) := by simp only [Int.mul_comm, Int.mul_left_comm]
      have x2 : e * M * (e * M) = e * (e * (M * M)) := by simp only [Int.mul_comm, Int.mul_left_comm]
      have x3 : e * (e * (2 * (M * k))) = 2 * (e * (e * (M * k))) := by rw [Int.mul_left_comm e 2, Int.mul_left_comm e 2]
      omega
    · have := Int.mul_nonneg (show 0 ≤ e by omega) (show 0 ≤ M - k by omega)
      rw [Int.mul_sub] at this
      rw [if_neg k1, if_neg (by omega)]
      simp only [Int.mul_comm, Int.mul_left_comm]
theorem clp_scale (e v M : Int) (he : 0 < e) : clp (e * v) 0 (e * M) = e * clp v 0 M := by
  unfold clp
  by_cases v0 : v < 0
  · have := Int.mul_pos he (show 0 < -v by omega)
    rw [Int.mul_neg] at this
    rw [if_pos v0, if_pos (by omega)]; simp
  · have := Int.mul_nonneg (show 0 ≤ e by omega) (show 0 ≤ v by omega)
    rw [if_neg v0, if_neg (by omega)]
    by_cases v1 : M < v
    · have := Int.mul_pos he (show 0 < v - M by omega)
      rw [Int.mul_sub] at this
      rw [if_pos v1, if_pos (by omega)]
    · have := Int.mul_nonneg (show 0 ≤ e by omega) (show 0 ≤ M - v by omega)
      rw [Int.mul_sub] at this
      rw [if_neg v1, if_neg (by omega)]
theorem clp_lip {a b M D : Int} (hM : 0 ≤ M) (h1 : a ≤ b + D) (hD : 0 ≤ D) : clp a 0 M ≤ clp b 0 M + D := by
  unfold clp
  repeat' split
  all_goals omega
theorem clp_rng {v M : Int} (hM : 0 ≤ M) : 0 ≤ clp v 0 M ∧ clp v 0 M ≤ M := by
  unfold clp; repeat' split
  all_goals omega

theorem part_poly (w h a b p q U c : Int) : w * (c * a + (b - a) * U) = (w * a - h * p) * (c - U) + (w * b - h * q) * U + h * (c * p + (q - p) * U) := by
  simp only [Int.mul_add, Int.mul_sub, Int.mul_comm, Int.mul_left_comm]
  omega
/-- The document's part, against the line itself: each height off by a half at most. -/
theorem part_qq {lo hi ylo yhi r yl yr xl xr : Int} (hw : lo < hi)
    (hxl : xl = clipV (r - 64) lo hi) (hxr : xr = clipV r lo hi)
    (hl : -(hi - lo) ≤ 2 * ((hi - lo) * (yl - ylo) - (yhi - ylo) * (xl - lo)) ∧ 2 * ((hi - lo) * (yl - ylo) - (yhi - ylo) * (xl - lo)) ≤ hi - lo)
    (hr : -(hi - lo) ≤ 2 * ((hi - lo) * (yr - ylo) - (yhi - ylo) * (xr - lo)) ∧ 2 * ((hi - lo) * (yr - ylo) - (yhi - ylo) * (xr - lo)) ≤ hi - lo)
    (el : xl = lo → yl = ylo) (er : xl = hi → yl = yhi) (el2 : xr = lo → yr = ylo) (er2 : xr = hi → yr = yhi) :
    -(64 * (hi - lo)) ≤ (hi - lo) * (128 * (yl - ylo) + (yr - yl) * (r - xl + r - xr)) - (yhi - ylo) * (qq 64 (r - lo) - qq 64 (r - hi)) ∧
    (hi - lo) * (128 * (yl - ylo) + (yr - yl) * (r - xl + r - xr)) - (yhi - ylo) * (qq 64 (r - lo) - qq 64 (r - hi)) ≤ 64 * (hi - lo) := by
  have P := part_poly (hi - lo) (yhi - ylo) (yl - ylo) (yr - ylo) (xl - lo) (xr - lo) (r - xl + r - xr) 128
  rw [show yr - ylo - (yl - ylo) = yr - yl by omega, show xr - lo - (xl - lo) = xr - xl by omega] at P
  have K : 128 * (xl - lo) + (xr - xl) * (r - xl + r - xr) = qq 64 (r - lo) - qq 64 (r - hi) := by
    have sq : ∀ A B : Int, (A - B) * (A + B) = A * A - B * B := by
      intro A B
      have := Int.mul_comm A B
      rw [Int.sub_mul, Int.mul_add, Int.mul_add]; omega
    have e := sq (r - xl) (r - xr)
    rw [show r - xl - (r - xr) = xr - xl by omega, show r - xl + (r - xr) = r - xl + r - xr by omega] at e
    rw [e]
    unfold qq
    by_cases c1 : hi ≤ r - 64
    · have x1 : xl = hi := by rw [hxl, clip_hi c1 (by omega)]
      have x2 : xr = hi := by rw [hxr, clip_hi (by omega) (by omega)]
      rw [x1, x2, if_neg (by omega), if_pos (show 64 < r - lo by omega), if_neg (by omega)]
      by_cases c2 : 64 < r - hi
      · rw [if_pos c2]; omega
      · have : r - hi = 64 := by omega
        rw [if_neg c2, this]; omega
    · by_cases c2 : r ≤ lo
      · have x1 : xl = lo := by rw [hxl, clip_lo (by omega)]
        have x2 : xr = lo := by rw [hxr, clip_lo (by omega)]
        rw [x1, x2, if_pos (show r - hi < 0 by omega)]
        by_cases c3 : r - lo < 0
        · rw [if_pos c3]; omega
        · have : r - lo = 0 := by omega
          rw [if_neg c3, this]; simp
      · by_cases c3 : lo < r - 64
        · have x1 : xl = r - 64 := by rw [hxl, clip_mid (by omega) (by omega)]
          rw [if_neg (show ¬ r - lo < 0 by omega), if_pos (show 64 < r - lo by omega), if_neg (show ¬ 64 < r - hi by omega)]
          by_cases c4 : r - hi < 0
          · have x2 : xr = r := by rw [hxr, clip_mid (by omega) (by omega)]
            rw [if_pos c4, x1, x2]; simp; omega
          · have x2 : xr = hi := by rw [hxr, clip_hi (by omega) (by omega)]
            rw [if_neg c4, x1, x2, show r - (r - 64) = 64 by omega]; omega
        · have x1 : xl = lo := by rw [hxl, clip_lo (by omega)]
          rw [if_neg (show ¬ r - lo < 0 by omega), if_neg (show ¬ 64 < r - lo by omega), if_neg (show ¬ 64 < r - hi by omega)]
          by_cases c4 : r - hi < 0
          · have x2 : xr = r := by rw [hxr, clip_mid (by omega) (by omega)]
            rw [if_pos c4, x1, x2]; simp
          · have x2 : xr = hi := by rw [hxr, clip_hi (by omega) (by omega)]
            rw [if_neg c4, x1, x2]; omega
  rw [K] at P
  obtain ⟨U, hU⟩ : ∃ U, U = r - xl + r - xr := ⟨_, rfl⟩
  obtain ⟨dl, hdl⟩ : ∃ dl, dl = (hi - lo) * (yl - ylo) - (yhi - ylo) * (xl - lo) := ⟨_, rfl⟩
  obtain ⟨dr, hdr⟩ : ∃ dr, dr = (hi - lo) * (yr - ylo) - (yhi - ylo) * (xr - lo) := ⟨_, rfl⟩
  rw [← hdl] at hl P
  rw [← hdr] at hr P
  rw [← hU] at P ⊢
  have bd : -(64 * (hi - lo)) ≤ dl * (128 - U) + dr * U ∧ dl * (128 - U) + dr * U ≤ 64 * (hi - lo) := by
    by_cases c1 : hi ≤ r - 64
    · have x1 : xl = hi := by rw [hxl, clip_hi c1 (by omega)]
      have x2 : xr = hi := by rw [hxr, clip_hi (by omega) (by omega)]
      have z1 : dl = 0 := by rw [hdl, er x1, x1, Int.mul_comm]; omega
      have z2 : dr = 0 := by rw [hdr, er2 x2, x2, Int.mul_comm]; omega
      rw [z1, z2]; simp; omega
    · by_cases c2 : r ≤ lo
      · have x1 : xl = lo := by rw [hxl, clip_lo (by omega)]
        have x2 : xr = lo := by rw [hxr, clip_lo (by omega)]
        have z1 : dl = 0 := by rw [hdl, el x1, x1]; simp
        have z2 : dr = 0 := by rw [hdr, el2 x2, x2]; simp
        rw [z1, z2]; simp; omega
      · have u1 : r - 64 ≤ xl ∧ xl ≤ r := by
          rw [hxl]; unfold clipV gr lsV; repeat' split
          all_goals omega
        have u2 : r - 64 ≤ xr ∧ xr ≤ r := by
          rw [hxr]; unfold clipV gr lsV; repeat' split
          all_goals omega
        have m1 := mul_ge (a := 2 * dl) (t := 128 - U) (B := hi - lo) (by omega) (by omega)
        have m2 := mul_ge (a := 2 * dr) (t := U) (B := hi - lo) (by omega) (by omega)
        rw [Int.mul_sub (hi - lo)] at m1
        rw [Int.mul_assoc] at m1 m2
        omega
  omega
end Num
end Go.Proofs.Ytkhcjkmifddlbaa

/- ClsW -/
namespace Go.Proofs.Ytkhcjkmifddlbaa
namespace Num

theorem hu_half (n d : Int) (hd : 0 < d) : -d ≤ 2 * (d * hu n d - n) ∧ 2 * (d * hu n d - n) ≤ d := by
  obtain ⟨h1, h2⟩ := hu_facts n d hd
  rw [Int.mul_assoc] at h1 h2
  omega
theorem atV_half {a b p q n : Int} (h : p < q) : -(q - p) ≤ 2 * ((q - p) * (atV a b p q n - a) - (b - a) * (n - p)) ∧ 2 * ((q - p) * (atV a b p q n - a) - (b - a) * (n - p)) ≤ q - p := by
  rw [atV_eq (by omega), if_neg (by omega)]
  have := hu_half ((b - a) * (n - p)) (q - p) (by omega)
  rw [show a + hu ((b - a) * (n - p)) (q - p) - a = hu ((b - a) * (n - p)) (q - p) by omega]
  exact this
theorem docG_qq {lo hi ylo yhi : Int} (i e : Int) (hw : lo < hi) (he : e = sz (yhi - ylo)) :
    -(64 * (hi - lo)) ≤ (hi - lo) * docG lo ylo hi yhi i - e * (qq 64 (64 * i + 64 - lo) - qq 64 (64 * i + 64 - hi)) ∧
    (hi - lo) * docG lo ylo hi yhi i - e * (qq 64 (64 * i + 64 - lo) - qq 64 (64 * i + 64 - hi)) ≤ 64 * (hi - lo) := by
  have b0 : atV ylo yhi lo hi lo = ylo := atV_begin (by omega)
  have b1 : atV ylo yhi lo hi hi = yhi := atV_end (by omega)
  have X : ∀ xl xr, xl = clipV (64 * i + 64 - 64) lo hi → xr = clipV (64 * i + 64) lo hi → _ := fun xl xr h1 h2 =>
    part_qq (lo := lo) (hi := hi) (ylo := ylo) (yhi := yhi) (r := 64 * i + 64) (yl := atV ylo yhi lo hi xl) (yr := atV ylo yhi lo hi xr) (xl := xl) (xr := xr) hw h1 h2
      (atV_half hw) (atV_half hw) (fun e => by rw [e]; exact b0) (fun e => by rw [e]; exact b1) (fun e => by rw [e]; exact b0) (fun e => by rw [e]; exact b1)
  have X := X _ _ rfl rfl
  rw [show 64 * i + 64 - 64 = 64 * i by omega] at X
  by_cases c : ylo ≤ yhi
  · rw [docG_up i hw c]
    rw [he, sz_pos (by omega)]
    unfold formY
    rw [b0]
    exact X
  · rw [docG_dn i hw (by omega)]
    rw [he, sz_neg (by omega)]
    unfold formY
    rw [b0]
    rw [Int.mul_neg, Int.neg_mul]
    omega
theorem tele {M K w : Int} (hM : 0 ≤ M) (hw : 0 ≤ w) : ∀ n : Nat, 2 * (w * sumZ (fun k => clp (K - ((k : Int) + 1) * w) 0 M) n) ≤ qq M K - qq M (K - n * w) ∧ qq M K - qq M (K - n * w) ≤ 2 * (w * sumZ (fun k => clp (K - (k : Int) * w) 0 M) n) := by
  intro n
  induction n with
  | zero => simp [sumZ]
  | succ n ih =>
    have e : K - ((n + 1 : Nat) : Int) * w = K - (n : Int) * w - w := by
      rw [show ((n + 1 : Nat) : Int) = (n : Int) + 1 by omega, Int.add_mul]; omega
    have h := qq_lip (M := M) (a := K - (n : Int) * w - w) (b := K - (n : Int) * w) hM (by omega)
    rw [show K - (n : Int) * w - (K - (n : Int) * w - w) = w by omega] at h
    have m1 := Int.mul_comm (clp (K - (n : Int) * w - w) 0 M) w
    have m2 := Int.mul_comm (clp (K - (n : Int) * w) 0 M) w
    simp only [sumZ, Int.mul_add]
    rw [e, show K - ((n : Int) + 1) * w = K - (n : Int) * w - w by rw [Int.add_mul]; omega]
    omega
theorem tele2 {M K w : Int} (hM : 0 ≤ M) (hw : 0 ≤ w) : ∀ n : Nat, 2 * (w * sumZ (fun k => clp (K + (k : Int) * w) 0 M) n) ≤ qq M (K + n * w) - qq M K ∧ qq M (K + n * w) - qq M K ≤ 2 * (w * sumZ (fun k => clp (K + ((k : Int) + 1) * w) 0 M) n) := by
  intro n
  induction n with
  | zero => simp [sumZ]
  | succ n ih =>
    have e : K + ((n + 1 : Nat) : Int) * w = K + (n : Int) * w + w := by
      rw [show ((n + 1 : Nat) : Int) = (n : Int) + 1 by omega, Int.add_mul]; omega
    have h := qq_lip (M := M) (a := K + (n : Int) * w) (b := K + (n : Int) * w + w) hM (by omega)
    rw [show K + (n : Int) * w + w - (K + (n : Int) * w) = w by omega] at h
    have m1 := Int.mul_comm (clp (K + (n : Int) * w + w) 0 M) w
    have m2 := Int.mul_comm (clp (K + (n : Int) * w) 0 M) w
    simp only [sumZ, Int.mul_add]
    rw [e, show K + ((n : Int) + 1) * w = K + (n : Int) * w + w by rw [Int.add_mul]; omega]
    omega
theorem sumZ_le {f g : Nat → Int} : ∀ n, (∀ k, k < n → f k ≤ g k) → sumZ f n ≤ sumZ g n := by
  intro n
  induction n with
  | zero => intro _; exact Int.le_refl _
  | succ n ih => intro h; have := ih (fun k hk => h k (by omega)); have := h n (by omega); simp only [sumZ]; omega
/-- The rounded part's strips. -/
def cS (e r x y : Int) (k : Nat) : Int := clp (e * (r - x) - (k : Int) * (y - x)) 0 (64 * e)
theorem cancel_le {w a b : Int} (hw : 0 < w) (h : w * a ≤ w * b) : a ≤ b := by
  rcases Int.lt_or_le b a with c | c
  · have := Int.mul_pos hw (show 0 < a - b by omega)
    rw [Int.mul_sub] at this
    omega
  · exact c
theorem part_strips {x t y u : Int} (i : Int) (htu : t < u) :
    2 * sumZ (fun k => lsV (cS (u - t) (64 * i + 64) x y k) (cS (u - t) (64 * i + 64) x y (k + 1))) (u - t).toNat - 64 * (u - t) ≤ (u - t) * partV x t y u i ∧
    (u - t) * partV x t y u i ≤ 2 * sumZ (fun k => gr (cS (u - t) (64 * i + 64) x y k) (cS (u - t) (64 * i + 64) x y (k + 1))) (u - t).toNat + 64 * (u - t) := by
  obtain ⟨e, he⟩ : ∃ e, e = u - t := ⟨_, rfl⟩
  obtain ⟨r, hr⟩ : ∃ r, r = 64 * i + 64 := ⟨_, rfl⟩
  have he0 : 0 < e := by omega
  have hn : ((e.toNat : Nat) : Int) = e := by omega
  rw [← he, ← hr, partV_eq]
  have L1 := sumZ_le (f := fun k => lsV (cS e r x y k) (cS e r x y (k + 1))) (g := fun k => cS e r x y k) e.toNat (fun k _ => (ls_le _ _).1)
  have L2 := sumZ_le (f := fun k => lsV (cS e r x y k) (cS e r x y (k + 1))) (g := fun k => cS e r x y (k + 1)) e.toNat (fun k _ => (ls_le _ _).2)
  have G1 := sumZ_le (g := fun k => gr (cS e r x y k) (cS e r x y (k + 1))) (f := fun k => cS e r x y k) e.toNat (fun k _ => (gr_ge _ _).1)
  have G2 := sumZ_le (g := fun k => gr (cS e r x y k) (cS e r x y (k + 1))) (f := fun k => cS e r x y (k + 1)) e.toNat (fun k _ => (gr_ge _ _).2)
  rcases Int.lt_trichotomy x y with c | c | c
  · rw [if_neg (by omega)]
    have D := docG_qq (lo := x) (hi := y) (ylo := t) (yhi := u) i e c (by rw [sz_pos (by omega)]; exact he)
    have T := tele (M := 64 * e) (K := e * (r - x)) (w := y - x) (by omega) (by omega) e.toNat
    rw [hn, ← Int.mul_sub, show r - x - (y - x) = r - y by omega, Int.mul_comm 64 e, qq_scale e 64 _ he0, qq_scale e 64 _ he0, ← Int.mul_sub, ← Int.mul_sub] at T
    rw [← hr] at D
    have s1 : sumZ (fun k => clp (e * (r - x) - ((k : Int) + 1) * (y - x)) 0 (e * 64)) e.toNat = sumZ (fun k => cS e r x y (k + 1)) e.toNat := by
      apply sumZ_congr; intro k _; unfold cS; rw [Int.mul_comm 64 e]; rfl
    have s2 : sumZ (fun k => clp (e * (r - x) - (k : Int) * (y - x)) 0 (e * 64)) e.toNat = sumZ (fun k => cS e r x y k) e.toNat := by
      apply sumZ_congr; intro k _; unfold cS; rw [Int.mul_comm 64 e]
    rw [s1, s2] at T
    obtain ⟨Q, hQ⟩ : ∃ Q, Q = e * (qq 64 (r - x) - qq 64 (r - y)) := ⟨_, rfl⟩
    rw [← hQ] at D T
    obtain ⟨w, hw⟩ : ∃ w, w = y - x := ⟨_, rfl⟩
    rw [← hw] at D T
    have d1 := Int.mul_le_mul_of_nonneg_left D.1 (show 0 ≤ e by omega)
    have d2 := Int.mul_le_mul_of_nonneg_left D.2 (show 0 ≤ e by omega)
    rw [Int.mul_sub, Int.mul_left_comm e w] at d1 d2
    have z1 : e * -(64 * w) = -(w * (64 * e)) := by rw [Int.mul_neg, Int.mul_comm e, Int.mul_assoc, Int.mul_left_comm]
    have z2 : e * (64 * w) = w * (64 * e) := by rw [Int.mul_comm e, Int.mul_assoc, Int.mul_left_comm]
    rw [z1] at d1
    rw [z2] at d2
    constructor
    · have : 2 * sumZ (fun k => cS e r x y (k + 1)) e.toNat - 64 * e ≤ e * docG x t y u i := by
        refine cancel_le (w := w) (by omega) ?_
        rw [Int.mul_sub, Int.mul_left_comm w 2]
        omega
      omega
    · have : e * docG x t y u i ≤ 2 * sumZ (fun k => cS e r x y k) e.toNat + 64 * e := by
        refine cancel_le (w := w) (by omega) ?_
        rw [Int.mul_add, Int.mul_left_comm w 2]
        omega
      omega
  · subst c
    rw [if_neg (Int.lt_irrefl _), docG_vert i (by omega), ← he, ← hr]
    have s : ∀ k, cS e r x x k = e * cl (r - x) := by
      intro k
      unfold cS
      rw [Int.sub_self, Int.mul_zero, Int.sub_zero, Int.mul_comm 64 e, clp_scale e _ 64 he0]
      rfl
    have s1 : sumZ (fun k => lsV (cS e r x x k) (cS e r x x (k + 1))) e.toNat = sumZ (fun _ => e * cl (r - x)) e.toNat := sumZ_congr _ (fun k _ => by rw [s, s]; unfold lsV; split <;> rfl)
    have s2 : sumZ (fun k => gr (cS e r x x k) (cS e r x x (k + 1))) e.toNat = sumZ (fun _ => e * cl (r - x)) e.toNat := sumZ_congr _ (fun k _ => by rw [s, s]; unfold gr; split <;> rfl)
    have s3 : ∀ (z : Int) (n : Nat), sumZ (fun _ => z) n = n * z := by
      intro z n
      induction n with
      | zero => simp [sumZ]
      | succ n ih => simp only [sumZ, ih]; rw [show ((n + 1 : Nat) : Int) = (n : Int) + 1 by omega, Int.add_mul]; omega
    rw [s1, s2, s3, hn]
    have : e * (2 * cl (r - x) * e) = 2 * (e * (e * cl (r - x))) := by
      rw [Int.mul_assoc 2, Int.mul_left_comm e 2, Int.mul_comm (cl (r - x)) e]
    omega
  · rw [if_pos c]
    have D := docG_qq (lo := y) (hi := x) (ylo := u) (yhi := t) i e c (by rw [sz_neg (by omega)]; omega)
    have T := tele2 (M := 64 * e) (K := e * (r - x)) (w := x - y) (by omega) (by omega) e.toNat
    rw [hn, ← Int.mul_add, show r - x + (x - y) = r - y by omega, Int.mul_comm 64 e, qq_scale e 64 _ he0, qq_scale e 64 _ he0, ← Int.mul_sub, ← Int.mul_sub] at T
    rw [← hr] at D
    have s1 : sumZ (fun k => clp (e * (r - x) + ((k : Int) + 1) * (x - y)) 0 (e * 64)) e.toNat = sumZ (fun k => cS e r x y (k + 1)) e.toNat := by
      apply sumZ_congr; intro k _; unfold cS; rw [Int.mul_comm 64 e, show y - x = -(x - y) by omega, Int.mul_neg]
      rw [show e * (r - x) - -(((k + 1 : Nat) : Int) * (x - y)) = e * (r - x) + ((k : Int) + 1) * (x - y) by rw [show ((k + 1 : Nat) : Int) = (k : Int) + 1 by omega]; omega]
    have s2 : sumZ (fun k => clp (e * (r - x) + (k : Int) * (x - y)) 0 (e * 64)) e.toNat = sumZ (fun k => cS e r x y k) e.toNat := by
      apply sumZ_congr; intro k _; unfold cS; rw [Int.mul_comm 64 e, show y - x = -(x - y) by omega, Int.mul_neg]
      rw [show e * (r - x) - -((k : Int) * (x - y)) = e * (r - x) + (k : Int) * (x - y) by omega]
    rw [s1, s2] at T
    obtain ⟨Q, hQ⟩ : ∃ Q, Q = e * (qq 64 (r - y) - qq 64 (r - x)) := ⟨_, rfl⟩
    rw [← hQ] at D T
    obtain ⟨w, hw⟩ : ∃ w, w = x - y := ⟨_, rfl⟩
    rw [← hw] at D T
    have d1 := Int.mul_le_mul_of_nonneg_left D.1 (show 0 ≤ e by omega)
    have d2 := Int.mul_le_mul_of_nonneg_left D.2 (show 0 ≤ e by omega)
    rw [Int.mul_sub, Int.mul_left_comm e w] at d1 d2
    have z1 : e * -(64 * w) = -(w * (64 * e)) := by rw [Int.mul_neg, Int.mul_comm e, Int.mul_assoc, Int.mul_left_comm]
    have z2 : e * (64 * w) = w * (64 * e) := by rw [Int.mul_comm e, Int.mul_assoc, Int.mul_left_comm]
    rw [z1] at d1
    rw [z2] at d2
    constructor
    · have : 2 * sumZ (fun k => cS e r x y k) e.toNat - 64 * e ≤ e * docG y u x t i := by
        refine cancel_le (w := w) (by omega) ?_
        rw [Int.mul_sub, Int.mul_left_comm w 2]
        omega
      omega
    · have : e * docG y u x t i ≤ 2 * sumZ (fun k => cS e r x y (k + 1)) e.toNat + 64 * e := by
        refine cancel_le (w := w) (by omega) ?_
        rw [Int.mul_add, Int.mul_left_comm w 2]
        omega
      omega
end Num
end Go.Proofs.Ytkhcjkmifddlbaa

/- ClsX -/
namespace Go.Proofs.Ytkhcjkmifddlbaa
namespace Num

theorem lin_id (d e R p q B s k : Int) : d * (e * (R - p) - k * (q - p)) - e * (d * R - B * (s + k)) = -((e - k) * (d * p - B * s)) - k * (d * q - B * (s + e)) := by
  simp only [Int.mul_add, Int.mul_sub, Int.mul_comm, Int.mul_left_comm]
  omega
theorem strip_near {ax ay bx b2 i t u : Int} {k : Nat} (h : ay < b2) (htu : t < u) (hk : (k : Int) ≤ u - t) :
    2 * ((b2 - ay) * cS (u - t) (64 * i + 64) (atV ax bx ay b2 t) (atV ax bx ay b2 u) k) ≤ 2 * ((u - t) * leftV ax ay bx b2 i (t + k)) + (b2 - ay) * (u - t) ∧
    2 * ((u - t) * leftV ax ay bx b2 i (t + k)) ≤ 2 * ((b2 - ay) * cS (u - t) (64 * i + 64) (atV ax bx ay b2 t) (atV ax bx ay b2 u) k) + (b2 - ay) * (u - t) := by
  have hx := atV_half (a := ax) (b := bx) (n := t) h
  have hy := atV_half (a := ax) (b := bx) (n := u) h
  obtain ⟨x, hx'⟩ : ∃ x, x = atV ax bx ay b2 t := ⟨_, rfl⟩
  obtain ⟨y, hy'⟩ : ∃ y, y = atV ax bx ay b2 u := ⟨_, rfl⟩
  rw [← hx'] at hx ⊢
  rw [← hy'] at hy ⊢
  obtain ⟨d, hd⟩ : ∃ d, d = b2 - ay := ⟨_, rfl⟩
  obtain ⟨e, he⟩ : ∃ e, e = u - t := ⟨_, rfl⟩
  rw [left_turn]
  unfold turnV
  rw [← hd] at hx hy ⊢
  rw [← he]
  have hd0 : 0 < d := by omega
  have he0 : 0 < e := by omega
  have I := lin_id d e (64 * i + 64 - ax) (x - ax) (y - ax) (bx - ax) (t - ay) k
  rw [show 64 * i + 64 - ax - (x - ax) = 64 * i + 64 - x by omega, show y - ax - (x - ax) = y - x by omega, show t - ay + (k : Int) = t + k - ay by omega, show t - ay + e = u - ay by omega] at I
  obtain ⟨gx, hgx⟩ : ∃ g, g = d * (x - ax) - (bx - ax) * (t - ay) := ⟨_, rfl⟩
  obtain ⟨gy, hgy⟩ : ∃ g, g = d * (y - ax) - (bx - ax) * (u - ay) := ⟨_, rfl⟩
  rw [← hgx] at hx I
  rw [← hgy] at hy I
  have m1 := mul_ge (a := 2 * gx) (t := e - k) (B := d) (by omega) (by omega)
  have m2 := mul_ge (a := 2 * gy) (t := (k : Int)) (B := d) (by omega) (by omega)
  rw [Int.mul_assoc] at m1 m2
  rw [Int.mul_sub d] at m1
  rw [Int.mul_comm gx] at m1
  rw [Int.mul_comm gy] at m2
  have hde : 0 ≤ d * e := Int.mul_nonneg (by omega) (by omega)
  unfold cS
  have c1 := clp_scale d (e * (64 * i + 64 - x) - (k : Int) * (y - x)) (64 * e) hd0
  have c2 := clp_scale e (d * (64 * i + 64 - ax) - (bx - ax) * (t + k - ay)) (64 * d) he0
  have c3 := clp_scale 2 (d * (e * (64 * i + 64 - x) - (k : Int) * (y - x))) (d * (64 * e)) (by omega)
  have c4 := clp_scale 2 (e * (d * (64 * i + 64 - ax) - (bx - ax) * (t + k - ay))) (e * (64 * d)) (by omega)
  have eM : e * (64 * d) = d * (64 * e) := by rw [Int.mul_left_comm, Int.mul_comm e d, Int.mul_left_comm]
  have hM : 0 ≤ 2 * (d * (64 * e)) := by rw [Int.mul_left_comm d 64]; omega
  rw [← c1, ← c2, eM]
  rw [eM] at c4
  rw [← c3, ← c4]
  exact ⟨clp_lip hM (by omega) hde, clp_lip hM (by omega) hde⟩
theorem sumZ_lin {f g : Nat → Int} {p q c : Int} : ∀ n : Nat, (∀ k, k < n → p * f k ≤ q * g k + c) → p * sumZ f n ≤ q * sumZ g n + n * c := by
  intro n
  induction n with
  | zero => intro _; simp [sumZ]
  | succ n ih =>
    intro h
    have h1 := ih (fun k hk => h k (by omega))
    have h2 := h n (by omega)
    simp only [sumZ, Int.mul_add]
    rw [show ((n + 1 : Nat) : Int) = (n : Int) + 1 by omega, Int.add_mul]
    omega
theorem sumZ_lin2 {f g : Nat → Int} {p q c : Int} : ∀ n : Nat, (∀ k, k < n → q * g k ≤ p * f k + c) → q * sumZ g n ≤ p * sumZ f n + n * c := fun n h => sumZ_lin n h

/-- The part of a chord in a row, against the strips. -/
theorem down_strips {ax ay bx b2 i t u : Int} (h : ay < b2) (htu : t < u) (h64 : u - t ≤ 64) :
    (b2 - ay) * partV (atV ax bx ay b2 t) t (atV ax bx ay b2 u) u i ≤ 2 * sumZ (stripH ax ay bx b2 i t) (u - t).toNat + 128 * (b2 - ay) ∧
    2 * sumZ (stripL ax ay bx b2 i t) (u - t).toNat ≤ (b2 - ay) * partV (atV ax bx ay b2 t) t (atV ax bx ay b2 u) u i + 128 * (b2 - ay) := by
  obtain ⟨P1, P2⟩ := part_strips (x := atV ax bx ay b2 t) (y := atV ax bx ay b2 u) i htu
  obtain ⟨n, hn⟩ : ∃ n, n = (u - t).toNat := ⟨_, rfl⟩
  have hn2 : (n : Int) = u - t := by omega
  rw [← hn] at P1 P2 ⊢
  have N : ∀ k : Nat, k ≤ n → _ := fun k hk => strip_near (ax := ax) (bx := bx) (i := i) (k := k) h htu (by omega)
  obtain ⟨d, hd⟩ : ∃ d, d = b2 - ay := ⟨_, rfl⟩
  obtain ⟨e, he⟩ : ∃ e, e = u - t := ⟨_, rfl⟩
  obtain ⟨V, hV⟩ : ∃ V, V = partV (atV ax bx ay b2 t) t (atV ax bx ay b2 u) u i := ⟨_, rfl⟩
  obtain ⟨cS', hcS⟩ : ∃ c : Nat → Int, c = cS e (64 * i + 64) (atV ax bx ay b2 t) (atV ax bx ay b2 u) := ⟨_, rfl⟩
  rw [← he] at P1 P2 N hn2 h64
  rw [← hd] at N ⊢
  rw [← hV] at P1 P2 ⊢
  rw [← hcS] at P1 P2 N
  have hd0 : 0 < d := by omega
  have he0 : 0 < e := by omega
  have S1 := sumZ_lin (f := fun k => gr (cS' k) (cS' (k + 1))) (g := stripH ax ay bx b2 i t) (p := 2 * d) (q := 2 * e) (c := d * e) n (fun k hk => by
    have n1 := N k (by omega)
    have n2 := N (k + 1) (by omega)
    rw [show t + ((k + 1 : Nat) : Int) = t + k + 1 by omega] at n2
    have g1 := gr_ge (leftV ax ay bx b2 i (t + k)) (leftV ax ay bx b2 i (t + k + 1))
    have m1 := Int.mul_le_mul_of_nonneg_left g1.1 (show 0 ≤ e by omega)
    have m2 := Int.mul_le_mul_of_nonneg_left g1.2 (show 0 ≤ e by omega)
    unfold stripH
    rw [Int.mul_assoc, Int.mul_assoc]
    rcases gr_or (cS' k) (cS' (k + 1)) with c | c <;> simp only [c] <;> omega)
  have S2 := sumZ_lin (f := stripL ax ay bx b2 i t) (g := fun k => lsV (cS' k) (cS' (k + 1))) (p := 2 * e) (q := 2 * d) (c := d * e) n (fun k hk => by
    have n1 := N k (by omega)
    have n2 := N (k + 1) (by omega)
    rw [show t + ((k + 1 : Nat) : Int) = t + k + 1 by omega] at n2
    have g1 := ls_le (leftV ax ay bx b2 i (t + k)) (leftV ax ay bx b2 i (t + k + 1))
    have m1 := Int.mul_le_mul_of_nonneg_left g1.1 (show 0 ≤ e by omega)
    have m2 := Int.mul_le_mul_of_nonneg_left g1.2 (show 0 ≤ e by omega)
    unfold stripL
    rw [Int.mul_assoc, Int.mul_assoc]
    rcases ls_or (cS' k) (cS' (k + 1)) with c | c <;> simp only [c] <;> omega)
  rw [hn2] at S1 S2
  have q1 := Int.mul_le_mul_of_nonneg_left P1 (show 0 ≤ d by omega)
  have q2 := Int.mul_le_mul_of_nonneg_left P2 (show 0 ≤ d by omega)
  have hde : 0 ≤ d * e := Int.mul_nonneg (by omega) (by omega)
  have q3 := Int.mul_le_mul_of_nonneg_right h64 hde
  rw [Int.mul_assoc, Int.mul_assoc] at S1 S2
  rw [Int.mul_sub, Int.mul_left_comm d 2, Int.mul_left_comm d 64, Int.mul_left_comm d e] at q1
  rw [Int.mul_add, Int.mul_left_comm d 2, Int.mul_left_comm d 64, Int.mul_left_comm d e] at q2
  have z : e * (128 * d) = 128 * (d * e) := by rw [Int.mul_left_comm, Int.mul_comm e d]
  constructor
  · refine cancel_le he0 ?_
    rw [Int.mul_add, Int.mul_left_comm e 2, z]
    omega
  · refine cancel_le he0 ?_
    rw [Int.mul_add, Int.mul_left_comm e 2, z]
    omega
theorem sumZ_nn {f : Nat → Int} : ∀ n, (∀ k, k < n → 0 ≤ f k) → 0 ≤ sumZ f n := by
  intro n
  induction n with
  | zero => intro _; exact Int.le_refl _
  | succ n ih => intro h; have := ih (fun k hk => h k (by omega)); have := h n (by omega); simp only [sumZ]; omega
theorem sumZ_const (z : Int) (n : Nat) : sumZ (fun _ => z) n = n * z := by
  induction n with
  | zero => simp [sumZ]
  | succ n ih => simp only [sumZ, ih]; rw [show ((n + 1 : Nat) : Int) = (n : Int) + 1 by omega, Int.add_mul]; omega
theorem left_nn {ax ay bx b2 i y : Int} (h : ay < b2) : 0 ≤ leftV ax ay bx b2 i y := (clp_rng (by omega)).1
/-- A chord that does not meet the pixel, in the pixel's row: all to the left, or all to the right. -/
theorem un_sides {ax ay bx b2 i j : Int} (hu : UnV ax ay bx b2 i j) (htu : topV ay j < botV b2 j) :
    (∀ y, topV ay j ≤ y → y ≤ botV b2 j → 0 ≤ turnV ax ay bx b2 (64 * i) y) ∨ (∀ y, topV ay j ≤ y → y ≤ botV b2 j → turnV ax ay bx b2 (64 * i + 64) y ≤ 0) := by
  have g := gr_ge ay (64 * j)
  have l := ls_le b2 (64 * j + 64)
  unfold topV botV at *
  rcases hu with c | c | c | c | c | c
  · refine .inl (fun y h1 h2 => ?_)
    rw [turn_split]
    have m1 := Int.mul_nonneg (show 0 ≤ b2 - y by omega) (show 0 ≤ 64 * i - ax by omega)
    have m2 := Int.mul_nonneg (show 0 ≤ y - ay by omega) (show 0 ≤ 64 * i - bx by omega)
    omega
  · refine .inr (fun y h1 h2 => ?_)
    rw [turn_split]
    have m1 := Int.mul_nonneg (show 0 ≤ b2 - y by omega) (show 0 ≤ -(64 * i + 64 - ax) by omega)
    have m2 := Int.mul_nonneg (show 0 ≤ y - ay by omega) (show 0 ≤ -(64 * i + 64 - bx) by omega)
    rw [Int.mul_neg] at m1 m2
    omega
  · omega
  · omega
  · exact .inl (fun y h1 h2 => by have := (turn_mid (x := 64 * i) (t := 64 * j) (y := y) (by omega) (by omega)).1 c.1 c.2.2.1; omega)
  · exact .inr (fun y h1 h2 => by have := (turn_mid (x := 64 * i + 64) (t := 64 * j) (y := y) (by omega) (by omega)).2 c.2.1 c.2.2.2; omega)
theorem at_left' {ax ay bx b2 x y : Int} (h : ay < b2) (ht : 0 ≤ turnV ax ay bx b2 x y) : atV ax bx ay b2 y ≤ x := by
  rw [atV_eq (by omega), if_neg (by omega)]
  unfold turnV at ht
  have := hu_le_of (n := (bx - ax) * (y - ay)) (d := b2 - ay) (B := x - ax) (by omega) (by rw [Int.mul_comm (x - ax)]; omega)
  omega
theorem at_right' {ax ay bx b2 x y : Int} (h : ay < b2) (ht : turnV ax ay bx b2 x y ≤ 0) : x ≤ atV ax bx ay b2 y := by
  rw [atV_eq (by omega), if_neg (by omega)]
  unfold turnV at ht
  have := hu_ge_of (n := (bx - ax) * (y - ay)) (d := b2 - ay) (B := x - ax) (by omega) (by rw [Int.mul_comm (x - ax)]; omega)
  omega
/-- Of one that goes down. -/
theorem close_down {ax ay bx b2 : Int} (i j : Int) (h : ay < b2) :
    2 * (lowV ax ay bx b2 i j - offV ax ay bx b2 i j) ≤ downV ax ay bx b2 i j ∧ downV ax ay bx b2 i j ≤ 2 * (highV ax ay bx b2 i j + offV ax ay bx b2 i j) := by
  have g := gr_ge ay (64 * j)
  have l := ls_le b2 (64 * j + 64)
  have hd0 : 0 < b2 - ay := by omega
  have ho : 0 ≤ offV ax ay bx b2 i j := by
    unfold offV
    repeat' split
    all_goals omega
  unfold lowV highV
  rw [if_neg (by omega), if_neg (by omega)]
  have nnL : 0 ≤ sumZ (stripL ax ay bx b2 i (topV ay j)) (botV b2 j - topV ay j).toNat := sumZ_nn _ (fun k _ => by
    unfold stripL; rcases ls_or (leftV ax ay bx b2 i (topV ay j + k)) (leftV ax ay bx b2 i (topV ay j + k + 1)) with c | c <;> rw [c] <;> exact left_nn h)
  have nnH : 0 ≤ sumZ (stripH ax ay bx b2 i (topV ay j)) (botV b2 j - topV ay j).toNat := sumZ_nn _ (fun k _ => by
    unfold stripH; rcases gr_or (leftV ax ay bx b2 i (topV ay j + k)) (leftV ax ay bx b2 i (topV ay j + k + 1)) with c | c <;> rw [c] <;> exact left_nn h)
  by_cases htu : topV ay j < botV b2 j
  · have hdn : downV ax ay bx b2 i j = partV (atV ax bx ay b2 (topV ay j)) (topV ay j) (atV ax bx ay b2 (botV b2 j)) (botV b2 j) i := by
      unfold downV
      rw [if_neg (by unfold topV botV at htu; omega)]; rfl
    have h64 : botV b2 j - topV ay j ≤ 64 := by unfold topV botV; omega
    cases hm : meetsV ax ay bx b2 i j
    · have off0 : offV ax ay bx b2 i j = 0 := by unfold offV; rw [hm, if_neg (by omega)]; rfl
      rw [off0]
      have hen : (((botV b2 j - topV ay j).toNat : Nat) : Int) = botV b2 j - topV ay j := by omega
      rcases un_sides (un_of hm) htu with c | c
      · have v : downV ax ay bx b2 i j = 128 * (botV b2 j - topV ay j) := by
          rw [hdn]
          exact partV_left2 (at_left' h (c _ (Int.le_refl _) (by omega))) (at_left' h (c _ (by omega) (Int.le_refl _))) (by omega)
        have lf : ∀ y, topV ay j ≤ y → y ≤ botV b2 j → leftV ax ay bx b2 i y = 64 * (b2 - ay) := by
          intro y h1 h2
          have := c y h1 h2
          rw [left_turn, turn_x, Int.mul_comm (b2 - ay) 64]
          unfold clp
          repeat' split
          all_goals omega
        have sL : sumZ (stripL ax ay bx b2 i (topV ay j)) (botV b2 j - topV ay j).toNat = (botV b2 j - topV ay j) * (64 * (b2 - ay)) := by
          rw [sumZ_congr (g := fun _ => 64 * (b2 - ay)) _ (fun k hk => by unfold stripL; rw [lf _ (by omega) (by omega), lf _ (by omega) (by omega)]; unfold lsV; split <;> rfl), sumZ_const, hen]
        have sH : sumZ (stripH ax ay bx b2 i (topV ay j)) (botV b2 j - topV ay j).toNat = (botV b2 j - topV ay j) * (64 * (b2 - ay)) := by
          rw [sumZ_congr (g := fun _ => 64 * (b2 - ay)) _ (fun k hk => by unfold stripH; rw [lf _ (by omega) (by omega), lf _ (by omega) (by omega)]; unfold gr; split <;> rfl), sumZ_const, hen]
        rw [sL, sH, v]
        have e1 : (botV b2 j - topV ay j) * (64 * (b2 - ay)) = (b2 - ay) * (64 * (botV b2 j - topV ay j)) := by rw [Int.mul_comm, Int.mul_assoc, Int.mul_left_comm]
        rw [e1]
        have pos : 0 ≤ (b2 - ay) * (64 * (botV b2 j - topV ay j)) := Int.mul_nonneg (by omega) (by omega)
        rw [Int.tdiv_eq_ediv_of_nonneg pos, Int.tdiv_eq_ediv_of_nonneg (by omega), Int.mul_ediv_cancel_left _ (by omega)]
        have e2 : ((b2 - ay) * (64 * (botV b2 j - topV ay j)) + (b2 - ay) - 1) / (b2 - ay) = 64 * (botV b2 j - topV ay j) := by
          rw [show (b2 - ay) * (64 * (botV b2 j - topV ay j)) + (b2 - ay) - 1 = (b2 - ay - 1) + (b2 - ay) * (64 * (botV b2 j - topV ay j)) by omega, Int.add_mul_ediv_left _ _ (by omega), Int.ediv_eq_zero_of_lt (by omega) (by omega)]
          omega
        rw [e2]
        omega
      · have v : downV ax ay bx b2 i j = 0 := by
          rw [hdn]
          exact partV_right (at_right' h (c _ (Int.le_refl _) (by omega))) (at_right' h (c _ (by omega) (Int.le_refl _)))
        have lf : ∀ y, topV ay j ≤ y → y ≤ botV b2 j → leftV ax ay bx b2 i y = 0 := by
          intro y h1 h2
          have := c y h1 h2
          rw [left_turn]
          unfold clp
          repeat' split
          all_goals omega
        have sL : sumZ (stripL ax ay bx b2 i (topV ay j)) (botV b2 j - topV ay j).toNat = 0 := by
          rw [sumZ_congr (g := fun _ => 0) _ (fun k hk => by unfold stripL; rw [lf _ (by omega) (by omega), lf _ (by omega) (by omega)]; rfl), sumZ_const, Int.mul_zero]
        have sH : sumZ (stripH ax ay bx b2 i (topV ay j)) (botV b2 j - topV ay j).toNat = 0 := by
          rw [sumZ_congr (g := fun _ => 0) _ (fun k hk => by unfold stripH; rw [lf _ (by omega) (by omega), lf _ (by omega) (by omega)]; rfl), sumZ_const, Int.mul_zero]
        rw [sL, sH, v, Int.zero_tdiv, Int.tdiv_eq_ediv_of_nonneg (by omega), Int.ediv_eq_zero_of_lt (by omega) (by omega)]
        omega
    · have off1 : offV ax ay bx b2 i j = 64 := by unfold offV; rw [hm, if_neg (by omega)]; rfl
      rw [off1, hdn]
      obtain ⟨D1, D2⟩ := down_strips (ax := ax) (bx := bx) (i := i) h htu h64
      obtain ⟨V, hV⟩ : ∃ V, V = partV (atV ax bx ay b2 (topV ay j)) (topV ay j) (atV ax bx ay b2 (botV b2 j)) (botV b2 j) i := ⟨_, rfl⟩
      obtain ⟨d, hd⟩ : ∃ d, d = b2 - ay := ⟨_, rfl⟩
      obtain ⟨SL, hSL⟩ : ∃ SL, SL = sumZ (stripL ax ay bx b2 i (topV ay j)) (botV b2 j - topV ay j).toNat := ⟨_, rfl⟩
      obtain ⟨SH, hSH⟩ : ∃ SH, SH = sumZ (stripH ax ay bx b2 i (topV ay j)) (botV b2 j - topV ay j).toNat := ⟨_, rfl⟩
      rw [← hV, ← hd] at D1 D2
      rw [← hV, ← hd]
      rw [← hSH] at D1 nnH ⊢
      rw [← hSL] at D2 nnL ⊢
      rw [Int.tdiv_eq_ediv_of_nonneg nnL, Int.tdiv_eq_ediv_of_nonneg (by omega)]
      have a1 := Int.mul_ediv_add_emod SL d
      have a2 := Int.emod_nonneg SL (show d ≠ 0 by omega)
      have b1 := Int.mul_ediv_add_emod (SH + d - 1) d
      have b2' := Int.emod_lt_of_pos (SH + d - 1) (show 0 < d by omega)
      constructor
      · refine cancel_le (w := d) (by omega) ?_
        rw [Int.mul_left_comm, Int.mul_sub]
        omega
      · refine cancel_le (w := d) (by omega) ?_
        rw [Int.mul_left_comm, Int.mul_add]
        omega
  · have v : downV ax ay bx b2 i j = 0 := by
      unfold downV
      rw [if_pos (by unfold topV botV at htu; omega)]
    have z : (botV b2 j - topV ay j).toNat = 0 := by omega
    rw [v, z]
    simp only [sumZ]
    rw [Int.zero_tdiv, Int.tdiv_eq_ediv_of_nonneg (by omega), Int.ediv_eq_zero_of_lt (by omega) (by omega)]
    omega
/-- Of any chord: what it may count at least, and at most. -/
def loC (ax ay bx b2 i j : Int) : Int := lowV ax ay bx b2 i j - highV bx b2 ax ay i j - offV ax ay bx b2 i j - offV bx b2 ax ay i j
def hiC (ax ay bx b2 i j : Int) : Int := highV ax ay bx b2 i j - lowV bx b2 ax ay i j + offV ax ay bx b2 i j + offV bx b2 ax ay i j
theorem close_none {ax ay bx b2 : Int} (i j : Int) (h : b2 ≤ ay) : lowV ax ay bx b2 i j = 0 ∧ highV ax ay bx b2 i j = 0 ∧ offV ax ay bx b2 i j = 0 := by
  unfold lowV highV offV
  rw [if_pos (by omega), if_pos (by omega), if_pos (by omega)]; exact ⟨rfl, rfl, rfl⟩
theorem close_chord (ax ay bx b2 i j : Int) : 2 * loC ax ay bx b2 i j ≤ chordV ax ay bx b2 i j ∧ chordV ax ay bx b2 i j ≤ 2 * hiC ax ay bx b2 i j := by
  unfold loC hiC
  rcases Int.lt_trichotomy ay b2 with c | c | c
  · have n := close_none (ax := bx) (bx := ax) i j (show ay ≤ b2 by omega)
    have d := close_down (ax := ax) (bx := bx) i j c
    unfold chordV
    rw [if_neg (by omega)]
    omega
  · subst c
    have n := close_none (ax := bx) (bx := ax) i j (Int.le_refl ay)
    have m := close_none (ax := ax) (bx := bx) i j (Int.le_refl ay)
    rw [chordV_flat]
    omega
  · have n := close_none (ax := ax) (bx := bx) i j (show b2 ≤ ay by omega)
    have d := close_down (ax := bx) (bx := ax) i j c
    unfold chordV
    rw [if_pos c]
    omega
/-- Of all rings. -/
theorem close_out (L : Nat → List (Int × Int)) (N : Nat) (i j : Int) : 2 * outF (fun ax ay bx b2 => loC ax ay bx b2 i j) L N ≤ areaV L N i j ∧ areaV L N i j ≤ 2 * outF (fun ax ay bx b2 => hiC ax ay bx b2 i j) L N := by
  unfold areaV outF
  rw [← sumZ_mul, ← sumZ_mul]
  constructor
  · refine sumZ_le _ (fun r _ => ?_)
    unfold ringF
    rw [← sumZ_mul]
    exact sumZ_le _ (fun k _ => (close_chord _ _ _ _ i j).1)
  · refine sumZ_le _ (fun r _ => ?_)
    unfold ringF
    rw [← sumZ_mul]
    exact sumZ_le _ (fun k _ => (close_chord _ _ _ _ i j).2)
end Num
end Go.Proofs.Ytkhcjkmifddlbaa

/- BoxV -/
namespace Go.Proofs.Ytkhcjkmifddlbaa
open Go.RowKit Go.Deep

/-- A rectangle's corners. -/
def bxX (F : Nat → Int) (i : Nat) : Int := if i = 0 ∨ i = 3 then F 0 else F 2
def bxY (F : Nat → Int) (i : Nat) : Int := if i = 0 ∨ i = 1 then F 1 else F 3
def plainM (x y : Int) : Num.Mp := ⟨1024, 0, 0, 1024, x, y⟩
theorem plain_fair {x y : Int} (hx : -8000 ≤ x ∧ x ≤ 8000) (hy : -8000 ≤ y ∧ y ≤ 8000) : Num.fairB (plainM x y).a (plainM x y).b (plainM x y).c (plainM x y).d (plainM x y).x (plainM x y).y = true := by
  have h1 : Num.wi x 16384 = true := by simp [Num.wi]; omega
  have h2 : Num.wi y 16384 = true := by simp [Num.wi]; omega
  simp only [plainM, Num.fairB, h1, h2]
  decide
theorem plain_ok {x y : Int} (hx : -8000 ≤ x ∧ x ≤ 8000) (hy : -8000 ≤ y ∧ y ≤ 8000) : MpOk (2 * 4096) (plainM x y) := by
  intro s t hs ht
  exact place_ok (L := 4096) (D := 8000) hs ht (plain_fair hx hy) (by simp only [plainM]; omega) (by simp only [plainM]; omega) hx hy (by omega)
theorem plain_pl {x y s t : Int} (hx : -8000 ≤ x ∧ x ≤ 8000) (hy : -8000 ≤ y ∧ y ≤ 8000) (hs : -4096 ≤ s ∧ s ≤ 4096) (ht : -4096 ≤ t ∧ t ≤ 4096) : Num.pl (plainM x y) (2 * s) (2 * t) = (s + x, t + y, 0) := by
  rw [plain_ok hx hy (2 * s) (2 * t) (by omega) (by omega)]
  have h1 : Num.hu ((plainM x y).a * (2 * s) + (plainM x y).b * (2 * t)) 2048 = s := Num.hu_of _ _ _ (by omega) (by simp only [plainM]; omega) (by simp only [plainM]; omega)
  have h2 : Num.hu ((plainM x y).c * (2 * s) + (plainM x y).d * (2 * t)) 2048 = t := Num.hu_of _ _ _ (by omega) (by simp only [plainM]; omega) (by simp only [plainM]; omega)
  rw [h1, h2]
  show (x + s, y + t, (0 : Int)) = _
  rw [Int.add_comm x s, Int.add_comm y t]
def FOk (F : Nat → Int) : Prop := ∀ q, -4096 ≤ F q ∧ F q ≤ 4096
theorem bx_rng {F : Nat → Int} (h : FOk F) (i : Nat) : (-4096 ≤ bxX F i ∧ bxX F i ≤ 4096) ∧ -4096 ≤ bxY F i ∧ bxY F i ≤ 4096 := by
  have := h 0; have := h 1; have := h 2; have := h 3
  unfold bxX bxY
  constructor <;> split <;> omega
theorem box_trace {N : Nat} {F : Nat → Nat → Int} {x y : Int} (hN : N ≤ 16) (hF : ∀ k, FOk (F k)) (hx : -8000 ≤ x ∧ x ≤ 8000) (hy : -8000 ≤ y ∧ y ≤ 8000) : traceE N (fun _ => 4) (fun k => bxX (F k)) (fun k => bxY (F k)) (fun _ _ => 0) (plainM x y) = 0 := by
  have hs : ∀ k, Num.sumN (fun _ => 4) k = 4 * k := by
    intro k
    induction k with
    | zero => rfl
    | succ k ih => simp only [Num.sumN, ih]; omega
  refine trace_ok (B := 4096) hN (by rw [hs]; omega) (fun j _ => ⟨by omega, fun i _ => ?_⟩) (fun j _ i _ => bx_rng (hF j) i) (by omega) (plain_fair hx hy) (plain_ok hx hy)
  simp [Num.badB, Num.mayB]
theorem box_ring {F : Nat → Nat → Int} {x y : Int} (k : Nat) (hF : ∀ k, FOk (F k)) (hx : -8000 ≤ x ∧ x ≤ 8000) (hy : -8000 ≤ y ∧ y ≤ 8000) :
    traceL (fun _ => 4) (fun k => bxX (F k)) (fun k => bxY (F k)) (fun _ _ => 0) (plainM x y) k = [(F k 0 + x, F k 1 + y), (F k 2 + x, F k 1 + y), (F k 2 + x, F k 3 + y), (F k 0 + x, F k 3 + y)] := by
  have f0 := hF k 0
  have f1 := hF k 1
  have f2 := hF k 2
  have f3 := hF k 3
  unfold traceL ringL
  simp only
  rw [ring4 (K := fun _ => 0) rfl rfl rfl rfl]
  unfold Num.ringSp
  have ok : ∀ g, SgBd (2 * 4096) g → Num.putOk (plainM x y) g = true := fun g hg => put_ok (plain_ok hx hy) hg
  simp only [List.flatMap_cons, List.flatMap_nil, List.append_nil]
  rw [segSp_line rfl (ok _ (by simp [SgBd, bxX, bxY]; omega)), segSp_line rfl (ok _ (by simp [SgBd, bxX, bxY]; omega)), segSp_line rfl (ok _ (by simp [SgBd, bxX, bxY]; omega)), segSp_line rfl (ok _ (by simp [SgBd, bxX, bxY]; omega))]
  have b := bx_rng (hF k)
  simp only
  rw [plain_pl hx hy (b 0).1 (b 0).2, plain_pl hx hy (b 1).1 (b 1).2, plain_pl hx hy (b 2).1 (b 2).2, plain_pl hx hy (b 3).1 (b 3).2]
  simp [bxX, bxY]
def spanV (k a b : Int) : Int := Num.clp b (64 * k) (64 * k + 64) - Num.clp a (64 * k) (64 * k + 64)
theorem clp_clip {v lo hi : Int} (h : lo ≤ hi) : Num.clp v lo hi = Num.clipV v lo hi := by
  unfold Num.clp Num.clipV Num.gr Num.lsV
  repeat' split
  all_goals omega
def wantV (F : Nat → Nat → Int) (x y i j : Int) (k : Nat) : Int := Num.sumZ (fun k => -(2 * spanV i (F k 0 + x) (F k 2 + x) * spanV j (F k 1 + y) (F k 3 + y))) k
theorem box_area {F : Nat → Nat → Int} {x y : Int} (N : Nat) (i j : Int) (hF : ∀ k, FOk (F k)) (hx : -8000 ≤ x ∧ x ≤ 8000) (hy : -8000 ≤ y ∧ y ≤ 8000) :
    Num.areaV (traceL (fun _ => 4) (fun k => bxX (F k)) (fun k => bxY (F k)) (fun _ _ => 0) (plainM x y)) N i j = wantV F x y i j N := by
  unfold Num.areaV Num.outF wantV
  refine Num.sumZ_congr _ (fun k _ => ?_)
  rw [box_ring k hF hx hy]
  have h := Num.box_sum (F k 0 + x) (F k 1 + y) (F k 2 + x) (F k 3 + y) i j
  unfold spanV
  rw [clp_clip (by omega), clp_clip (by omega), clp_clip (by omega), clp_clip (by omega), ← h]
  simp [Num.ringF, Num.sumZ, Num.chF, Num.ats, Num.nxR, Num.chA]
theorem span_bd (k a b : Int) : -64 ≤ spanV k a b ∧ spanV k a b ≤ 64 := by
  unfold spanV Num.clp
  repeat' split
  all_goals omega
theorem want_bd (F : Nat → Nat → Int) (x y i j : Int) (k : Nat) : -(8192 * (k : Int)) ≤ wantV F x y i j k ∧ wantV F x y i j k ≤ 8192 * (k : Int) := by
  unfold wantV
  refine Num.sumZ_bd (B := 8192) k (fun q _ => ?_)
  have a := span_bd i (F q 0 + x) (F q 2 + x)
  have b := span_bd j (F q 1 + y) (F q 3 + y)
  have := Num.mul_bd (2 * spanV i (F q 0 + x) (F q 2 + x)) (spanV j (F q 1 + y) (F q 3 + y)) 128 64 (by omega) (by omega)
  omega
end Go.Proofs.Ytkhcjkmifddlbaa

/- Bx -/
namespace Go.Proofs.Ytkhcjkmifddlbaa
open Go.RowKit Go.Deep

set_option maxHeartbeats 400000 in
theorem kclip_any (v lo hi : Int) (w : World) : Calls Try.prog 71 #[.int .i64 v, .int .i64 lo, .int .i64 hi] w fun e w' => e = .returned (.int .i64 (Num.clp v lo hi)) ∧ w' = w := by
  by_cases h1 : v < lo
  · go_enter Try.func71, Try.ntmps71
    go_wp2
    go_ret
    exact ⟨ret_int (by unfold Num.clp; rw [if_pos h1]), rfl⟩
  · by_cases h2 : hi < v
    · go_enter Try.func71, Try.ntmps71
      go_wp2
      go_ret
      exact ⟨ret_int (by unfold Num.clp; rw [if_neg (by omega), if_pos h2]), rfl⟩
    · go_enter Try.func71, Try.ntmps71
      go_wp2
      go_ret
      exact ⟨ret_int (by unfold Num.clp; rw [if_neg (by omega), if_neg (by omega)]), rfl⟩
set_option maxHeartbeats 400000 in
theorem span_any (k a b : Int) (w : World) (hk : 0 ≤ k ∧ k ≤ 64) : Calls Try.prog 27 #[.int .i64 k, .int .i64 a, .int .i64 b] w fun e w' => e = .returned (.int .i64 (spanV k a b)) ∧ w' = w := by
  have r := span_bd k a b
  unfold spanV at r ⊢
  have r1 : 64 * k ≤ Num.clp a (64 * k) (64 * k + 64) ∧ Num.clp a (64 * k) (64 * k + 64) ≤ 64 * k + 64 := by
    unfold Num.clp; repeat' split
    all_goals omega
  have r2 : 64 * k ≤ Num.clp b (64 * k) (64 * k + 64) ∧ Num.clp b (64 * k) (64 * k + 64) ≤ 64 * k + 64 := by
    unfold Num.clp; repeat' split
    all_goals omega
  go_enter Try.func27, Try.ntmps27
  go_wp2_with (go_at_call 71; refine (kclip_any _ _ _ _).mono ?_; rintro e w' ⟨rfl, rfl⟩)
  go_ret
  exact ⟨rfl, rfl⟩
set_option maxHeartbeats 1000000 in
theorem contour_any (F : Nat → Int) (w : World) : Calls Try.prog 26 #[.agg #[.int .i64 (F 0), .int .i64 (F 1), .int .i64 (F 2), .int .i64 (F 3)]] w fun e w' => ∃ g, e = .returned (.slice (some ⟨g, 0, none⟩) 4 4) ∧ Below w.heap.size w w' ∧ w.heap.size ≤ g ∧ w'.rowIs g 133 12 (pc (bxX F) (bxY F) (fun _ => 0)) := by
  go_enter Try.func26, Try.ntmps26
  go_wp2
  go_ret
  refine ⟨w.heap.size + 1, rfl, by (repeat (any_goals (first | exact Below.refl _ _ | assumption | refine Below.drew ?_ | refine below_drewN ?_ _ | refine Below.setCell ?_ ?_ _ | refine Below.alloc ?_ ?_ _ | omega | (simp; done) | (simp; omega)))), by omega, ?_⟩
  have h := World.rowIs_alloc (w.alloc (.cells #[.int .i64 (F 0), .int .i64 (F 1), .int .i64 (F 2), .int .i64 (F 3)] 61)) #[.int .i64 (F 0), .int .i64 (F 1), .int .i64 0, .int .i64 (F 2), .int .i64 (F 1), .int .i64 0, .int .i64 (F 2), .int .i64 (F 3), .int .i64 0, .int .i64 (F 0), .int .i64 (F 3), .int .i64 0] 133 (pc (bxX F) (bxY F) (fun _ => 0)) (fun i hi => by
    have hi : i < 12 := hi
    rcases (show i = 0 ∨ i = 1 ∨ i = 2 ∨ i = 3 ∨ i = 4 ∨ i = 5 ∨ i = 6 ∨ i = 7 ∨ i = 8 ∨ i = 9 ∨ i = 10 ∨ i = 11 by omega) with rfl | rfl | rfl | rfl | rfl | rfl | rfl | rfl | rfl | rfl | rfl | rfl <;> rfl)
  rw [nblk_alloc] at h
  exact h

/-- The rectangles, as they are handed in. -/
def BoxAt (w : World) (a : Option Addr) (n : Nat) (F : Nat → Nat → Int) : Prop := n = 0 ∨ ∃ b off, a = some ⟨b, off, none⟩ ∧ ∀ k, k < n → w.cell? ⟨b, off + k * 4, none⟩ = some (.int .i64 (F k 0)) ∧ w.cell? ⟨b, off + k * 4 + 1, none⟩ = some (.int .i64 (F k 1)) ∧ w.cell? ⟨b, off + k * 4 + 2, none⟩ = some (.int .i64 (F k 2)) ∧ w.cell? ⟨b, off + k * 4 + 3, none⟩ = some (.int .i64 (F k 3))
theorem BoxAt.below {w w' : World} {a : Option Addr} {n : Nat} {F : Nat → Nat → Int} (h : BoxAt w a n F) (hb : Below w.heap.size w w') : BoxAt w' a n F := by
  rcases h with h | ⟨b, off, ha, hc⟩
  · exact Or.inl h
  · refine Or.inr ⟨b, off, ha, fun k hk => ?_⟩
    obtain ⟨c0, c1, c2, c3⟩ := hc k hk
    have hlt : b < w.heap.size := World.block_lt_of_cell? w _ c0
    exact ⟨(hb.cell (p := ⟨b, _, none⟩) hlt).trans c0, (hb.cell (p := ⟨b, _, none⟩) hlt).trans c1, (hb.cell (p := ⟨b, _, none⟩) hlt).trans c2, (hb.cell (p := ⟨b, _, none⟩) hlt).trans c3⟩

theorem box_out {w : World} {base k : Nat} {o : Value} {B : Nat → Nat} {G : Nat → Nat → Int} (hown : w.ownsRow base 62 1 o k ((List.range k).map fun i => .slice (some ⟨B i, 0, none⟩) 4 4)) (hrows : ∀ i, i < k → w.rowIs (B i) 133 12 (pc (bxX (G i)) (bxY (G i)) (fun _ => 0))) :
    ∃ ao cap2, o = .slice ao k cap2 ∧ OutAt w ao k (fun i => some ⟨B i, 0, none⟩) (fun _ => 4) (fun _ => 4) (fun i => bxX (G i)) (fun i => bxY (G i)) (fun _ _ => 0) := by
  obtain ⟨ao, cap2, rfl, hao⟩ := owns_formN hown
  refine ⟨ao, cap2, rfl, ?_, fun i hi => ?_⟩
  · rcases Nat.eq_zero_or_pos k with h | h
    · exact .inl h
    · obtain ⟨g, rfl⟩ := hao h
      refine .inr ⟨g, 0, rfl, fun i hi => ?_⟩
      have c := hown.cellAt i (by omega)
      rw [List.getElem?_map, List.getElem?_range hi] at c
      rw [Nat.zero_add, c]; rfl
  · refine .inr ⟨B i, 0, rfl, fun q hq => ?_⟩
    have := row_cells (m := 4) (hrows i hi) q hq
    rw [Nat.zero_add]
    exact this

set_option maxRecDepth 100000 in
set_option maxHeartbeats 4000000 in
theorem boxes_any (ad : Option Addr) (N cap : Nat) (F : Nat → Nat → Int) (dx dy a b i j st : Int) (w : World) (hl : BoxAt w ad N F)
    (ha : -9223372036854775808 ≤ a ∧ a ≤ 9223372036854775807) (hb : -9223372036854775808 ≤ b ∧ b ≤ 9223372036854775807) (hi : -9223372036854775808 ≤ i ∧ i ≤ 9223372036854775807) (hj : -9223372036854775808 ≤ j ∧ j ≤ 9223372036854775807) (hst : -9223372036854775808 ≤ st ∧ st ≤ 9223372036854775807) :
    Calls Try.prog 9 #[.slice ad N cap, .int .i64 dx, .int .i64 dy, .int .i64 a, .int .i64 b, .int .i64 i, .int .i64 j, .int .i64 st] w fun e w' => e = .returned (.bool true) ∧ Below w.heap.size w w' := by
  have rx := nearV_rng dx 8000 (by omega)
  have ry := nearV_rng dy 8000 (by omega)
  have rW := (windowN_rng a).1
  have rH := (windowN_rng b).1
  have ri := pickV_rng i (windowN a) (by omega)
  have rj := pickV_rng j (windowN b) (by omega)
  have rs := pickV_rng st 2 (by omega)
  obtain ⟨i0, hi0, hz0, hz1, hz2⟩ := info_parts info_ptslice
  have HL := hide hl
  go_enter Try.func9, Try.ntmps9
  go_wp2_with (first | (go_at_call 20; refine (knear_any _ _ _ (by omega)).mono ?_; rintro e w' ⟨rfl, rfl⟩) | (go_at_call 25; refine (window_any _ _ (by omega) (by omega)).mono ?_; rintro e w' ⟨rfl, rfl⟩) | (go_at_call 21; refine (pick_any _ _ _ (by omega) (by omega) (by omega)).mono ?_; rintro e w' ⟨rfl, rfl⟩))
  obtain ⟨w, hw⟩ : ∃ w, w = w' := ⟨_, rfl⟩
  subst hw
  obtain ⟨x, hx⟩ : ∃ x, x = nearV dx 8000 := ⟨_, rfl⟩
  obtain ⟨y, hy⟩ : ∃ y, y = nearV dy 8000 := ⟨_, rfl⟩
  obtain ⟨W, hW⟩ : ∃ W, W = windowN a := ⟨_, rfl⟩
  obtain ⟨H, hH⟩ : ∃ H, H = windowN b := ⟨_, rfl⟩
  obtain ⟨I, hI⟩ : ∃ I : Nat, pickV i (windowN a) = I := ⟨(pickV i (windowN a)).toNat, by omega⟩
  obtain ⟨J, hJ⟩ : ∃ J : Nat, pickV j (windowN b) = J := ⟨(pickV j (windowN b)).toNat, by omega⟩
  obtain ⟨st', hs⟩ : ∃ st', st' = pickV st 2 := ⟨_, rfl⟩
  rw [hI] at ri ⊢
  rw [hJ] at rj ⊢
  rw [← hx] at rx ⊢
  rw [← hy] at ry ⊢
  rw [← hW] at rW ri ⊢
  rw [← hH] at rH rj ⊢
  rw [← hs] at rs
  have HSt := hide hs
  obtain ⟨G, hG⟩ : ∃ G : Nat → Nat → Int, G = fun k q => nearV (F k q) 4096 := ⟨_, rfl⟩
  have HG := hide hG
  have HGb : Hid (∀ k, FOk (G k)) := fun k q => by rw [hG]; exact nearV_rng _ 4096 (by omega)
  have hW64 := rW
  have hH64 := rH
  clear hx hy hW hH hI hJ hs hG hl rW rH
  go_loopw [21, 22, 23] (fun o t22 t23 wr => ∃ (k : Nat) (B : Nat → Nat), k ≤ N ∧ k ≤ 16 ∧ t23 = .int .i64 k ∧ t22 = .int .i64 (wantV G x y I J k) ∧ Below w.heap.size w wr ∧ wr.ownsRow w.heap.size 62 1 o k ((List.range k).map fun i => .slice (some ⟨B i, 0, none⟩) 4 4) ∧ ∀ i, i < k → wr.rowIs (B i) 133 12 (pc (bxX (G i)) (bxY (G i)) (fun _ => 0))) (fun _ _ t _ => 16 - (intOf t).toNat)
  case atStart => exact ⟨0, fun _ => 0, by omega, by omega, rfl, rfl, Below.refl _ _, World.ownsRow_nil _ _ _ _, fun i hi => by omega⟩
  case round =>
    obtain ⟨o, rfl⟩ : ∃ o, o = u21 := ⟨_, rfl⟩
    obtain ⟨k, B, hk, hk16, rfl, rfl, hb1, hown, hrows⟩ := hrel
    have hsz := hb1.size
    by_cases hlt : k < N
    · have hd1 : decide ((k : Int) < (N : Int)) = true := by simp; omega
      by_cases hl16 : k < 16
      · have hd2 : decide ((k : Int) < 16) = true := by simp; omega
        rcases HL.out with h | ⟨bb, off, rfl, hc⟩
        · omega
        obtain ⟨c0, c1, c2, c3⟩ := hc k hlt
        have hbl : bb < w.heap.size := World.block_lt_of_cell? w _ c0
        have c0 := (hb1.cell (p := ⟨bb, _, none⟩) hbl).trans c0
        have c1 := (hb1.cell (p := ⟨bb, _, none⟩) hbl).trans c1
        have c2 := (hb1.cell (p := ⟨bb, _, none⟩) hbl).trans c2
        have c3 := (hb1.cell (p := ⟨bb, _, none⟩) hbl).trans c3
        have i0' : (0 : Int) ≤ (k : Int) := by omega
        have i1' : (k : Int) < (N : Int) := by omega
        have hbw : bb < wr.heap.size := by omega
        have HNr := hide (fun z w' => knear_any z 4096 w' (by omega))
        have HG0 : Hid (nearV (F k 0) 4096 = G k 0 ∧ nearV (F k 1) 4096 = G k 1 ∧ nearV (F k 2) 4096 = G k 2 ∧ nearV (F k 3) 4096 = G k 3) := by unfold Hid; rw [HG.out]; exact ⟨rfl, rfl, rfl, rfl⟩
        have HO := hide hown
        have HRw := hide hrows
        have HB := hide hb1
        clear hc hown hrows hb1
        go_wp2_with fail
        go_region_held3 (fun w' => w'.cell? ⟨bb, off + k * 4, none⟩ = some (.int .i64 (F k 0)) ∧ w'.cell? ⟨bb, off + k * 4 + 1, none⟩ = some (.int .i64 (F k 1)) ∧ w'.cell? ⟨bb, off + k * 4 + 2, none⟩ = some (.int .i64 (F k 2)) ∧ w'.cell? ⟨bb, off + k * 4 + 3, none⟩ = some (.int .i64 (F k 3))) (go_keep) ((go_at_call 20; refine (HNr.out _ _).mono ?_; rintro e w' ⟨rfl, rfl⟩))
        all_goals
          rw [HG0.out.1, HG0.out.2.1, HG0.out.2.2.1, HG0.out.2.2.2]
          obtain ⟨sb, hsb⟩ : ∃ sb, sb = wr.heap.size := ⟨_, rfl⟩
          obtain ⟨W2, hW2⟩ : ∃ W2, W2 = (wr.alloc (.cells #[.int .i64 (G k 0), .int .i64 (G k 1), .int .i64 (G k 2), .int .i64 (G k 3)] 61)).drew := ⟨_, rfl⟩
          have hS2 : W2.rowIs sb 61 4 (sh4 (G k 0) (G k 1) (G k 2) (G k 3)) := by rw [hW2, hsb]; exact (sh4_row _ _ _ _ wr _).drew
          have hB2 : Below w.heap.size w W2 := by rw [hW2]; exact (HB.out.alloc (by omega) _).drew
          have hO2 := owns_of_block (w' := W2) HO.out (fun q hq => by rw [hW2]; exact blk_alloc_lt _ _ _ (HO.out.lt q hq).2)
          have hR2 : ∀ i, i < k → W2.rowIs (B i) 133 12 (pc (bxX (G i)) (bxY (G i)) (fun _ => 0)) := fun i hi => by rw [hW2]; exact ((HRw.out i hi).alloc _).drew
          have hs2 : W2.heap.size = sb + 1 := by rw [hW2, hsb]; simp
          rw [← hW2, ← hsb]
          clear hW2
          have hwsb : w.heap.size ≤ sb := by omega
          have s0 := hS2.cell (i := 0) (by omega)
          have s1 := hS2.cell (i := 1) (by omega)
          have s2 := hS2.cell (i := 2) (by omega)
          have s3 := hS2.cell (i := 3) (by omega)
          change W2.cell? ⟨sb, 0, none⟩ = some (.int .i64 (G k 0)) at s0
          change W2.cell? ⟨sb, 1, none⟩ = some (.int .i64 (G k 1)) at s1
          change W2.cell? ⟨sb, 2, none⟩ = some (.int .i64 (G k 2)) at s2
          change W2.cell? ⟨sb, 3, none⟩ = some (.int .i64 (G k 3)) at s3
          have HS2 := hide hS2
          have HB2 := hide hB2
          have HO2 := hide hO2
          have HR2 := hide hR2
          clear hS2 hB2 hO2 hR2 hsb c0 c1 c2 c3
          go_wp2_with fail
          refine (contour_any (G k) _).mono ?_
          rintro e w3 ⟨gc, rfl, hb3, hge, hrow3⟩
          have hs3 := hb3.size
          have hB3 : Below w.heap.size w w3 := HB2.out.trans (hb3.mono (by omega))
          have hO3 := owns_of_block (w' := w3) HO2.out (fun q hq => hb3.block q (HO2.out.lt q hq).2)
          have hR3 : ∀ i, i < k → w3.rowIs (B i) 133 12 (pc (bxX (G i)) (bxY (G i)) (fun _ => 0)) := fun i hi => row_below (HR2.out i hi) hb3 (HR2.out i hi).lt
          have hS3 := row_below HS2.out hb3 (by omega)
          obtain ⟨xs, hxs⟩ : ∃ xs, xs = (List.range k).map (fun i => Value.slice (some ⟨B i, 0, none⟩) 4 4) := ⟨_, rfl⟩
          rw [← hxs] at hO3
          have HXs := hide hxs
          have HR3 := hide hR3
          have HRow3 := hide hrow3
          have HS3 := hide hS3
          have hgc3 := hrow3.lt
          clear hb3 hR3 hrow3 hS3 hxs HO2 HR2
          go_wp2_with (at_builtin; refine wpList_append_lies _ rfl _ _ 22 rfl w.heap.size 62 i0 (.slice none 0 0) 1 24 Try.underlying22 hi0 hz0 hz1 hz2 rfl (by omega) o k xs rfl (hO3.alloc _) ⟨w3.heap.size, 0, none⟩ 1 1 [.slice (some ⟨gc, 0, none⟩) 4 4] rfl rfl (news_new w3 [.slice (some ⟨gc, 0, none⟩) 4 4] _ _ rfl) (one_slice _ _ _) (by omega) (by unfold maxLen; omega) (by omega) (by first | omega | (simp; omega)) (w3.heap.size + 1) (by simp) ?_)
          intro g cap w4 hown4 hgrow hat hlt4
          have hb4 : Below w.heap.size w w4 := (hB3.alloc (by omega) _).grown hgrow (by simp; omega) (fun q hq => (hO3.lt q hq).1)
          have hfar : ∀ q, q < w3.heap.size → tyOf w3 q ≠ some 62 → w4.heap[q]? = w3.heap[q]? := fun q hq ht => grown_other hgrow (fun b hb => owns_ty hO3 hb) hq ht
          have hS4 := HS3.out.of_block (hfar sb HS3.out.lt (by rw [row_ty HS3.out]; decide))
          have HR4 : Hid (∀ i, i < k + 1 → w4.rowIs (if i = k then gc else B i) 133 12 (pc (bxX (G i)) (bxY (G i)) (fun _ => 0))) := fun i hi => by
            by_cases e : i = k
            · subst e; rw [if_pos rfl]; exact HRow3.out.of_block (hfar gc hgc3 (by rw [row_ty HRow3.out]; decide))
            · rw [if_neg e]
              have h := HR3.out i (by omega)
              exact h.of_block (hfar _ h.lt (by rw [row_ty h]; decide))
          have HO4 : Hid (w4.ownsRow w.heap.size 62 1 (.slice (some ⟨g, 0, none⟩) (k + 1) cap) (k + 1) ((List.range (k + 1)).map fun i => .slice (some ⟨if i = k then gc else B i, 0, none⟩) 4 4)) := by
            unfold Hid
            rw [range_map_snoc, range_map_congr (g := fun i => Value.slice (some ⟨B i, 0, none⟩) 4 4) (fun j hj => by rw [if_neg (by omega)]), if_pos rfl, ← HXs.out]
            exact hown4
          have s0 := hS4.cell (i := 0) (by omega)
          have s1 := hS4.cell (i := 1) (by omega)
          have s2 := hS4.cell (i := 2) (by omega)
          have s3 := hS4.cell (i := 3) (by omega)
          change w4.cell? ⟨sb, 0, none⟩ = some (.int .i64 (G k 0)) at s0
          change w4.cell? ⟨sb, 1, none⟩ = some (.int .i64 (G k 1)) at s1
          change w4.cell? ⟨sb, 2, none⟩ = some (.int .i64 (G k 2)) at s2
          change w4.cell? ⟨sb, 3, none⟩ = some (.int .i64 (G k 3)) at s3
          have f0 := HGb.out k 0
          have f1 := HGb.out k 1
          have f2 := HGb.out k 2
          have f3 := HGb.out k 3
          have u1 := span_bd I (G k 0 + x) (G k 2 + x)
          have u2 := span_bd J (G k 1 + y) (G k 3 + y)
          have u3 := Num.mul_bd (2 * spanV I (G k 0 + x) (G k 2 + x)) (spanV J (G k 1 + y) (G k 3 + y)) 128 64 (by omega) (by omega)
          have u4 := want_bd G x y I J k
          have HW : Hid (wantV G x y I J (k + 1) = wantV G x y I J k - 2 * spanV I (G k 0 + x) (G k 2 + x) * spanV J (G k 1 + y) (G k 3 + y)) := by unfold Hid wantV; simp only [Num.sumZ]; omega
          clear hown4 hgrow hat hO3 hB3 hfar hS4
          go_wp2_with (go_at_call 27; refine (span_any _ _ _ _ (by omega)).mono ?_; rintro e w5 ⟨rfl, rfl⟩)
          go_roundw
          case rel => exact ⟨k + 1, fun i => if i = k then gc else B i, by omega, by omega, by go_num, by rw [HW.out], hb4, HO4.out, HR4.out⟩
          case measure => simp [intOf]; omega
      · have hd2 : decide ((k : Int) < 16) = false := by simp; omega
        have HFin : Hid (∃ ao cap2, o = .slice ao k cap2 ∧ OutAt wr ao k (fun i => some ⟨B i, 0, none⟩) (fun _ => 4) (fun _ => 4) (fun i => bxX (G i)) (fun i => bxY (G i)) (fun _ _ => 0)) := box_out hown hrows
        obtain ⟨ao, cap2, ho, hOut⟩ := HFin.out
        subst ho
        have HB := hide hb1
        have HOut := hide hOut
        have HAr := hide (fun I J => box_area k I J HGb.out rx ry)
        have HTr := hide (box_trace (N := k) hk16 HGb.out rx ry)
        have HLd := hide (fun w' (h : OutAt w' ao k (fun i => some ⟨B i, 0, none⟩) (fun _ => 4) (fun _ => 4) (fun i => bxX (G i)) (fun i => bxY (G i)) (fun _ _ => 0)) => laid_any W H st' ao k cap2 _ _ _ _ _ _ 1024 0 0 1024 x y w' hW64 hH64 (by omega) (by omega) (fun _ _ => by omega) h HTr.out)
        have hIW : I < W := by omega
        have hJH : J < H := by omega
        have hwb := want_bd G x y I J k
        clear hown hrows hb1 hOut HFin
        go_wp2_with fail
        refine (plain_any _ _ _).mono ?_
        rintro e w2 ⟨rfl, hb2⟩
        have hs2 := hb2.size
        have HB2 := hide (HB.out.trans (hb2.mono hsz))
        have HO2 := hide (HOut.out.below hb2)
        clear hb2 HB HOut
        go_wp2_with fail
        refine (pick_any _ _ _ hst.1 hst.2 (by omega)).mono ?_
        rintro e w3 ⟨rfl, hw3⟩
        rw [hw3, ← HSt.out]
        clear hw3
        go_wp2_with fail
        refine (HLd.out _ HO2.out).mono ?_
        rintro e w4 ⟨bk, S, rfl, hb4, hC4, hS4⟩
        have hs4 := hb4.size
        have HB4 := hide (HB2.out.trans (hb4.mono (by have := HB2.out.size; omega)))
        have hC5 : Cnv w4 bk 149 W H 1 (fun i j => wantV G x y i j k) 781440000000 S st' := hC4.mono (fun i j _ _ => (HAr.out i j).symm) (Int.le_refl _)
        have HHold := hide (holds_any bk W H 1 I J _ _ _ _ _ w4 hC5 hW64 hH64 (by omega) hIW hJH (fun i j _ _ => by have := want_bd G x y i j k; omega))
        clear hb4 hC4 hS4 hC5 HLd HO2 HB2
        go_wp2_with fail
        refine HHold.out.mono ?_
        rintro e w5 ⟨rfl, hb5⟩
        have HB5 := hide (HB4.out.trans (hb5.mono (by have := HB4.out.size; omega)))
        clear hb5
        go_wp2
        go_ret
        exact ⟨rfl, HB5.out⟩
    · have hd1 : decide ((k : Int) < (N : Int)) = false := by simp; omega
      have HFin : Hid (∃ ao cap2, o = .slice ao k cap2 ∧ OutAt wr ao k (fun i => some ⟨B i, 0, none⟩) (fun _ => 4) (fun _ => 4) (fun i => bxX (G i)) (fun i => bxY (G i)) (fun _ _ => 0)) := box_out hown hrows
      obtain ⟨ao, cap2, ho, hOut⟩ := HFin.out
      subst ho
      have HB := hide hb1
      have HOut := hide hOut
      have HAr := hide (fun I J => box_area k I J HGb.out rx ry)
      have HTr := hide (box_trace (N := k) hk16 HGb.out rx ry)
      have HLd := hide (fun w' (h : OutAt w' ao k (fun i => some ⟨B i, 0, none⟩) (fun _ => 4) (fun _ => 4) (fun i => bxX (G i)) (fun i => bxY (G i)) (fun _ _ => 0)) => laid_any W H st' ao k cap2 _ _ _ _ _ _ 1024 0 0 1024 x y w' hW64 hH64 (by omega) (by omega) (fun _ _ => by omega) h HTr.out)
      have hIW : I < W := by omega
      have hJH : J < H := by omega
      have hwb := want_bd G x y I J k
      clear hown hrows hb1 hOut HFin
      go_wp2_with fail
      refine (plain_any _ _ _).mono ?_
      rintro e w2 ⟨rfl, hb2⟩
      have hs2 := hb2.size
      have HB2 := hide (HB.out.trans (hb2.mono hsz))
      have HO2 := hide (HOut.out.below hb2)
      clear hb2 HB HOut
      go_wp2_with fail
      refine (pick_any _ _ _ hst.1 hst.2 (by omega)).mono ?_
      rintro e w3 ⟨rfl, hw3⟩
      rw [hw3, ← HSt.out]
      clear hw3
      go_wp2_with fail
      refine (HLd.out _ HO2.out).mono ?_
      rintro e w4 ⟨bk, S, rfl, hb4, hC4, hS4⟩
      have hs4 := hb4.size
      have HB4 := hide (HB2.out.trans (hb4.mono (by have := HB2.out.size; omega)))
      have hC5 : Cnv w4 bk 149 W H 1 (fun i j => wantV G x y i j k) 781440000000 S st' := hC4.mono (fun i j _ _ => (HAr.out i j).symm) (Int.le_refl _)
      have HHold := hide (holds_any bk W H 1 I J _ _ _ _ _ w4 hC5 hW64 hH64 (by omega) hIW hJH (fun i j _ _ => by have := want_bd G x y i j k; omega))
      clear hb4 hC4 hS4 hC5 HLd HO2 HB2
      go_wp2_with fail
      refine HHold.out.mono ?_
      rintro e w5 ⟨rfl, hb5⟩
      have HB5 := hide (HB4.out.trans (hb5.mono (by have := HB4.out.size; omega)))
      clear hb5
      go_wp2
      go_ret
      exact ⟨rfl, HB5.out⟩
end Go.Proofs.Ytkhcjkmifddlbaa
