/- Joined: CvP, Ct, CtB, CtC, CvL, CvG. -/
import Derived.Test.YtkhcjkmifddlbaaPart4
import Derived.Test.YtkhcjkmifddlbaaPart2
import Derived.Deep.AppendLies
import Derived.Laws.AppendOwnNone
/- CvP -/
namespace Go.Proofs.Ytkhcjkmifddlbaa
open Go.RowKit Go.Deep

set_option maxRecDepth 100000 in
set_option maxHeartbeats 4000000 in
theorem layPiece_any (b W H tk : Nat) (tt : TypeId) (A : Nat → Nat → Int) (P st x0 y0 x1 y1 t : Int) (S : Nat → Prop) (w : World) (hC : Cnv w b tt W H tk A P S st) (hW : 1 ≤ W ∧ W ≤ 64) (hH : 1 ≤ H ∧ H ≤ 64) (hP : 0 ≤ P ∧ P ≤ 140737488355328)
    (ht : t = 1 ∨ t = -1) (h0 : -16384 ≤ x0 ∧ x0 ≤ 16384) (h1 : -16384 ≤ y0 ∧ y0 ≤ 16384) (h2 : -16384 ≤ x1 ∧ x1 ≤ 16384) (h3 : -16384 ≤ y1 ∧ y1 ≤ 16384) (hx : Num.noL x0 x1) (hy : Num.noL y0 y1) :
    Calls Try.prog 165 #[.pointer (some ⟨b, 0, none⟩), .agg #[.int .i64 x0, .int .i64 y0], .agg #[.int .i64 x1, .int .i64 y1], .int .i64 t] w fun e w' => e = .returned (.tuple #[]) ∧ Touch S w w' ∧ ∃ S', Cnv w' b tt W H tk (fun i j => A i j + Num.pcV t x0 y0 x1 y1 i j) (P + 1) S' st ∧ ∀ q, S' q → S q ∨ w.heap.size ≤ q := by
  have HC := hide hC
  obtain ⟨k0, k1, k2, k3, hbl⟩ := hC.cells
  have hsd : Num.skipB y0 y1 = (decide (y0 = y1) || decide (y0 < 0) || decide (y1 < 0)) := rfl
  cases hs : Num.skipB y0 y1
  · have hs' : y0 ≠ y1 ∧ 0 ≤ y0 ∧ 0 ≤ y1 := by rw [hs] at hsd; simp at hsd; omega
    have d1 : (y0 == y1) = false := by simp; exact hs'.1
    have d2 : ¬ y0 < 0 := by omega
    have d3 : ¬ y1 < 0 := by omega
    have pb := Num.piece_bd ht hx hy
    obtain ⟨r, hr⟩ : ∃ r : Nat, Num.rowV y0 y1 = r := ⟨(Num.rowV y0 y1).toNat, by
      unfold Num.rowV; have := Num.ls_or y0 y1; rw [Int.tdiv_eq_ediv_of_nonneg (by omega)]; omega⟩
    obtain ⟨c, hc⟩ : ∃ c : Nat, Num.colV x0 x1 = c := ⟨(Num.colV x0 x1).toNat, by
      unfold Num.colV; have := Num.ls_or (Num.gr x0 0) (Num.gr x1 0); have := Num.gr0 x0; have := Num.gr0 x1; rw [Int.tdiv_eq_ediv_of_nonneg (by omega)]; omega⟩
    have HSh := hide (fun w' => shareOf_any x0 y0 x1 y1 t w' ht h0 h1 h2 h3)
    rw [hr, hc] at HSh
    have HIn := hide (And.intro hs (And.intro hr hc))
    have HOut : Hid ((H : Int) ≤ r ∨ (W : Int) ≤ c → ∀ w', Below w.heap.size w w' → ∃ S', Cnv w' b tt W H tk (fun i j => A i j + Num.pcV t x0 y0 x1 y1 i j) (P + 1) S' st ∧ ∀ q, S' q → S q ∨ w.heap.size ≤ q) := fun ho w' hb =>
      ⟨S, (HC.out.below hb).mono (fun i j hi hj => by rw [pcV_out (.inr (by rw [hr, hc]; exact ho)) hi hj, Int.add_zero]) (by omega), fun q hq => .inl hq⟩
    obtain ⟨he, hHe⟩ : ∃ z, z = Num.hereV t x0 y0 x1 y1 := ⟨_, rfl⟩
    obtain ⟨ri, hRi⟩ : ∃ z, z = Num.rightV t y0 y1 := ⟨_, rfl⟩
    rw [← hHe, ← hRi] at HSh pb
    have HHe := hide hHe
    have HRi := hide hRi
    clear hC hs hsd hr hc hHe hRi
    go_enter Try.func165, Try.ntmps165
    go_wp2_with fail
    refine (HSh.out _).mono ?_
    rintro e w1 ⟨rfl, hb1⟩
    have hs1 := hb1.size
    rw [nblk_alloc, nblk_alloc] at hs1
    have HB1 : Hid (Below w.heap.size w w1) := Below.trans (((Below.refl _ _).alloc (Nat.le_refl _) _).alloc (by simp) _) (hb1.mono (by simp; omega))
    have HS1 := hide (sh4_row r c he ri w1 215)
    have HB2 := hide (HB1.out.alloc (by have := HB1.out.size; omega) (.cells #[.int .i64 (r : Int), .int .i64 (c : Int), .int .i64 he, .int .i64 ri] 215))
    obtain ⟨sb, hsb⟩ : ∃ sb, sb = w1.heap.size := ⟨_, rfl⟩
    obtain ⟨W2, hW2⟩ : ∃ W2, W2 = w1.alloc (.cells #[.int .i64 (r : Int), .int .i64 (c : Int), .int .i64 he, .int .i64 ri] 215) := ⟨_, rfl⟩
    have hs2 : W2.heap.size = sb + 1 := by rw [hW2, hsb]; simp
    rw [← hsb] at HS1
    rw [← hW2] at HS1 HB2
    clear hb1 HSh
    go_wp2_with fail
    try rw [← hW2, ← hsb]
    have HC2 := hide (HC.out.below HB2.out)
    obtain ⟨c0, c1, c2, c3, hbl2⟩ := HC2.out.cells
    have s0 := HS1.out.cell (i := 0) (by omega)
    have s1 := HS1.out.cell (i := 1) (by omega)
    have s2 := HS1.out.cell (i := 2) (by omega)
    have s3 := HS1.out.cell (i := 3) (by omega)
    change W2.cell? ⟨sb, 0, none⟩ = some (.int .i64 (r : Int)) at s0
    change W2.cell? ⟨sb, 1, none⟩ = some (.int .i64 (c : Int)) at s1
    change W2.cell? ⟨sb, 2, none⟩ = some (.int .i64 he) at s2
    change W2.cell? ⟨sb, 3, none⟩ = some (.int .i64 ri) at s3
    clear hW2 hsb k0 k1 k2 k3
    by_cases hrH : (H : Int) ≤ (r : Int)
    · have q1 : decide ((H : Int) ≤ (r : Int)) = true := by simpa using hrH
      have HO := hide (HOut.out (.inl hrH))
      go_quiet (fail)
      go_wp2
      refine bodyPost_ret (results_none rfl _ _ _) rfl ⟨rfl, ((Touch.refl S w).of_below HB2.out).drewN _, HO.out _ (below_drewN HB2.out _)⟩
    · have q1 : decide ((H : Int) ≤ (r : Int)) = false := by simpa using hrH
      by_cases hcW : (W : Int) ≤ (c : Int)
      · have q2 : decide ((W : Int) ≤ (c : Int)) = true := by simpa using hcW
        have HO := hide (HOut.out (.inr hcW))
        go_quiet (fail)
        go_wp2
        refine bodyPost_ret (results_none rfl _ _ _) rfl ⟨rfl, ((Touch.refl S w).of_below HB2.out).drewN _, HO.out _ (below_drewN HB2.out _)⟩
      · have q2 : decide ((W : Int) ≤ (c : Int)) = false := by simpa using hcW
        have HT2 := hide ((Touch.refl S w).of_below HB2.out)
        go_quiet (fail)
        obtain ⟨W3, hW3⟩ : ∃ W3, W3 = W2.drewN nq := ⟨_, rfl⟩
        have hC3 : Cnv W3 b tt W H tk A P S st := HC2.out.of_heap (by rw [hW3]; rfl)
        have HT3 : Hid (Touch S w W3) := by unfold Hid; rw [hW3]; exact HT2.out.drewN _
        have hs3 : W3.heap.size = sb + 1 := by rw [hW3]; exact hs2
        rw [← hW3]
        have c0 : W3.cell? ⟨b, 0, none⟩ = some (.int .i64 W) := by rw [hW3]; exact c0
        have c2 : W3.cell? ⟨b, 2, none⟩ = some (.int .i64 st) := by rw [hW3]; exact c2
        have s0 : W3.cell? ⟨sb, 0, none⟩ = some (.int .i64 (r : Int)) := by rw [hW3]; exact s0
        have s1 : W3.cell? ⟨sb, 1, none⟩ = some (.int .i64 (c : Int)) := by rw [hW3]; exact s1
        have s2 : W3.cell? ⟨sb, 2, none⟩ = some (.int .i64 he) := by rw [hW3]; exact s2
        have s3 : W3.cell? ⟨sb, 3, none⟩ = some (.int .i64 ri) := by rw [hW3]; exact s3
        clear hW3 HC2 HC HOut
        cases hC3 with
        | tab g T hR hT hbg hA hB hSb hSg hlt =>
          have HCall := hide (fun w' (e : w'.heap = W3.heap) => tabAdd_any b g W H r c he ri (8192 * P) T tt _ w' hW hH.2 (by omega) (by omega) (hR.of_block (by rw [e])) rfl rfl hbg (hT.of_block (by rw [e])) (by omega) hB pb.1 pb.2)
          have HFin : Hid (∀ w', Touch (fun q => q = g) W3 w' → w'.rowIs g 3 (W * H) (fun k => .int .i64 (Num.tabAdd W r c he ri T k)) → Cnv w' b tt W H tk (fun i j => A i j + Num.pcV t x0 y0 x1 y1 i j) (P + 1) S 0) := fun w' h1 h2 =>
            Cnv.tabbed ht hx hy HIn.out.1 HIn.out.2.1 HIn.out.2.2 (by omega) hR hbg hA hB hSb hSg hlt h1 (by rw [← HHe.out, ← HRi.out]; exact h2)
          have HSg := hide hSg
          clear hR hT hA hB hlt
          go_wp2_with fail
          go_region_with (go_at_call 168; refine (HCall.out W3.drew rfl).mono ?_; rintro e w4 ⟨rfl, hT4, hN4⟩)
          all_goals
            have hT4' : Touch (fun q => q = g) W3 w4 := ⟨hT4.os, hT4.tape, hT4.output, hT4.size, hT4.block⟩
            have HC4 := hide (HFin.out _ hT4' hN4)
            have HT4 := hide (HT3.out.trans' hT4' (fun q e => .inl (by rw [e]; exact HSg.out)))
            clear hT4 hN4 hT4'
            go_wp2
            go_end0
            exact ⟨rfl, HT4.out, S, HC4.out, fun q hq => .inl hq⟩
        | rws g V R hR hG hbg hA hM hSb hSg hlt =>
          have HCall := hide (fun w' (e : w'.heap = W3.heap) => rowsAdd_any b g H r c he ri (16384 * P) V R tt _ w' (by omega) (by omega) (hR.of_block (by rw [e])) rfl (hG.of_heap e) hbg (by omega) (hM r (by omega)) pb.1 pb.2)
          have HFin : Hid (∀ w' V' R', Touch (rwS g H V) W3 w' → Rws w' g H V' R' → (∀ j, j ≠ r → R' j = R j) → (∀ x, Num.rowA x (R' r) = Num.rowA x (R r) + Num.cellA x ((c : Int), he, ri)) → Num.mass (R' r) ≤ Num.mass (R r) + (Num.sz he + Num.sz ri) → (∀ q, rwS g H V' q → rwS g H V q ∨ W3.heap.size ≤ q) → ∃ S', Cnv w' b tt W H tk (fun i j => A i j + Num.pcV t x0 y0 x1 y1 i j) (P + 1) S' 1 ∧ ∀ q, S' q → S q ∨ W3.heap.size ≤ q) := fun w' V' R' t1 t2 t3 t4 t5 t6 =>
            Cnv.rowed ht hx hy HIn.out.1 HIn.out.2.1 HIn.out.2.2 hR hbg hA hM hSb hSg hlt t1 t2 t3 (by rw [← HHe.out, ← HRi.out]; exact t4) (by rw [← HHe.out, ← HRi.out]; exact t5) t6
          have HSg := hide hSg
          clear hR hG hA hM hlt
          go_wp2_with fail
          go_region_with (go_at_call 167; refine (HCall.out W3.drew rfl).mono ?_; rintro e w4 ⟨rfl, hT4, V', R', t2, t3, t4, t5, t6⟩)
          all_goals
            have hT4' : Touch (rwS g H V) W3 w4 := ⟨hT4.os, hT4.tape, hT4.output, hT4.size, hT4.block⟩
            have HC4 := hide (HFin.out _ V' R' hT4' t2 t3 t4 t5 t6)
            have HT4 := hide (HT3.out.trans' hT4' (fun q e => .inl (HSg.out q e)))
            have hs4 := HT3.out.size
            clear hT4 t2 t3 t4 t5 t6 hT4'
            go_wp2
            exact bodyPost_ret (results_none rfl _ _ _) rfl ⟨rfl, HT4.out, by
              obtain ⟨S', h1, h2⟩ := HC4.out
              exact ⟨S', h1, fun q hq => by rcases h2 q hq with h | h; exact .inl h; exact .inr (by omega)⟩⟩
  · have HOut : Hid (∀ w', Below w.heap.size w w' → ∃ S', Cnv w' b tt W H tk (fun i j => A i j + Num.pcV t x0 y0 x1 y1 i j) (P + 1) S' st ∧ ∀ q, S' q → S q ∨ w.heap.size ≤ q) := fun w' hb =>
      ⟨S, (HC.out.below hb).mono (fun i j hi hj => by rw [pcV_out (.inl hs) hi hj, Int.add_zero]) (by omega), fun q hq => .inl hq⟩
    rw [hs] at hsd
    clear hC hs
    have hB2 : Hid (Below w.heap.size w ((w.alloc (.cells #[.int .i64 x0, .int .i64 y0] 41)).alloc (.cells #[.int .i64 x1, .int .i64 y1] 41))) := ((Below.refl _ _).alloc (Nat.le_refl _) _).alloc (by simp) _
    by_cases e1 : y0 = y1
    · have d1 : (y0 == y1) = true := by simp; exact e1
      clear hsd e1
      go_enter Try.func165, Try.ntmps165
      go_wp2
      exact bodyPost_ret (results_none rfl _ _ _) rfl ⟨rfl, (Touch.refl S w).of_below hB2.out, HOut.out _ hB2.out⟩
    · have d1 : (y0 == y1) = false := by simp; exact e1
      by_cases e2 : y0 < 0
      · clear hsd e1
        go_enter Try.func165, Try.ntmps165
        go_wp2
        exact bodyPost_ret (results_none rfl _ _ _) rfl ⟨rfl, (Touch.refl S w).of_below hB2.out, HOut.out _ hB2.out⟩
      · have e3 : y1 < 0 := by simp at hsd; omega
        clear hsd e1
        go_enter Try.func165, Try.ntmps165
        go_wp2
        exact bodyPost_ret (results_none rfl _ _ _) rfl ⟨rfl, (Touch.refl S w).of_below hB2.out, HOut.out _ hB2.out⟩
end Go.Proofs.Ytkhcjkmifddlbaa

/- Ct -/
namespace Go.Proofs.Ytkhcjkmifddlbaa
open Go.RowKit Go.Deep

theorem info_int : (Try.prog.info? 3).map (fun i => (i.zero, i.size, i.bytes)) = some (some (.int .i64 0), 1, 8) := by kernel_rfl

/-- The cells of a row of ints. -/
def intC (l : List Int) : List Value := l.map (Value.int .i64)
theorem intC_snoc (l : List Int) (z : Int) : intC (l ++ [z]) = intC l ++ [.int .i64 z] := by simp [intC]

theorem start_line {p : Int} (h : -16384 ≤ p ∧ p ≤ 16384) : ∃ k : Nat, k ≤ 512 ∧ p - p.tmod 64 = Num.upK k ∧ p - p.tmod 64 = Num.dnK (512 - k) ∧ -64 < p.tmod 64 ∧ p.tmod 64 < 64 := by
  obtain ⟨e, h1, h2, h3, h4⟩ := Num.tdiv_facts p 64 (by omega)
  refine ⟨(p.tdiv 64 + 256).toNat, by omega, ?_, ?_, h1, h2⟩
  · unfold Num.upK; omega
  · unfold Num.dnK; omega

set_option maxRecDepth 100000 in
set_option maxHeartbeats 2000000 in
theorem linesBetween_any (p q : Int) (w : World) (hp : -16384 ≤ p ∧ p ≤ 16384) (hq : -16384 ≤ q ∧ q ≤ 16384) :
    Calls Try.prog 151 #[.int .i64 p, .int .i64 q] w fun e w' => ∃ v, e = .returned v ∧ Below w.heap.size w w' ∧ w'.ownsRow w.heap.size 3 1 v (Num.linesV p q).length (intC (Num.linesV p q)) := by
  obtain ⟨k0, hk0, hu, hd, t1, t2⟩ := start_line hp
  obtain ⟨n0, hn0⟩ : ∃ n0, n0 = p - p.tmod 64 := ⟨_, rfl⟩
  obtain ⟨i0, hi0, hz0, hz1, hz2⟩ := info_parts info_int
  obtain ⟨L, hL⟩ : ∃ L, L = Num.linesV p q := ⟨_, rfl⟩
  rw [← hL]
  have HL := hide hL
  rw [← hn0] at hu hd
  have b1 : -16500 ≤ n0 := by omega
  have b2 : n0 ≤ 16500 := by omega
  have b3 : n0 - 64 < p := by omega
  have b4 : p < n0 + 64 := by omega
  have HN := hide hn0
  have HU := hide hu
  have HD := hide hd
  clear hL hn0 hu hd
  by_cases hpq : p < q
  · go_enter Try.func151, Try.ntmps151
    go_wp2_with fail
    rw [← HN.out]
    go_wp2_with fail
    go_loopw [5, 6] (fun v t wr => ∃ j : Nat, j ≤ 513 ∧ t = .int .i64 (Num.upK j) ∧ (∀ k, k < j → Num.upK k < q) ∧ Below w.heap.size w wr ∧ wr.ownsRow w.heap.size 3 1 v (Num.upL p j).length (intC (Num.upL p j))) (fun _ t _ => (40000 - intOf t).toNat)
    case atStart =>
      refine ⟨k0, by omega, by rw [HU.out], fun k hk => ?_, Below.refl _ _, ?_⟩
      · have := HU.out; unfold Num.upK at this ⊢; omega
      · rw [Num.upL_start (fun k hk => by have := HU.out; unfold Num.upK at this ⊢; omega)]
        exact World.ownsRow_nil _ _ _ _
    case round =>
      obtain ⟨v, rfl⟩ : ∃ v, v = u5 := ⟨_, rfl⟩
      obtain ⟨j, hj, rfl, hall, hb, hown⟩ := hrel
      have hsz := hb.size
      have hlen := Num.upL_len p j
      have hUj : Num.upK j = 64 * ((j : Int) - 256) := rfl
      have HSu := hide (Num.upL_succ p j)
      have HAll := hide hall
      have hUs : Num.upK (j + 1) = Num.upK j + 64 := by unfold Num.upK; omega
      have HUs := hide hUs
      clear hall hUs
      by_cases hlt : Num.upK j < q
      · have hj2 : j + 1 ≤ 513 := by omega
        have HAll2 : Hid (∀ k, k < j + 1 → Num.upK k < q) := fun k hk => by
          rcases (show k < j ∨ k = j by omega) with h | h
          · exact HAll.out k h
          · rw [h]; exact hlt
        by_cases hgt : p < Num.upK j
        · have HE : Hid (Num.upL p (j + 1) = Num.upL p j ++ [Num.upK j]) := by unfold Hid; rw [HSu.out, if_pos hgt]
          have u1 : -100000 ≤ Num.upK j := by omega
          have u2 : Num.upK j ≤ 100000 := by omega
          obtain ⟨U, hU⟩ : ∃ U, U = Num.upK j := ⟨_, rfl⟩
          obtain ⟨M, hM⟩ : ∃ M, M = Num.upL p j := ⟨_, rfl⟩
          rw [← hU] at HE HUs hlt hgt u1 u2 ⊢
          rw [← hM] at HE hown hlen
          obtain ⟨ln, hln⟩ : ∃ ln, ln = M.length := ⟨_, rfl⟩
          obtain ⟨xs, hxs⟩ : ∃ xs, xs = intC M := ⟨_, rfl⟩
          rw [← hln, ← hxs] at hown
          rw [← hln] at hlen
          have HLn := hide hln
          have HXs := hide hxs
          clear hU hM hln hxs hUj
          go_wp2_with (at_builtin; refine wpList_append_lies _ rfl _ _ 140 rfl w.heap.size 3 i0 (.int .i64 0) 1 8 Try.underlying140 hi0 hz0 hz1 hz2 rfl (by omega) v ln xs rfl (hown.alloc _) ⟨wr.heap.size, 0, none⟩ 1 1 [.int .i64 U] rfl rfl ?e1 ?e2 (by omega) ?e3 ?e4 ?e5 (wr.heap.size + 1) (by simp) ?_)
          try (case e1 => exact news_sp wr [.int .i64 U] _ _ rfl)
          case e2 => first | rfl | (intro u hu; simp at hu; subst hu; rfl)
          case e3 => unfold maxLen; omega
          case e4 => omega
          case e5 => first | omega | (simp; omega)
          intro g cap w2 hown2 hgrow hat hlt2
          have hb2 : Below w.heap.size w w2 := (hb.alloc (by omega) _).grown hgrow (by simp; omega) (fun q hq => (hown.lt q hq).1)
          have HO2 : Hid (w2.ownsRow w.heap.size 3 1 (.slice (some ⟨g, 0, none⟩) (ln + 1) cap) (Num.upL p (j + 1)).length (intC (Num.upL p (j + 1)))) := by
            unfold Hid
            rw [HE.out, intC_snoc, ← HXs.out, List.length_append, ← HLn.out]
            exact hown2
          clear hown2 hgrow hat hown hb
          go_wp2
          go_roundw
          case rel => exact ⟨j + 1, hj2, by rw [HUs.out], HAll2.out, hb2, HO2.out⟩
          case measure => simp [intOf]; omega
        · have HE : Hid (Num.upL p (j + 1) = Num.upL p j) := by unfold Hid; rw [HSu.out, if_neg hgt, List.append_nil]
          have u1 : -100000 ≤ Num.upK j := by omega
          have u2 : Num.upK j ≤ 100000 := by omega
          obtain ⟨U, hU⟩ : ∃ U, U = Num.upK j := ⟨_, rfl⟩
          rw [← hU] at HUs hlt hgt u1 u2 ⊢
          have HO := hide hown
          clear hU hUj hown
          go_wp2
          go_roundw
          case rel => exact ⟨j + 1, hj2, by rw [HUs.out], HAll2.out, hb, by rw [HE.out]; exact HO.out⟩
          case measure => simp [intOf]; omega
      · have HE : Hid (L = Num.upL p j) := by
          unfold Hid
          rw [HL.out]
          exact Num.lines_up hpq hj HAll.out (fun k h1 h2 => by unfold Num.upK at hlt ⊢; omega)
        have HO := hide hown
        clear hown hUj
        go_wp2
        go_ret
        exact ⟨v, rfl, hb, by rw [HE.out]; exact HO.out⟩
  · go_enter Try.func151, Try.ntmps151
    go_wp2_with fail
    rw [← HN.out]
    go_wp2_with fail
    go_loopw [5, 6] (fun v t wr => ∃ j : Nat, j ≤ 513 ∧ t = .int .i64 (Num.dnK j) ∧ (∀ k, k < j → q < Num.dnK k) ∧ Below w.heap.size w wr ∧ wr.ownsRow w.heap.size 3 1 v (Num.dnL p j).length (intC (Num.dnL p j))) (fun _ t _ => (40000 + intOf t).toNat)
    case atStart =>
      refine ⟨512 - k0, by omega, by rw [HD.out], fun k hk => ?_, Below.refl _ _, ?_⟩
      · have := HD.out; unfold Num.dnK at this ⊢; omega
      · rw [Num.dnL_start (fun k hk => by have := HD.out; unfold Num.dnK at this ⊢; omega)]
        exact World.ownsRow_nil _ _ _ _
    case round =>
      obtain ⟨v, rfl⟩ : ∃ v, v = u5 := ⟨_, rfl⟩
      obtain ⟨j, hj, rfl, hall, hb, hown⟩ := hrel
      have hsz := hb.size
      have hlen := Num.dnL_len p j
      have hUj : Num.dnK j = 64 * (256 - (j : Int)) := rfl
      have HSu := hide (Num.dnL_succ p j)
      have HAll := hide hall
      have hUs : Num.dnK (j + 1) = Num.dnK j - 64 := by unfold Num.dnK; omega
      have HUs := hide hUs
      clear hall hUs
      by_cases hlt : q < Num.dnK j
      · have hj2 : j + 1 ≤ 513 := by omega
        have HAll2 : Hid (∀ k, k < j + 1 → q < Num.dnK k) := fun k hk => by
          rcases (show k < j ∨ k = j by omega) with h | h
          · exact HAll.out k h
          · rw [h]; exact hlt
        by_cases hgt : Num.dnK j < p
        · have HE : Hid (Num.dnL p (j + 1) = Num.dnL p j ++ [Num.dnK j]) := by unfold Hid; rw [HSu.out, if_pos hgt]
          have u1 : -100000 ≤ Num.dnK j := by omega
          have u2 : Num.dnK j ≤ 100000 := by omega
          obtain ⟨U, hU⟩ : ∃ U, U = Num.dnK j := ⟨_, rfl⟩
          obtain ⟨M, hM⟩ : ∃ M, M = Num.dnL p j := ⟨_, rfl⟩
          rw [← hU] at HE HUs hlt hgt u1 u2 ⊢
          rw [← hM] at HE hown hlen
          obtain ⟨ln, hln⟩ : ∃ ln, ln = M.length := ⟨_, rfl⟩
          obtain ⟨xs, hxs⟩ : ∃ xs, xs = intC M := ⟨_, rfl⟩
          rw [← hln, ← hxs] at hown
          rw [← hln] at hlen
          have HLn := hide hln
          have HXs := hide hxs
          clear hU hM hln hxs hUj
          go_wp2_with (at_builtin; refine wpList_append_lies _ rfl _ _ 140 rfl w.heap.size 3 i0 (.int .i64 0) 1 8 Try.underlying140 hi0 hz0 hz1 hz2 rfl (by omega) v ln xs rfl (hown.alloc _) ⟨wr.heap.size, 0, none⟩ 1 1 [.int .i64 U] rfl rfl ?f1 ?f2 (by omega) ?f3 ?f4 ?f5 (wr.heap.size + 1) (by simp) ?_)
          try (case f1 => exact news_sp wr [.int .i64 U] _ _ rfl)
          case f2 => first | rfl | (intro u hu; simp at hu; subst hu; rfl)
          case f3 => unfold maxLen; omega
          case f4 => omega
          case f5 => first | omega | (simp; omega)
          intro g cap w2 hown2 hgrow hat hlt2
          have hb2 : Below w.heap.size w w2 := (hb.alloc (by omega) _).grown hgrow (by simp; omega) (fun q hq => (hown.lt q hq).1)
          have HO2 : Hid (w2.ownsRow w.heap.size 3 1 (.slice (some ⟨g, 0, none⟩) (ln + 1) cap) (Num.dnL p (j + 1)).length (intC (Num.dnL p (j + 1)))) := by
            unfold Hid
            rw [HE.out, intC_snoc, ← HXs.out, List.length_append, ← HLn.out]
            exact hown2
          clear hown2 hgrow hat hown hb
          go_wp2
          go_roundw
          case rel => exact ⟨j + 1, hj2, by rw [HUs.out], HAll2.out, hb2, HO2.out⟩
          case measure => simp [intOf]; omega
        · have HE : Hid (Num.dnL p (j + 1) = Num.dnL p j) := by unfold Hid; rw [HSu.out, if_neg hgt, List.append_nil]
          have u1 : -100000 ≤ Num.dnK j := by omega
          have u2 : Num.dnK j ≤ 100000 := by omega
          obtain ⟨U, hU⟩ : ∃ U, U = Num.dnK j := ⟨_, rfl⟩
          rw [← hU] at HUs hlt hgt u1 u2 ⊢
          have HO := hide hown
          clear hU hUj hown
          go_wp2
          go_roundw
          case rel => exact ⟨j + 1, hj2, by rw [HUs.out], HAll2.out, hb, by rw [HE.out]; exact HO.out⟩
          case measure => simp [intOf]; omega
      · have HE : Hid (L = Num.dnL p j) := by
          unfold Hid
          rw [HL.out]
          exact Num.lines_dn (by omega) hj HAll.out (fun k h1 h2 => by unfold Num.dnK at hlt ⊢; omega)
        have HO := hide hown
        clear hown hUj
        go_wp2
        go_ret
        exact ⟨v, rfl, hb, by rw [HE.out]; exact HO.out⟩

set_option maxHeartbeats 400000 in
theorem meet_any (n p q a b : Int) (w : World) (hpq : p ≠ q) (hn : -16384 ≤ n ∧ n ≤ 16384) (hp : -16384 ≤ p ∧ p ≤ 16384) (hq : -16384 ≤ q ∧ q ≤ 16384) (ha : -16384 ≤ a ∧ a ≤ 16384) (hb : -16384 ≤ b ∧ b ≤ 16384) :
    Calls Try.prog 152 #[.int .i64 n, .int .i64 p, .int .i64 q, .int .i64 a, .int .i64 b] w fun e w' => e = .returned (.int .i64 (Num.atV a b p q n)) ∧ w' = w := by
  have m1 := Num.mul_bd (b - a) (n - p) 32768 32768 (by omega) (by omega)
  have HE := hide (Num.atV_eq (a := a) (b := b) (n := n) hpq)
  by_cases hlt : q - p < 0
  · have h1 := Num.hu_le (-((b - a) * (n - p))) (-(q - p)) 10000000000 (by omega) (by omega) (by omega) (by omega)
    go_enter Try.func152, Try.ntmps152
    go_wp2_with (go_at_call 148; refine (halfUp_any _ _ _ (by omega) (by omega) (by omega) (by omega)).mono ?_; rintro e w' ⟨rfl, rfl⟩)
    go_ret
    exact ⟨ret_int (by rw [HE.out, if_pos hlt]), rfl⟩
  · have h1 := Num.hu_le ((b - a) * (n - p)) (q - p) 10000000000 (by omega) (by omega) (by omega) (by omega)
    go_enter Try.func152, Try.ntmps152
    go_wp2_with (go_at_call 148; refine (halfUp_any _ _ _ (by omega) (by omega) (by omega) (by omega)).mono ?_; rintro e w' ⟨rfl, rfl⟩)
    go_ret
    exact ⟨ret_int (by rw [HE.out, if_neg (by omega)]), rfl⟩
end Go.Proofs.Ytkhcjkmifddlbaa

/- CtB -/
namespace Go.Proofs.Ytkhcjkmifddlbaa
open Go.RowKit Go.Deep

theorem intC_at (l : List Int) (i : Nat) (hi : i < l.length) : (intC l)[i]? = some (.int .i64 l[i]) := by simp [intC, hi]
theorem owns_int {w : World} {base b cap : Nat} {t : TypeId} {l : List Int} (h : w.ownsRow base t 1 (.slice (some ⟨b, 0, none⟩) l.length cap) l.length (intC l)) (i : Nat) (hi : i < l.length) : w.cell? ⟨b, i, none⟩ = some (.int .i64 l[i]) := by
  rw [h.cellAt i (by omega), intC_at l i hi]

theorem atRows_at {ax ay bx b2 : Int} {j : Nat} (hj : j < (Num.linesV ay b2).length) : (Num.rowsV ax ay bx b2).take (j + 1) = (Num.rowsV ax ay bx b2).take j ++ [(fun z => (Num.atV ax bx ay b2 z, z)) (Num.linesV ay b2)[j]] := by
  have hl : j < (Num.rowsV ax ay bx b2).length := by unfold Num.rowsV; simpa using hj
  rw [List.take_succ_eq_append_getElem hl]
  simp [Num.rowsV]

set_option maxRecDepth 100000 in
set_option maxHeartbeats 2000000 in
theorem atRows_any (ax ay bx b2 : Int) (w : World) (ha : (-16384 ≤ ax ∧ ax ≤ 16384) ∧ -16384 ≤ ay ∧ ay ≤ 16384) (hb : (-16384 ≤ bx ∧ bx ≤ 16384) ∧ -16384 ≤ b2 ∧ b2 ≤ 16384) :
    Calls Try.prog 131 #[.agg #[.int .i64 ax, .int .i64 ay], .agg #[.int .i64 bx, .int .i64 b2]] w fun e w' => ∃ v, e = .returned v ∧ Below w.heap.size w w' ∧ w'.ownsRow w.heap.size 41 2 v (Num.rowsV ax ay bx b2).length ((Num.rowsV ax ay bx b2).flatMap spC) ∧ ((Num.rowsV ax ay bx b2).length = 0 → v = .slice none 0 0) := by
  have hmem : ∀ z ∈ Num.linesV ay b2, (ay < z ∧ z < b2) ∨ (b2 < z ∧ z < ay) := fun z hz => Num.linesV_mem hz
  have hat0 : ∀ j (hj : j < (Num.linesV ay b2).length), (Num.rowsV ax ay bx b2).take (j + 1) = (Num.rowsV ax ay bx b2).take j ++ [(fun z => (Num.atV ax bx ay b2 z, z)) (Num.linesV ay b2)[j]] := fun j hj => atRows_at hj
  have hll : (Num.rowsV ax ay bx b2).length = (Num.linesV ay b2).length := by unfold Num.rowsV; simp
  have hle := Num.linesV_len ay b2
  obtain ⟨i0, hi0, hz0, hz1, hz2⟩ := info_parts info_spot
  have HL := hide (fun w => linesBetween_any ay b2 w ha.2 hb.2)
  obtain ⟨L, hL⟩ : ∃ L, L = Num.linesV ay b2 := ⟨_, rfl⟩
  obtain ⟨R, hR⟩ : ∃ R, R = Num.rowsV ax ay bx b2 := ⟨_, rfl⟩
  rw [← hL] at HL hmem hll hle
  have hat1 : ∀ j (hj : j < L.length), R.take (j + 1) = R.take j ++ [(fun z => (Num.atV ax bx ay b2 z, z)) L[j]] := by rw [hR, hL]; exact hat0
  rw [← hR] at hll ⊢
  have HAt := hide hat1
  have HMem := hide hmem
  clear hL hR hat0 hat1 hmem
  go_enter Try.func131, Try.ntmps131
  go_wp2_with fail
  refine (HL.out _).mono ?_
  rintro e w1 ⟨vL, rfl, hb1, hown1⟩
  have hs1 : w.heap.size + 1 < w1.heap.size := by have := hb1.size; simp at this; omega
  have hB1 : Below (w.heap.size + 2) ((w.alloc (.cells #[.int .i64 ax, .int .i64 ay] 41)).alloc (.cells #[.int .i64 bx, .int .i64 b2] 41)) w1 := hb1.mono (by simp)
  obtain ⟨ao, capL, rfl, hao⟩ := owns_formN hown1
  have HO1 := hide hown1
  have HAo := hide hao
  obtain ⟨m2, hm2⟩ : ∃ m2, m2 = L.length := ⟨_, rfl⟩
  rw [← hm2] at hle hll ⊢
  have HM2 := hide hm2
  have hbl : ∀ g2, ao = some ⟨g2, 0, none⟩ → w.heap.size + 2 ≤ g2 ∧ g2 < w1.heap.size := fun g2 e => by
    have := hown1.lt g2 (by rw [e]; rfl)
    simp at this; omega
  have HBl := hide hbl
  clear hb1 hown1 hao hm2 hbl
  go_wp2_with fail
  go_loopw [5, 15] (fun v t wr => ∃ j : Nat, j ≤ m2 ∧ t = .int .i64 j ∧ w1.heap.size ≤ wr.heap.size ∧ Below (w.heap.size + 2) ((w.alloc (.cells #[.int .i64 ax, .int .i64 ay] 41)).alloc (.cells #[.int .i64 bx, .int .i64 b2] 41)) wr ∧ wr.ownsRow (w.heap.size + 2) 41 2 v j ((R.take j).flatMap spC) ∧ (j = 0 → v = .slice none 0 0) ∧ ∀ g2, ao = some ⟨g2, 0, none⟩ → v.ownBlock ≠ some g2 ∧ wr.heap[g2]? = w1.heap[g2]?) (fun _ t _ => m2 - (intOf t).toNat)
  case atStart => exact ⟨0, by omega, rfl, Nat.le_refl _, hB1, by simpa using World.ownsRow_nil _ _ _ _, fun _ => rfl, fun g2 _ => ⟨by simp [Value.ownBlock], rfl⟩⟩
  case round =>
    obtain ⟨v, rfl⟩ : ∃ v, v = u5 := ⟨_, rfl⟩
    obtain ⟨j, hj, rfl, hsr, hB, hown, hnil, hne⟩ := hrel
    by_cases hlt : j < m2
    · have hjl : j < L.length := by rw [← HM2.out]; exact hlt
      obtain ⟨g2, rfl⟩ := HAo.out (by omega)
      obtain ⟨hne2, hblk⟩ := hne g2 rfl
      obtain ⟨gl1, gl2⟩ := HBl.out g2 rfl
      have hO2 := owns_of_block (w' := wr) HO1.out (fun b hbb => by simp [Value.ownBlock] at hbb; subst hbb; exact hblk)
      have cz := owns_int hO2 j hjl
      have hzm := HMem.out _ (List.getElem_mem hjl)
      have HTk := hide (HAt.out j hjl)
      obtain ⟨z, hz⟩ : ∃ z, z = L[j] := ⟨_, rfl⟩
      rw [← hz] at cz hzm HTk
      clear hO2 hz
      have zb : -16384 ≤ z ∧ z ≤ 16384 := by omega
      have hpq : ay ≠ b2 := by omega
      have HC := hide (fun w => meet_any z ay b2 ax bx w hpq zb ha.2 hb.2 ha.1 hb.1)
      obtain ⟨m, hm⟩ : ∃ m, m = Num.atV ax bx ay b2 z := ⟨_, rfl⟩
      rw [← hm] at HC
      have HTk2 : Hid (R.take (j + 1) = R.take j ++ [(m, z)]) := by unfold Hid; rw [HTk.out, hm]
      have hd1 : decide ((j : Int) < (m2 : Int)) = true := by simp; omega
      have sz0 : w.heap.size < wr.heap.size := by omega
      have sz1 : w.heap.size + 1 < wr.heap.size := by omega
      have a0 : wr.cell? ⟨w.heap.size, 0, none⟩ = some (.int .i64 ax) := (hB.cell (p := ⟨w.heap.size, 0, none⟩) (by simp)).trans (by go_simp)
      have a1 : wr.cell? ⟨w.heap.size, 1, none⟩ = some (.int .i64 ay) := (hB.cell (p := ⟨w.heap.size, 1, none⟩) (by simp)).trans (by go_simp)
      have e0 : wr.cell? ⟨w.heap.size + 1, 0, none⟩ = some (.int .i64 bx) := (hB.cell (p := ⟨w.heap.size + 1, 0, none⟩) (by simp)).trans (by go_simp)
      have e1 : wr.cell? ⟨w.heap.size + 1, 1, none⟩ = some (.int .i64 b2) := (hB.cell (p := ⟨w.heap.size + 1, 1, none⟩) (by simp)).trans (by go_simp)
      obtain ⟨xs, hxs⟩ : ∃ xs, xs = (R.take j).flatMap spC := ⟨_, rfl⟩
      rw [← hxs] at hown
      have HX := hide hxs
      have HNe := hide hne2
      have HBk := hide hblk
      clear hm hzm HTk hxs hne hne2 hblk hnil zb hpq
      go_wp2_with fail
      refine (HC.out _).mono ?_
      rintro e w' ⟨rfl, rfl⟩
      go_wp2_with (at_builtin; refine wpList_append_lies _ rfl _ _ 48 rfl (w.heap.size + 2) 41 i0 (.agg #[.int .i64 0, .int .i64 0]) 2 16 Try.underlying48 hi0 hz0 hz1 hz2 rfl (by omega) v j xs rfl (hown.alloc _) ⟨w'.heap.size, 0, none⟩ 1 1 [.int .i64 m, .int .i64 z] rfl rfl ?e1 ?e2 (by omega) ?e3 ?e4 ?e5 (w'.heap.size + 1) (by simp) ?_)
      try (case e1 => exact news_sp w' [.int .i64 m, .int .i64 z] _ _ rfl)
      case e2 => first | exact one_two _ _ | exact ⟨rfl, rfl⟩
      case e3 => unfold maxLen; omega
      case e4 => omega
      case e5 => first | omega | (simp; omega)
      intro g cap w4 hown4 hgrow hat hlt4
      have hb4 : Below (w.heap.size + 2) ((w.alloc (.cells #[.int .i64 ax, .int .i64 ay] 41)).alloc (.cells #[.int .i64 bx, .int .i64 b2] 41)) w4 := (hB.alloc (by omega) _).grown hgrow (by simp; omega) (fun q hq => (hown.lt q hq).1)
      have hs4 : w1.heap.size ≤ w4.heap.size := by have := hgrow.size; rw [nblk_alloc] at this; omega
      have HO4 : Hid (w4.ownsRow (w.heap.size + 2) 41 2 (.slice (some ⟨g, 0, none⟩) (j + 1) cap) (j + 1) ((R.take (j + 1)).flatMap spC)) := by
        unfold Hid
        have := push_sp (l := R.take j) (l' := R.take (j + 1)) (p := (m, z)) (m := j + 1) (by rw [← HX.out]; exact hown4) HTk2.out (by rw [List.length_take, hll]; omega)
        rw [List.length_take, hll, Nat.min_eq_left (by omega)] at this
        exact this
      have HNe2 : Hid ((Value.slice (some ⟨g, 0, none⟩) (j + 1) cap).ownBlock ≠ some g2) := by
        unfold Hid
        intro e
        simp [Value.ownBlock] at e
        rcases hat with hat | hat
        · exact HNe.out (by rw [hat, e])
        · omega
      have HBk2 : Hid (w4.heap[g2]? = w1.heap[g2]?) := by
        unfold Hid
        rw [hgrow.block g2 (by rw [nblk_alloc]; omega) (fun e => HNe.out e.symm), blk_alloc_lt _ _ _ (by omega)]
        exact HBk.out
      clear hown4 hgrow hat hown hB a0 a1 e0 e1 cz
      go_wp2
      go_roundw
      case rel => exact ⟨j + 1, by omega, by go_num, hs4, hb4, HO4.out, by omega, fun g3 e3 => by simp at e3; subst e3; exact ⟨HNe2.out, HBk2.out⟩⟩
      case measure => simp [intOf]; omega
    · have e : j = m2 := by omega
      have hd0 : decide ((j : Int) < (m2 : Int)) = false := by simp; omega
      have HO := hide hown
      have HB := hide hB
      have HNil := hide hnil
      clear hown hB hne hnil
      go_wp2
      go_ret
      refine ⟨v, rfl, Below.trans (by (repeat (any_goals (first | exact Below.refl _ _ | assumption | refine Below.drew ?_ | refine below_drewN ?_ _ | refine Below.setCell ?_ ?_ _ | refine Below.alloc ?_ ?_ _ | omega | (simp; done) | (simp; omega))))) (HB.out.mono (by omega)), ?_, fun h => HNil.out (by omega)⟩
      have h := owns_mono (base' := w.heap.size) HO.out (by omega)
      rw [List.take_of_length_le (by omega)] at h
      rw [hll, ← e]
      exact h

theorem atCols_at {ax ay bx b2 : Int} {j : Nat} (hj : j < (Num.linesV ax bx).length) : (Num.colsV ax ay bx b2).take (j + 1) = (Num.colsV ax ay bx b2).take j ++ [(fun z => (z, Num.atV ay b2 ax bx z)) (Num.linesV ax bx)[j]] := by
  have hl : j < (Num.colsV ax ay bx b2).length := by unfold Num.colsV; simpa using hj
  rw [List.take_succ_eq_append_getElem hl]
  simp [Num.colsV]

set_option maxRecDepth 100000 in
set_option maxHeartbeats 2000000 in
theorem atCols_any (ax ay bx b2 : Int) (w : World) (ha : (-16384 ≤ ax ∧ ax ≤ 16384) ∧ -16384 ≤ ay ∧ ay ≤ 16384) (hb : (-16384 ≤ bx ∧ bx ≤ 16384) ∧ -16384 ≤ b2 ∧ b2 ≤ 16384) :
    Calls Try.prog 132 #[.agg #[.int .i64 ax, .int .i64 ay], .agg #[.int .i64 bx, .int .i64 b2]] w fun e w' => ∃ v, e = .returned v ∧ Below w.heap.size w w' ∧ w'.ownsRow w.heap.size 41 2 v (Num.colsV ax ay bx b2).length ((Num.colsV ax ay bx b2).flatMap spC) ∧ ((Num.colsV ax ay bx b2).length = 0 → v = .slice none 0 0) := by
  have hmem : ∀ z ∈ Num.linesV ax bx, (ax < z ∧ z < bx) ∨ (bx < z ∧ z < ax) := fun z hz => Num.linesV_mem hz
  have hat0 : ∀ j (hj : j < (Num.linesV ax bx).length), (Num.colsV ax ay bx b2).take (j + 1) = (Num.colsV ax ay bx b2).take j ++ [(fun z => (z, Num.atV ay b2 ax bx z)) (Num.linesV ax bx)[j]] := fun j hj => atCols_at hj
  have hll : (Num.colsV ax ay bx b2).length = (Num.linesV ax bx).length := by unfold Num.colsV; simp
  have hle := Num.linesV_len ax bx
  obtain ⟨i0, hi0, hz0, hz1, hz2⟩ := info_parts info_spot
  have HL := hide (fun w => linesBetween_any ax bx w ha.1 hb.1)
  obtain ⟨L, hL⟩ : ∃ L, L = Num.linesV ax bx := ⟨_, rfl⟩
  obtain ⟨R, hR⟩ : ∃ R, R = Num.colsV ax ay bx b2 := ⟨_, rfl⟩
  rw [← hL] at HL hmem hll hle
  have hat1 : ∀ j (hj : j < L.length), R.take (j + 1) = R.take j ++ [(fun z => (z, Num.atV ay b2 ax bx z)) L[j]] := by rw [hR, hL]; exact hat0
  rw [← hR] at hll ⊢
  have HAt := hide hat1
  have HMem := hide hmem
  clear hL hR hat0 hat1 hmem
  go_enter Try.func132, Try.ntmps132
  go_wp2_with fail
  refine (HL.out _).mono ?_
  rintro e w1 ⟨vL, rfl, hb1, hown1⟩
  have hs1 : w.heap.size + 1 < w1.heap.size := by have := hb1.size; simp at this; omega
  have hB1 : Below (w.heap.size + 2) ((w.alloc (.cells #[.int .i64 ax, .int .i64 ay] 41)).alloc (.cells #[.int .i64 bx, .int .i64 b2] 41)) w1 := hb1.mono (by simp)
  obtain ⟨ao, capL, rfl, hao⟩ := owns_formN hown1
  have HO1 := hide hown1
  have HAo := hide hao
  obtain ⟨m2, hm2⟩ : ∃ m2, m2 = L.length := ⟨_, rfl⟩
  rw [← hm2] at hle hll ⊢
  have HM2 := hide hm2
  have hbl : ∀ g2, ao = some ⟨g2, 0, none⟩ → w.heap.size + 2 ≤ g2 ∧ g2 < w1.heap.size := fun g2 e => by
    have := hown1.lt g2 (by rw [e]; rfl)
    simp at this; omega
  have HBl := hide hbl
  clear hb1 hown1 hao hm2 hbl
  go_wp2_with fail
  go_loopw [5, 15] (fun v t wr => ∃ j : Nat, j ≤ m2 ∧ t = .int .i64 j ∧ w1.heap.size ≤ wr.heap.size ∧ Below (w.heap.size + 2) ((w.alloc (.cells #[.int .i64 ax, .int .i64 ay] 41)).alloc (.cells #[.int .i64 bx, .int .i64 b2] 41)) wr ∧ wr.ownsRow (w.heap.size + 2) 41 2 v j ((R.take j).flatMap spC) ∧ (j = 0 → v = .slice none 0 0) ∧ ∀ g2, ao = some ⟨g2, 0, none⟩ → v.ownBlock ≠ some g2 ∧ wr.heap[g2]? = w1.heap[g2]?) (fun _ t _ => m2 - (intOf t).toNat)
  case atStart => exact ⟨0, by omega, rfl, Nat.le_refl _, hB1, by simpa using World.ownsRow_nil _ _ _ _, fun _ => rfl, fun g2 _ => ⟨by simp [Value.ownBlock], rfl⟩⟩
  case round =>
    obtain ⟨v, rfl⟩ : ∃ v, v = u5 := ⟨_, rfl⟩
    obtain ⟨j, hj, rfl, hsr, hB, hown, hnil, hne⟩ := hrel
    by_cases hlt : j < m2
    · have hjl : j < L.length := by rw [← HM2.out]; exact hlt
      obtain ⟨g2, rfl⟩ := HAo.out (by omega)
      obtain ⟨hne2, hblk⟩ := hne g2 rfl
      obtain ⟨gl1, gl2⟩ := HBl.out g2 rfl
      have hO2 := owns_of_block (w' := wr) HO1.out (fun b hbb => by simp [Value.ownBlock] at hbb; subst hbb; exact hblk)
      have cz := owns_int hO2 j hjl
      have hzm := HMem.out _ (List.getElem_mem hjl)
      have HTk := hide (HAt.out j hjl)
      obtain ⟨z, hz⟩ : ∃ z, z = L[j] := ⟨_, rfl⟩
      rw [← hz] at cz hzm HTk
      clear hO2 hz
      have zb : -16384 ≤ z ∧ z ≤ 16384 := by omega
      have hpq : ax ≠ bx := by omega
      have HC := hide (fun w => meet_any z ax bx ay b2 w hpq zb ha.1 hb.1 ha.2 hb.2)
      obtain ⟨m, hm⟩ : ∃ m, m = Num.atV ay b2 ax bx z := ⟨_, rfl⟩
      rw [← hm] at HC
      have HTk2 : Hid (R.take (j + 1) = R.take j ++ [(z, m)]) := by unfold Hid; rw [HTk.out, hm]
      have hd1 : decide ((j : Int) < (m2 : Int)) = true := by simp; omega
      have sz0 : w.heap.size < wr.heap.size := by omega
      have sz1 : w.heap.size + 1 < wr.heap.size := by omega
      have a0 : wr.cell? ⟨w.heap.size, 0, none⟩ = some (.int .i64 ax) := (hB.cell (p := ⟨w.heap.size, 0, none⟩) (by simp)).trans (by go_simp)
      have a1 : wr.cell? ⟨w.heap.size, 1, none⟩ = some (.int .i64 ay) := (hB.cell (p := ⟨w.heap.size, 1, none⟩) (by simp)).trans (by go_simp)
      have e0 : wr.cell? ⟨w.heap.size + 1, 0, none⟩ = some (.int .i64 bx) := (hB.cell (p := ⟨w.heap.size + 1, 0, none⟩) (by simp)).trans (by go_simp)
      have e1 : wr.cell? ⟨w.heap.size + 1, 1, none⟩ = some (.int .i64 b2) := (hB.cell (p := ⟨w.heap.size + 1, 1, none⟩) (by simp)).trans (by go_simp)
      obtain ⟨xs, hxs⟩ : ∃ xs, xs = (R.take j).flatMap spC := ⟨_, rfl⟩
      rw [← hxs] at hown
      have HX := hide hxs
      have HNe := hide hne2
      have HBk := hide hblk
      clear hm hzm HTk hxs hne hne2 hblk hnil zb hpq
      go_wp2_with fail
      refine (HC.out _).mono ?_
      rintro e w' ⟨rfl, rfl⟩
      go_wp2_with (at_builtin; refine wpList_append_lies _ rfl _ _ 48 rfl (w.heap.size + 2) 41 i0 (.agg #[.int .i64 0, .int .i64 0]) 2 16 Try.underlying48 hi0 hz0 hz1 hz2 rfl (by omega) v j xs rfl (hown.alloc _) ⟨w'.heap.size, 0, none⟩ 1 1 [.int .i64 z, .int .i64 m] rfl rfl ?e1 ?e2 (by omega) ?e3 ?e4 ?e5 (w'.heap.size + 1) (by simp) ?_)
      try (case e1 => exact news_sp w' [.int .i64 z, .int .i64 m] _ _ rfl)
      case e2 => first | exact one_two _ _ | exact ⟨rfl, rfl⟩
      case e3 => unfold maxLen; omega
      case e4 => omega
      case e5 => first | omega | (simp; omega)
      intro g cap w4 hown4 hgrow hat hlt4
      have hb4 : Below (w.heap.size + 2) ((w.alloc (.cells #[.int .i64 ax, .int .i64 ay] 41)).alloc (.cells #[.int .i64 bx, .int .i64 b2] 41)) w4 := (hB.alloc (by omega) _).grown hgrow (by simp; omega) (fun q hq => (hown.lt q hq).1)
      have hs4 : w1.heap.size ≤ w4.heap.size := by have := hgrow.size; rw [nblk_alloc] at this; omega
      have HO4 : Hid (w4.ownsRow (w.heap.size + 2) 41 2 (.slice (some ⟨g, 0, none⟩) (j + 1) cap) (j + 1) ((R.take (j + 1)).flatMap spC)) := by
        unfold Hid
        have := push_sp (l := R.take j) (l' := R.take (j + 1)) (p := (z, m)) (m := j + 1) (by rw [← HX.out]; exact hown4) HTk2.out (by rw [List.length_take, hll]; omega)
        rw [List.length_take, hll, Nat.min_eq_left (by omega)] at this
        exact this
      have HNe2 : Hid ((Value.slice (some ⟨g, 0, none⟩) (j + 1) cap).ownBlock ≠ some g2) := by
        unfold Hid
        intro e
        simp [Value.ownBlock] at e
        rcases hat with hat | hat
        · exact HNe.out (by rw [hat, e])
        · omega
      have HBk2 : Hid (w4.heap[g2]? = w1.heap[g2]?) := by
        unfold Hid
        rw [hgrow.block g2 (by rw [nblk_alloc]; omega) (fun e => HNe.out e.symm), blk_alloc_lt _ _ _ (by omega)]
        exact HBk.out
      clear hown4 hgrow hat hown hB a0 a1 e0 e1 cz
      go_wp2
      go_roundw
      case rel => exact ⟨j + 1, by omega, by go_num, hs4, hb4, HO4.out, by omega, fun g3 e3 => by simp at e3; subst e3; exact ⟨HNe2.out, HBk2.out⟩⟩
      case measure => simp [intOf]; omega
    · have e : j = m2 := by omega
      have hd0 : decide ((j : Int) < (m2 : Int)) = false := by simp; omega
      have HO := hide hown
      have HB := hide hB
      have HNil := hide hnil
      clear hown hB hne hnil
      go_wp2
      go_ret
      refine ⟨v, rfl, Below.trans (by (repeat (any_goals (first | exact Below.refl _ _ | assumption | refine Below.drew ?_ | refine below_drewN ?_ _ | refine Below.setCell ?_ ?_ _ | refine Below.alloc ?_ ?_ _ | omega | (simp; done) | (simp; omega))))) (HB.out.mono (by omega)), ?_, fun h => HNil.out (by omega)⟩
      have h := owns_mono (base' := w.heap.size) HO.out (by omega)
      rw [List.take_of_length_le (by omega)] at h
      rw [hll, ← e]
      exact h

end Go.Proofs.Ytkhcjkmifddlbaa

/- CtC -/
namespace Go.Proofs.Ytkhcjkmifddlbaa
open Go.RowKit Go.Deep

/-- The cells of a spot that lies alone. -/
def sp2 (x y : Int) (q : Nat) : Value := [Value.int .i64 x, .int .i64 y][q]?.getD undef
theorem sp2_row (x y : Int) (w : World) (t : TypeId) : (w.alloc (.cells #[.int .i64 x, .int .i64 y] t)).rowIs w.heap.size t 2 (sp2 x y) := by
  refine World.rowIs_alloc w #[.int .i64 x, .int .i64 y] t (sp2 x y) (fun i hi => ?_)
  have hi : i < 2 := hi
  rcases (show i = 0 ∨ i = 1 by omega) with rfl | rfl <;> rfl
theorem sp2_cells {x y : Int} {w : World} {b : Nat} {t : TypeId} (h : w.rowIs b t 2 (sp2 x y)) : w.cell? ⟨b, 0, none⟩ = some (.int .i64 x) ∧ w.cell? ⟨b, 1, none⟩ = some (.int .i64 y) :=
  ⟨h.cell (i := 0) (by omega), h.cell (i := 1) (by omega)⟩
theorem sp2_set {x y : Int} {w : World} {b : Nat} {t : TypeId} (h : w.rowIs b t 2 (sp2 x y)) (x' y' : Int) : ((w.setCell ⟨b, 0, none⟩ (.int .i64 x')).setCell ⟨b, 1, none⟩ (.int .i64 y')).rowIs b t 2 (sp2 x' y') := by
  refine ((h.set 0 _).set 1 _).congr fun q hq => ?_
  rcases (show q = 0 ∨ q = 1 by omega) with rfl | rfl <;> rfl

theorem set_otherB {w2 : World} {h q : Nat} {v : Value} {b : Nat} (hb : b ≠ h) : (w2.setCell ⟨h, q, none⟩ v).heap[b]? = w2.heap[b]? := blk_setCell_other _ _ _ _ (by simpa using hb)

/-- The spots up to row spot j. -/
def cutU (ax ay : Int) (RR : List (Int × Int)) (j : Nat) : List (Int × Int) := (ax, ay) :: Num.cutF ax ay (RR.take j)
theorem cutU_succ {ax ay : Int} {RR : List (Int × Int)} {j : Nat} (hj : j < RR.length) {x y : Int} (hl : Num.lastS ax ay (RR.take j) = (x, y)) :
    cutU ax ay RR (j + 1) = (cutU ax ay RR j ++ Num.colsV x y RR[j].1 RR[j].2) ++ [RR[j]] := by
  unfold cutU
  rw [List.take_succ_eq_append_getElem hj, Num.cutF_snoc, hl]
  simp
theorem cutU_len (ax ay : Int) (RR : List (Int × Int)) (j : Nat) (hj : RR.length ≤ 1027) : (cutU ax ay RR j).length ≤ 1054730 := by
  unfold cutU
  have h := Num.cutF_len (RR.take j) ax ay
  have h2 : (RR.take j).length ≤ 1027 := Nat.le_trans (List.length_take_le' _ _) hj
  simp only [List.length_cons]
  omega
theorem cuts_yes {ax ay bx b2 : Int} (ha : Num.inB ax ay = true) (hb : Num.inB bx b2 = true) : Num.cutsE ax ay bx b2 = 0 ∧ Num.cutsL ax ay bx b2 = cutU ax ay (Num.rowsV ax ay bx b2 ++ [(bx, b2)]) (Num.rowsV ax ay bx b2 ++ [(bx, b2)]).length := by
  have e : Num.cutsE ax ay bx b2 = 0 := by unfold Num.cutsE; rw [ha, hb]; rfl
  refine ⟨e, ?_⟩
  unfold Num.cutsL
  rw [if_pos e]
  unfold cutU
  rw [List.take_length]
theorem cuts_no {ax ay bx b2 : Int} (h : (Num.inB ax ay && Num.inB bx b2) = false) : Num.cutsE ax ay bx b2 = 6 ∧ Num.cutsL ax ay bx b2 = [] := by
  have e : Num.cutsE ax ay bx b2 = 6 := by unfold Num.cutsE; rw [h]; rfl
  exact ⟨e, by unfold Num.cutsL; rw [if_neg (by rw [e]; decide)]⟩

set_option maxRecDepth 100000 in
set_option maxHeartbeats 4000000 in
theorem chordCuts_any (ax ay bx b2 : Int) (w : World) :
    Calls Try.prog 102 #[.agg #[.int .i64 ax, .int .i64 ay], .agg #[.int .i64 bx, .int .i64 b2]] w fun e w' => ∃ v, e = .returned (.tuple #[v, .int .i64 (Num.cutsE ax ay bx b2)]) ∧ Below w.heap.size w w' ∧ w'.ownsRow w.heap.size 41 2 v (Num.cutsL ax ay bx b2).length ((Num.cutsL ax ay bx b2).flatMap spC) := by
  cases ha : Num.inB ax ay
  · obtain ⟨e1, e2⟩ := cuts_no (ax := ax) (ay := ay) (bx := bx) (b2 := b2) (by rw [ha]; rfl)
    rw [e1, e2]
    clear e1 e2
    go_enter Try.func102, Try.ntmps102
    go_wp2_with (go_at_call 125; refine (inRange_exact _ _ _).mono ?_; rintro e w' ⟨rfl, rfl⟩)
    go_ret2
    exact ⟨_, rfl, by (repeat (any_goals (first | exact Below.refl _ _ | assumption | refine Below.drew ?_ | refine below_drewN ?_ _ | refine Below.setCell ?_ ?_ _ | refine Below.alloc ?_ ?_ _ | omega | (simp; done) | (simp; omega)))), World.ownsRow_nil _ _ _ _⟩
  cases hb : Num.inB bx b2
  · obtain ⟨e1, e2⟩ := cuts_no (ax := ax) (ay := ay) (bx := bx) (b2 := b2) (by rw [ha, hb]; rfl)
    rw [e1, e2]
    clear e1 e2
    go_enter Try.func102, Try.ntmps102
    go_wp2_with (go_at_call 125; refine (inRange_exact _ _ _).mono ?_; rintro e w' ⟨rfl, rfl⟩)
    go_ret2
    exact ⟨_, rfl, by (repeat (any_goals (first | exact Below.refl _ _ | assumption | refine Below.drew ?_ | refine below_drewN ?_ _ | refine Below.setCell ?_ ?_ _ | refine Below.alloc ?_ ?_ _ | omega | (simp; done) | (simp; omega)))), World.ownsRow_nil _ _ _ _⟩
  obtain ⟨eE, eL⟩ := cuts_yes ha hb
  have hRin : ∀ t ∈ Num.rowsV ax ay bx b2 ++ [(bx, b2)], Num.inB t.1 t.2 = true := fun t ht => by
    rcases List.mem_append.1 ht with ht | ht
    · exact Num.rowsV_in ha hb t ht
    · simp at ht; subst ht; exact hb
  have hRle := Num.rowsV_len ax ay bx b2
  have HAR := hide (fun w => atRows_any ax ay bx b2 w (Num.inB_yes ha) (Num.inB_yes hb))
  obtain ⟨R, hR⟩ : ∃ R, R = Num.rowsV ax ay bx b2 := ⟨_, rfl⟩
  rw [← hR] at eL hRin hRle HAR
  obtain ⟨RR, hRR⟩ : ∃ RR, RR = R ++ [(bx, b2)] := ⟨_, rfl⟩
  have hRRl : RR.length = R.length + 1 := by rw [hRR]; simp
  rw [← hRR] at eL hRin
  have HRf : Hid (RR.flatMap spC = R.flatMap spC ++ [.int .i64 bx, .int .i64 b2]) := by unfold Hid; rw [hRR]; simp [spC]
  rw [eE, eL]
  have HIn := hide hRin
  clear hR hRR eE eL hRin
  obtain ⟨i0, hi0, hz0, hz1, hz2⟩ := info_parts info_spot
  go_enter Try.func102, Try.ntmps102
  go_wp2_with (go_at_call 125; refine (inRange_exact _ _ _).mono ?_; rintro e w' ⟨rfl, rfl⟩)
  refine (HAR.out _).mono ?_
  rintro e w1 ⟨vR, rfl, hb1, hown1, _⟩
  have hs1 : w.heap.size + 1 < w1.heap.size := by have := hb1.size; simp at this; omega
  have hs0 : w.heap.size < w1.heap.size := by omega
  have hB1 : Below w.heap.size w w1 := Below.trans (by (repeat (any_goals (first | exact Below.refl _ _ | assumption | refine Below.drew ?_ | refine below_drewN ?_ _ | refine Below.setCell ?_ ?_ _ | refine Below.alloc ?_ ?_ _ | omega | (simp; done) | (simp; omega))))) (hb1.mono (by simp; omega))
  have a0 : w1.cell? ⟨w.heap.size, 0, none⟩ = some (.int .i64 ax) := (hb1.cell (p := ⟨w.heap.size, 0, none⟩) (by first | (simp; done) | (simp; omega))).trans (by go_simp)
  have a1 : w1.cell? ⟨w.heap.size, 1, none⟩ = some (.int .i64 ay) := (hb1.cell (p := ⟨w.heap.size, 1, none⟩) (by first | (simp; done) | (simp; omega))).trans (by go_simp)
  have e0 : w1.cell? ⟨w.heap.size + 1, 0, none⟩ = some (.int .i64 bx) := (hb1.cell (p := ⟨w.heap.size + 1, 0, none⟩) (by first | (simp; done) | (simp; omega))).trans (by go_simp)
  have e1 : w1.cell? ⟨w.heap.size + 1, 1, none⟩ = some (.int .i64 b2) := (hb1.cell (p := ⟨w.heap.size + 1, 1, none⟩) (by first | (simp; done) | (simp; omega))).trans (by go_simp)
  have hown1 := owns_mono (base' := w.heap.size + 2) hown1 (by simp)
  clear hb1
  obtain ⟨m, hm⟩ : ∃ m, m = R.length := ⟨_, rfl⟩
  obtain ⟨xs, hxs⟩ : ∃ xs, xs = R.flatMap spC := ⟨_, rfl⟩
  rw [← hm, ← hxs] at hown1
  rw [← hm] at hRRl hRle
  rw [← hxs] at HRf
  clear hm hxs
  go_wp2_with (at_builtin; refine wpList_append_lies _ rfl _ _ 48 rfl (w.heap.size + 2) 41 i0 (.agg #[.int .i64 0, .int .i64 0]) 2 16 Try.underlying48 hi0 hz0 hz1 hz2 rfl (by omega) vR m xs rfl (hown1.alloc _) ⟨w1.heap.size, 0, none⟩ 1 1 [.int .i64 bx, .int .i64 b2] rfl rfl ?e1 ?e2 (by omega) ?e3 ?e4 ?e5 (w1.heap.size + 1) (by simp) ?_)
  try (case e1 => exact news_sp w1 [.int .i64 bx, .int .i64 b2] _ _ rfl)
  case e2 => first | exact one_two _ _ | exact ⟨rfl, rfl⟩
  case e3 => unfold maxLen; omega
  case e4 => omega
  case e5 => first | omega | (simp; omega)
  intro g6 cap6 w2 hown2 hgrow hat hlt2
  have hB2 : Below w.heap.size w w2 := (hB1.alloc (by omega) _).grown hgrow (by simp; omega) (fun q hq => by have := (hown1.lt q hq).1; omega)
  have hs2 : w.heap.size + 1 < w2.heap.size := by have := hgrow.size; rw [nblk_alloc] at this; omega
  have hs2' : w.heap.size < w2.heap.size := by omega
  have hty : ∀ b, b < w.heap.size + 2 → some b ≠ vR.ownBlock := fun b hb e => by have := (hown1.lt b e.symm).1; omega
  have a0' : w2.cell? ⟨w.heap.size, 0, none⟩ = some (.int .i64 ax) := (hgrow.cell_far ⟨w.heap.size, 0, none⟩ (by simp; omega) (hty _ (by simp))).trans (by go_simp)
  have a1' : w2.cell? ⟨w.heap.size, 1, none⟩ = some (.int .i64 ay) := (hgrow.cell_far ⟨w.heap.size, 1, none⟩ (by simp; omega) (hty _ (by simp))).trans (by go_simp)
  have hg6 : w.heap.size + 2 ≤ g6 := (hown2.lt g6 rfl).1
  rw [← HRf.out, ← hRRl] at hown2
  have HO2 := hide hown2
  clear hown2 hgrow hat hown1 hB1 a0 a1 e0 e1 hty
  obtain ⟨n, hn⟩ : ∃ n, n = RR.length := ⟨_, rfl⟩
  have hmn : m + 1 = n := by omega
  rw [hmn]
  have HN := hide hn
  have hRR2 : RR.length ≤ 1027 := by omega
  have n2 : n ≤ 1027 := by omega
  have HLt := hide hRR2
  clear hn hmn hRRl hRle hRR2
  have HF0 := hide (sp2_row ax ay (w2.alloc (.cells #[.int .i64 ax, .int .i64 ay] 41)) 41)
  have HV0 := hide (World.ownsRow_lit (base := w.heap.size) (e := 41) (size := 2) w2 #[.int .i64 ax, .int .i64 ay] 1 (by omega) (by unfold maxLen; omega) rfl)
  rw [nblk_alloc] at HF0
  obtain ⟨FB, hFB⟩ : ∃ FB, FB = w2.heap.size + 1 := ⟨_, rfl⟩
  go_wp2_with fail
  rw [← hFB] at HF0 ⊢
  have hFB1 : w2.heap.size < FB := by omega
  have hFB2 : FB < w2.heap.size + 2 := by omega
  clear hFB
  go_loopw [7, 32] (fun v t wr => ∃ (j : Nat) (x y : Int), j ≤ n ∧ t = .int .i64 j ∧ FB < wr.heap.size ∧ Below w.heap.size w wr ∧ wr.rowIs FB 41 2 (sp2 x y) ∧ Num.lastS ax ay (RR.take j) = (x, y) ∧ wr.heap[g6]? = w2.heap[g6]? ∧ v.ownBlock ≠ some g6 ∧ v.ownBlock ≠ some FB ∧ wr.ownsRow w.heap.size 41 2 v (cutU ax ay RR j).length ((cutU ax ay RR j).flatMap spC)) (fun _ t _ => n - (intOf t).toNat)
  case atStart =>
    refine ⟨0, ax, ay, by omega, rfl, ?_, ?_, HF0.out, rfl, ?_, ?_, ?_, ?_⟩
    · have := HF0.out.lt; exact this
    · exact (hB2.alloc (by omega) _).alloc (by simp; omega) _
    · rw [blk_alloc_lt _ _ _ (by simp; omega), blk_alloc_lt _ _ _ (by omega)]
    · simp [Value.ownBlock]; omega
    · simp [Value.ownBlock]; omega
    · have e : cutU ax ay RR 0 = [(ax, ay)] := by simp [cutU, Num.cutF]
      rw [e]
      exact HV0.out.alloc _
  case round =>
    obtain ⟨v, rfl⟩ : ∃ v, v = u7 := ⟨_, rfl⟩
    obtain ⟨j, fx, fy, hj, rfl, hsr, hB, hFr, hlast, hblk, hne6, hneF, hown⟩ := hrel
    by_cases hlt : j < n
    · have hjl : j < RR.length := by rw [← HN.out]; exact hlt
      have hO6 := owns_of_block (w' := wr) HO2.out (fun b hbb => by simp [Value.ownBlock] at hbb; subst hbb; exact hblk)
      obtain ⟨q0, q1⟩ := owns_sp hO6 j hjl
      have hlen := cutU_len ax ay RR j HLt.out
      have hlen2 := cutU_len ax ay RR (j + 1) HLt.out
      have HSu := hide (cutU_succ hjl hlast)
      have hfin : Num.inB fx fy = true := by
        have := Num.lastS_in (RR.take j) ax ay ha (fun t ht => HIn.out t (List.mem_of_mem_take ht))
        rw [hlast] at this
        exact this
      have htin := HIn.out _ (List.getElem_mem hjl)
      have HLa : Hid (Num.lastS ax ay (RR.take (j + 1)) = RR[j]) := by unfold Hid; rw [List.take_succ_eq_append_getElem hjl, Num.lastS_snoc]
      obtain ⟨tt, htt⟩ : ∃ tt, tt = RR[j] := ⟨_, rfl⟩
      rw [← htt] at q0 q1 HSu htin HLa
      obtain ⟨tx, ty⟩ := tt
      simp only at q0 q1 HSu htin
      have HC := hide (fun w => atCols_any fx fy tx ty w (Num.inB_yes hfin) (Num.inB_yes htin))
      have hcl := Num.colsV_len fx fy tx ty
      obtain ⟨CV, hCV⟩ : ∃ CV, CV = Num.colsV fx fy tx ty := ⟨_, rfl⟩
      rw [← hCV] at HC HSu hcl
      obtain ⟨f0, f1⟩ := sp2_cells hFr
      have HFr := hide hFr
      have HBk := hide hblk
      have HNe6 := hide hne6
      have HNeF := hide hneF
      obtain ⟨U, hU⟩ : ∃ U, U = cutU ax ay RR j := ⟨_, rfl⟩
      rw [← hU] at HSu hown hlen
      have hd1 : decide ((j : Int) < (n : Int)) = true := by simp; omega
      have hg6w : g6 < wr.heap.size := (hO6.lt g6 rfl).2
      clear hO6 htt hfin htin hCV hU hlast hFr hblk hne6 hneF
      go_wp2_with fail
      refine (HC.out _).mono ?_
      rintro e w5 ⟨vC, rfl, hb5, hown5, hnil5⟩
      have hs5 : wr.heap.size < w5.heap.size := by have := hb5.size; simp at this; omega
      have k0 : w5.cell? ⟨wr.heap.size, 0, none⟩ = some (.int .i64 tx) := (hb5.cell (p := ⟨wr.heap.size, 0, none⟩) (by simp)).trans (by go_simp)
      have k1 : w5.cell? ⟨wr.heap.size, 1, none⟩ = some (.int .i64 ty) := (hb5.cell (p := ⟨wr.heap.size, 1, none⟩) (by simp)).trans (by go_simp)
      have hB5 : Below w.heap.size w w5 := (hB.alloc (by omega) _).trans (hb5.mono (by simp; omega))
      have HF5 := hide (row_below (HFr.out.alloc (.cells #[.int .i64 tx, .int .i64 ty] 41)) hb5 (by simp; omega))
      have hownA := hown.alloc (.cells #[.int .i64 tx, .int .i64 ty] 41)
      have hownV := owns_of_block hownA (fun b hbb => hb5.block b (hownA.lt b hbb).2)
      have hvlt : ∀ b, v.ownBlock = some b → b < wr.heap.size := fun b hbb => (hown.lt b hbb).2
      have HBk5 : Hid (w5.heap[g6]? = w2.heap[g6]?) := by
        unfold Hid
        rw [hb5.block g6 (by simp; omega), blk_alloc_lt _ _ _ hg6w]
        exact HBk.out
      have HVl := hide hvlt
      clear hb5 hownA hown hB f0 f1 q0 q1 hvlt
      by_cases hc0 : CV.length = 0
      · have hv0 := hnil5 hc0
        have hCV0 : CV = [] := List.eq_nil_of_length_eq_zero hc0
        subst hv0 hCV0
        rw [List.append_nil] at HSu
        obtain ⟨ln, hln⟩ : ∃ ln, ln = U.length := ⟨_, rfl⟩
        obtain ⟨ys, hys⟩ : ∃ ys, ys = U.flatMap spC := ⟨_, rfl⟩
        rw [← hln, ← hys] at hownV
        rw [← hln] at hlen
        have HLn := hide hln
        have HYs := hide hys
        clear hln hys hnil5 hown5
        go_wp2_with (at_builtin; first | refine wpList_append_own_none rfl _ _ 48 rfl w.heap.size 41 i0 2 Try.underlying48 hi0 v ln ys rfl hownV rfl ?_ | refine wpList_append_lies _ rfl _ _ 48 rfl w.heap.size 41 i0 (.agg #[.int .i64 0, .int .i64 0]) 2 16 Try.underlying48 hi0 hz0 hz1 hz2 rfl (by omega) v ln ys rfl (hownV.alloc _) ⟨w5.heap.size, 0, none⟩ 1 1 [.int .i64 tx, .int .i64 ty] rfl rfl ?h1 ?h2 (by omega) ?h3 ?h4 ?h5 (w5.heap.size + 1) (by simp) ?_)
        try (case h1 => exact news_sp w5 [.int .i64 tx, .int .i64 ty] _ _ rfl)
        case h2 => first | exact one_two _ _ | exact ⟨rfl, rfl⟩
        case h3 => unfold maxLen; omega
        case h4 => omega
        case h5 => first | omega | (simp; omega)
        intro g8 cap8 w8 hown8 hgrow8 hat8 hlt8
        have hs8 := hgrow8.size
        rw [nblk_alloc] at hs8
        have hb8 : Below w.heap.size w w8 := (hB5.alloc (by omega) _).grown hgrow8 (by simp; omega) (fun q hq => (hownV.lt q hq).1)
        have hF8 : w8.rowIs FB 41 2 (sp2 fx fy) := (HF5.out.alloc _).of_block (hgrow8.block FB (by rw [nblk_alloc]; omega) (fun e => HNeF.out e.symm))
        obtain ⟨f0, f1⟩ := sp2_cells hF8
        have z0 := hF8.frozen 0
        have z1 := hF8.frozen 1
        have hF8lt := hF8.lt
        have HF9 := hide (sp2_set hF8 tx ty)
        have hbk8 : w8.heap[g6]? = w2.heap[g6]? := by
          rw [hgrow8.block g6 (by rw [nblk_alloc]; omega) (fun e => HNe6.out e.symm), blk_alloc_lt _ _ _ (by omega)]
          exact HBk5.out
        have hg6F : g6 ≠ FB := by omega
        have HBk9 : Hid (((w8.setCell ⟨FB, 0, none⟩ (.int .i64 tx)).setCell ⟨FB, 1, none⟩ (.int .i64 ty)).heap[g6]? = w2.heap[g6]?) := by
          unfold Hid
          rw [set_otherB hg6F, set_otherB hg6F]
          exact hbk8
        have hn6' : (Value.slice (some ⟨g8, 0, none⟩) (ln + 1) cap8).ownBlock ≠ some g6 := fun e => by
          simp [Value.ownBlock] at e
          rcases hat8 with hat8 | hat8
          · exact HNe6.out (by rw [hat8, e])
          · omega
        have hnF' : (Value.slice (some ⟨g8, 0, none⟩) (ln + 1) cap8).ownBlock ≠ some FB := fun e => by
          simp [Value.ownBlock] at e
          rcases hat8 with hat8 | hat8
          · exact HNeF.out (by rw [hat8, e])
          · omega
        have HO9 : Hid (((w8.setCell ⟨FB, 0, none⟩ (.int .i64 tx)).setCell ⟨FB, 1, none⟩ (.int .i64 ty)).ownsRow w.heap.size 41 2 (.slice (some ⟨g8, 0, none⟩) (ln + 1) cap8) (cutU ax ay RR (j + 1)).length ((cutU ax ay RR (j + 1)).flatMap spC)) := by
          unfold Hid
          have h := push_sp (l := U) (l' := cutU ax ay RR (j + 1)) (p := (tx, ty)) (m := ln + 1) (by rw [← HYs.out]; exact hown8) HSu.out (by rw [HLn.out])
          exact owns_of_block h (fun b hbb => by rw [set_otherB (fun e => hnF' (by rw [hbb, e])), set_otherB (fun e => hnF' (by rw [hbb, e]))])
        have HB9 : Hid (Below w.heap.size w ((w8.setCell ⟨FB, 0, none⟩ (.int .i64 tx)).setCell ⟨FB, 1, none⟩ (.int .i64 ty))) := (hb8.setCell (by show w.heap.size ≤ FB; omega) _).setCell (by show w.heap.size ≤ FB; omega) _
        have HN9 := hide (And.intro hn6' hnF')
        have hs9 : FB < ((w8.setCell ⟨FB, 0, none⟩ (.int .i64 tx)).setCell ⟨FB, 1, none⟩ (.int .i64 ty)).heap.size := HF9.out.lt
        have HS9 := hide hs9
        have hnw : some wr.heap.size ≠ v.ownBlock := fun e => by have := (hownV.lt _ e.symm); exact absurd (HVl.out _ e.symm) (Nat.lt_irrefl _)
        have p0 : w8.cell? ⟨wr.heap.size, 0, none⟩ = some (.int .i64 tx) := (hgrow8.cell_far ⟨wr.heap.size, 0, none⟩ (by simp; omega) hnw).trans (by go_simp)
        have p1 : w8.cell? ⟨wr.heap.size, 1, none⟩ = some (.int .i64 ty) := (hgrow8.cell_far ⟨wr.heap.size, 1, none⟩ (by simp; omega) hnw).trans (by go_simp)
        have hwr8 : wr.heap.size < w8.heap.size := by omega
        have hFBr : FB < wr.heap.size := hsr
        clear hown8 hgrow8 hat8 hF8 hbk8 hn6' hnF' hb8 hnw hownV hs9
        go_wp2
        go_roundw
        case rel => exact ⟨j + 1, tx, ty, by omega, by go_num, HS9.out, HB9.out, HF9.out, HLa.out, HBk9.out, HN9.out.1, HN9.out.2, HO9.out⟩
        case measure => simp [intOf]; omega
      · obtain ⟨gC, capC, rfl, hgC1, hgC2⟩ := hown5.form (by omega)
        have HNews := hide (news_row hown5)
        have HFl := hide (flat2_len CV)
        have HOne := hide (flat2_one CV)
        obtain ⟨lc, hlc⟩ : ∃ lc, lc = CV.length := ⟨_, rfl⟩
        obtain ⟨zs, hzs⟩ : ∃ zs, zs = CV.flatMap spC := ⟨_, rfl⟩
        obtain ⟨lu, hlu⟩ : ∃ lu, lu = U.length := ⟨_, rfl⟩
        obtain ⟨us, hus⟩ : ∃ us, us = U.flatMap spC := ⟨_, rfl⟩
        rw [← hzs] at HNews HFl HOne
        rw [← hlc] at HFl hc0 hcl ⊢
        rw [← hlu, ← hus] at hownV
        rw [← hlu] at hlen
        have HSum : Hid ((U ++ CV).length = lu + lc ∧ (U ++ CV).flatMap spC = us ++ zs) := by
          unfold Hid; rw [hlu, hlc, hus, hzs]; simp
        clear hlc hzs hlu hus hnil5 hown5
        go_wp2_with (at_builtin; refine wpList_append_lies _ rfl _ _ 48 rfl w.heap.size 41 i0 (.agg #[.int .i64 0, .int .i64 0]) 2 16 Try.underlying48 hi0 hz0 hz1 hz2 rfl (by omega) v lu us rfl hownV ⟨gC, 0, none⟩ lc capC zs rfl HFl.out HNews.out HOne.out (by omega) ?r3 ?r4 ?r5 w5.heap.size rfl ?_)
        case r3 => unfold maxLen; omega
        case r4 => omega
        case r5 => first | omega | (simp; omega)
        intro g7 cap7 w7 hown7 hgrow7 hat7 hlt7
        have hs7 := hgrow7.size
        have hB7 : Below w.heap.size w w7 := hB5.grown hgrow7 (by omega) (fun q hq => (hownV.lt q hq).1)
        have hFBlt : FB < w5.heap.size := by omega
        have HF7 := hide (HF5.out.of_block (hgrow7.block FB hFBlt (fun e => HNeF.out e.symm)))
        have HBk7 : Hid (w7.heap[g6]? = w2.heap[g6]?) := by
          unfold Hid
          rw [hgrow7.block g6 (by omega) (fun e => HNe6.out e.symm)]
          exact HBk5.out
        have hnk : some wr.heap.size ≠ v.ownBlock := fun e => by have := HVl.out _ e.symm; omega
        have k0' : w7.cell? ⟨wr.heap.size, 0, none⟩ = some (.int .i64 tx) := (hgrow7.cell_far ⟨wr.heap.size, 0, none⟩ hs5 hnk).trans k0
        have k1' : w7.cell? ⟨wr.heap.size, 1, none⟩ = some (.int .i64 ty) := (hgrow7.cell_far ⟨wr.heap.size, 1, none⟩ hs5 hnk).trans k1
        have hs7' : wr.heap.size < w7.heap.size := by omega
        have HNe6' : Hid ((Value.slice (some ⟨g7, 0, none⟩) (lu + lc) cap7).ownBlock ≠ some g6) := by
          unfold Hid
          intro e
          simp [Value.ownBlock] at e
          rcases hat7 with hat7 | hat7
          · exact HNe6.out (by rw [hat7, e])
          · omega
        have HNeF' : Hid ((Value.slice (some ⟨g7, 0, none⟩) (lu + lc) cap7).ownBlock ≠ some FB) := by
          unfold Hid
          intro e
          simp [Value.ownBlock] at e
          rcases hat7 with hat7 | hat7
          · exact HNeF.out (by rw [hat7, e])
          · omega
        have HNw' : Hid (some wr.heap.size ≠ (Value.slice (some ⟨g7, 0, none⟩) (lu + lc) cap7).ownBlock) := by
          unfold Hid
          intro e
          simp [Value.ownBlock] at e
          rcases hat7 with hat7 | hat7
          · have := HVl.out g7 hat7; omega
          · omega
        clear hgrow7 hat7 hownV hB5 k0 k1 HF5 HBk5 HNe6 HNeF
        obtain ⟨v7, hv7⟩ : ∃ v7, v7 = Value.slice (some ⟨g7, 0, none⟩) (lu + lc) cap7 := ⟨_, rfl⟩
        rw [← hv7] at HNe6' HNeF' HNw' hown7 ⊢
        have HNe6 := HNe6'
        have HNeF := HNeF'
        have HNw := HNw'
        clear hv7 HNe6' HNeF' HNw'
        obtain ⟨ln, hln⟩ : ∃ ln, ln = lu + lc := ⟨_, rfl⟩
        obtain ⟨ys, hys⟩ : ∃ ys, ys = us ++ zs := ⟨_, rfl⟩
        rw [← hln, ← hys] at hown7
        rw [← hln, ← hys] at HSum
        have hlen' : ln ≤ 1100000 := by omega
        have HLn : Hid (ln = (U ++ CV).length) := HSum.out.1.symm
        have HYs : Hid (ys = (U ++ CV).flatMap spC) := HSum.out.2.symm
        clear hln hys
        go_wp2_with (at_builtin; refine wpList_append_lies _ rfl _ _ 48 rfl w.heap.size 41 i0 (.agg #[.int .i64 0, .int .i64 0]) 2 16 Try.underlying48 hi0 hz0 hz1 hz2 rfl (by omega) v7 ln ys rfl (hown7.alloc _) ⟨w7.heap.size, 0, none⟩ 1 1 [.int .i64 tx, .int .i64 ty] rfl rfl ?l1 ?l2 (by omega) ?l3 ?l4 ?l5 (w7.heap.size + 1) (by simp) ?_)
        try (case l1 => exact news_sp w7 [.int .i64 tx, .int .i64 ty] _ _ rfl)
        case l2 => first | exact one_two _ _ | exact ⟨rfl, rfl⟩
        case l3 => unfold maxLen; omega
        case l4 => omega
        case l5 => first | omega | (simp; omega)
        intro g8 cap8 w8 hown8 hgrow8 hat8 hlt8
        have hs8 := hgrow8.size
        rw [nblk_alloc] at hs8
        have hb8 : Below w.heap.size w w8 := (hB7.alloc (by omega) _).grown hgrow8 (by simp; omega) (fun q hq => (hown7.lt q hq).1)
        have hF8 : w8.rowIs FB 41 2 (sp2 fx fy) := (HF7.out.alloc _).of_block (hgrow8.block FB (by rw [nblk_alloc]; omega) (fun e => HNeF.out e.symm))
        obtain ⟨f0, f1⟩ := sp2_cells hF8
        have z0 := hF8.frozen 0
        have z1 := hF8.frozen 1
        have hF8lt := hF8.lt
        have HF9 := hide (sp2_set hF8 tx ty)
        have hbk8 : w8.heap[g6]? = w2.heap[g6]? := by
          rw [hgrow8.block g6 (by rw [nblk_alloc]; omega) (fun e => HNe6.out e.symm), blk_alloc_lt _ _ _ (by omega)]
          exact HBk7.out
        have hg6F : g6 ≠ FB := by omega
        have HBk9 : Hid (((w8.setCell ⟨FB, 0, none⟩ (.int .i64 tx)).setCell ⟨FB, 1, none⟩ (.int .i64 ty)).heap[g6]? = w2.heap[g6]?) := by
          unfold Hid
          rw [set_otherB hg6F, set_otherB hg6F]
          exact hbk8
        have hn6' : (Value.slice (some ⟨g8, 0, none⟩) (ln + 1) cap8).ownBlock ≠ some g6 := fun e => by
          simp [Value.ownBlock] at e
          rcases hat8 with hat8 | hat8
          · exact HNe6.out (by rw [hat8, e])
          · omega
        have hnF' : (Value.slice (some ⟨g8, 0, none⟩) (ln + 1) cap8).ownBlock ≠ some FB := fun e => by
          simp [Value.ownBlock] at e
          rcases hat8 with hat8 | hat8
          · exact HNeF.out (by rw [hat8, e])
          · omega
        have HO9 : Hid (((w8.setCell ⟨FB, 0, none⟩ (.int .i64 tx)).setCell ⟨FB, 1, none⟩ (.int .i64 ty)).ownsRow w.heap.size 41 2 (.slice (some ⟨g8, 0, none⟩) (ln + 1) cap8) (cutU ax ay RR (j + 1)).length ((cutU ax ay RR (j + 1)).flatMap spC)) := by
          unfold Hid
          have h := push_sp (l := (U ++ CV)) (l' := cutU ax ay RR (j + 1)) (p := (tx, ty)) (m := ln + 1) (by rw [← HYs.out]; exact hown8) HSu.out (by rw [HLn.out])
          exact owns_of_block h (fun b hbb => by rw [set_otherB (fun e => hnF' (by rw [hbb, e])), set_otherB (fun e => hnF' (by rw [hbb, e]))])
        have HB9 : Hid (Below w.heap.size w ((w8.setCell ⟨FB, 0, none⟩ (.int .i64 tx)).setCell ⟨FB, 1, none⟩ (.int .i64 ty))) := (hb8.setCell (by show w.heap.size ≤ FB; omega) _).setCell (by show w.heap.size ≤ FB; omega) _
        have HN9 := hide (And.intro hn6' hnF')
        have hs9 : FB < ((w8.setCell ⟨FB, 0, none⟩ (.int .i64 tx)).setCell ⟨FB, 1, none⟩ (.int .i64 ty)).heap.size := HF9.out.lt
        have HS9 := hide hs9
        have hnw : some wr.heap.size ≠ v7.ownBlock := fun e => by have := (hown7.lt _ e.symm); exact HNw.out e
        have p0 : w8.cell? ⟨wr.heap.size, 0, none⟩ = some (.int .i64 tx) := (hgrow8.cell_far ⟨wr.heap.size, 0, none⟩ (by simp; omega) hnw).trans (by go_simp)
        have p1 : w8.cell? ⟨wr.heap.size, 1, none⟩ = some (.int .i64 ty) := (hgrow8.cell_far ⟨wr.heap.size, 1, none⟩ (by simp; omega) hnw).trans (by go_simp)
        have hwr8 : wr.heap.size < w8.heap.size := by omega
        have hFBr : FB < wr.heap.size := hsr
        clear hown8 hgrow8 hat8 hF8 hbk8 hn6' hnF' hb8 hnw hown7 hs9
        go_wp2
        go_roundw
        case rel => exact ⟨j + 1, tx, ty, by omega, by go_num, HS9.out, HB9.out, HF9.out, HLa.out, HBk9.out, HN9.out.1, HN9.out.2, HO9.out⟩
        case measure => simp [intOf]; omega
    · have e : j = n := by omega
      have hd0 : decide ((j : Int) < (n : Int)) = false := by simp; omega
      have HO := hide hown
      have HB := hide hB
      clear hown hB hFr hlast hblk hne6 hneF
      go_wp2
      go_ret2
      refine ⟨v, rfl, HB.out, ?_⟩
      have h := HO.out
      rw [e, HN.out] at h
      exact h

set_option maxHeartbeats 400000 in
theorem glyphCuts_any (ax ay bx b2 : Int) (w : World) :
    Calls Try.prog 67 #[.agg #[.int .i64 ax, .int .i64 ay], .agg #[.int .i64 bx, .int .i64 b2]] w fun e w' => ∃ v, e = .returned (.tuple #[v, .int .i64 (Num.cutsE ax ay bx b2)]) ∧ Below w.heap.size w w' ∧ w'.ownsRow w.heap.size 41 2 v (Num.cutsL ax ay bx b2).length ((Num.cutsL ax ay bx b2).flatMap spC) := by
  go_enter Try.func67, Try.ntmps67
  go_wp2_with fail
  refine (chordCuts_any _ _ _ _ _).mono ?_
  rintro e w1 ⟨v, rfl, hb, hown⟩
  have hb0 : Below w.heap.size w w1 := Below.trans (by (repeat (any_goals (first | exact Below.refl _ _ | assumption | refine Below.drew ?_ | refine below_drewN ?_ _ | refine Below.setCell ?_ ?_ _ | refine Below.alloc ?_ ?_ _ | omega | (simp; done) | (simp; omega))))) (hb.mono (by simp; omega))
  have HW := hide (owns_mono (base' := w.heap.size) hown (by simp; omega))
  clear hown hb
  go_wp2
  go_ret2
  exact ⟨v, rfl, hb0, HW.out⟩
end Go.Proofs.Ytkhcjkmifddlbaa

/- CvL -/
namespace Go.Proofs.Ytkhcjkmifddlbaa
open Go.RowKit Go.Deep

theorem lastS_in' {ax ay : Int} {l : List (Int × Int)} (m : Nat) (ha : Num.inB ax ay = true) (hl : ∀ t ∈ l, Num.inB t.1 t.2 = true) : Num.inB (Num.lastS ax ay (l.take m)).1 (Num.lastS ax ay (l.take m)).2 = true :=
  Num.lastS_in _ _ _ ha (fun t ht => hl t (List.mem_of_mem_take ht))

set_option maxRecDepth 100000 in
set_option maxHeartbeats 4000000 in
theorem layChord_any (b W H tk : Nat) (tt : TypeId) (A : Nat → Nat → Int) (P st ax ay bx b2 t : Int) (S : Nat → Prop) (w : World) (hC : Cnv w b tt W H tk A P S st) (hW : 1 ≤ W ∧ W ≤ 64) (hH : 1 ≤ H ∧ H ≤ 64) (hP : 0 ≤ P ∧ P ≤ 140737487255328)
    (ht : t = 1 ∨ t = -1) (ha : Num.inB ax ay = true) (hb : Num.inB bx b2 = true) :
    Calls Try.prog 163 #[.pointer (some ⟨b, 0, none⟩), .agg #[.int .i64 ax, .int .i64 ay], .agg #[.int .i64 bx, .int .i64 b2], .int .i64 t] w fun e w' => e = .returned (.tuple #[]) ∧ Touch S w w' ∧ ∃ S', Cnv w' b tt W H tk (fun i j => A i j + t * Num.chordV ax ay bx b2 i j) (P + 1100000) S' st ∧ ∀ q, S' q → S q ∨ w.heap.size ≤ q := by
  have HC := hide hC
  have hE : Num.cutsE ax ay bx b2 = 0 := by unfold Num.cutsE; rw [ha, hb]; rfl
  have HCut := hide (fun w' => chordCuts_any ax ay bx b2 w')
  rw [hE] at HCut
  have HSum : Hid (∀ i j : Int, Num.sumP i j ax ay (Num.cutsL ax ay bx b2) = Num.chordV ax ay bx b2 i j) := fun i j => Num.sumP_cuts i j ha hb
  have HLen := Num.cutsL_len ax ay bx b2
  have HInL : Hid (∀ t ∈ Num.cutsL ax ay bx b2, Num.inB t.1 t.2 = true) := Num.cutsL_in
  obtain ⟨l, hl⟩ : ∃ l, l = Num.cutsL ax ay bx b2 := ⟨_, rfl⟩
  have HPc := hide (Num.pcOk_cuts hl)
  rw [← hl] at HCut HSum HInL HLen
  have HA := hide ha
  obtain ⟨n, hn⟩ : ∃ n, n = l.length := ⟨_, rfl⟩
  rw [← hn] at HLen
  have HN := hide hn
  clear hl hE hC hb ha hn
  go_enter Try.func163, Try.ntmps163
  go_wp2_with fail
  refine (HCut.out _).mono ?_
  rintro e w1 ⟨vL, rfl, hb1, hown1⟩
  have hs1 := hb1.size
  rw [nblk_alloc, nblk_alloc] at hs1
  have HB1 : Hid (Below w.heap.size w w1) := Below.trans (((Below.refl _ _).alloc (Nat.le_refl _) _).alloc (by simp) _) (hb1.mono (by simp; omega))
  obtain ⟨q0, q1⟩ := sp2_cells (row_below ((sp2_row ax ay w 41).alloc (.cells #[.int .i64 bx, .int .i64 b2] 41)) hb1 (by simp; omega))
  obtain ⟨ao, cap0, hv, hao⟩ := owns_formN hown1
  rw [hv] at hown1 ⊢
  have hbase : ∀ q, ao = some ⟨q, 0, none⟩ → w.heap.size ≤ q ∧ q < w1.heap.size := fun q e => by
    subst e
    have := hown1.lt q rfl
    simp at this; omega
  have HBase := hide hbase
  have HAo := hide hao
  have HO1 := hide hown1
  rw [← HN.out]
  rw [← HN.out] at HAo
  have hw1 : w.heap.size < w1.heap.size := by omega
  clear hb1 hown1 hv hao hbase HCut
  go_wp2_with fail
  obtain ⟨FB, hFB⟩ : ∃ FB, FB = w1.heap.size := ⟨_, rfl⟩
  obtain ⟨wB, hwB⟩ : ∃ wB, wB = w1.alloc (.cells #[.int .i64 ax, .int .i64 ay] 41) := ⟨_, rfl⟩
  have hsB : wB.heap.size = FB + 1 := by rw [hwB, hFB]; simp
  have HFr : Hid (wB.rowIs FB 41 2 (sp2 ax ay)) := by unfold Hid; rw [hwB, hFB]; exact sp2_row ax ay w1 _
  have HBB : Hid (Below w.heap.size w wB) := by unfold Hid; rw [hwB]; exact HB1.out.alloc (by omega) _
  have HOB : Hid (wB.ownsRow 0 41 2 (.slice ao l.length cap0) l.length (l.flatMap spC)) := by unfold Hid; rw [hwB]; exact owns_mono (HO1.out.alloc _) (Nat.zero_le _)
  have HBase2 : Hid (∀ q, ao = some ⟨q, 0, none⟩ → w.heap.size ≤ q ∧ q < FB) := fun q e => by rw [hFB]; exact HBase.out q e
  have hFw : w.heap.size < FB := by omega
  try rw [← hwB, ← hFB]
  clear hwB hFB HO1 HB1 HBase q0 q1 hw1
  have HCB := hide (HC.out.below HBB.out)
  have HSl : Hid (∀ q, S q → q < w.heap.size) := fun q hq => HC.out.lt hq
  clear HC
  go_loopw [24] (fun t' wr => ∃ (m : Nat) (fx fy : Int) (S' : Nat → Prop), m ≤ n ∧ t' = .int .i64 m ∧ Num.lastS ax ay (l.take m) = (fx, fy) ∧ Touch S w wr ∧ FB < wr.heap.size ∧ wr.rowIs FB 41 2 (sp2 fx fy) ∧ (∀ q, ao = some ⟨q, 0, none⟩ → wr.heap[q]? = wB.heap[q]?) ∧
      Cnv wr b tt W H tk (fun i j => A i j + t * Num.sumP i j ax ay (l.take m)) (P + m) S' st ∧ ∀ q, S' q → S q ∨ FB < q) (fun t' _ => n - (intOf t').toNat)
  case atStart => exact ⟨0, ax, ay, S, by omega, rfl, rfl, (Touch.refl S w).of_below HBB.out, by omega, HFr.out, fun _ _ => rfl, HCB.out.mono (fun i j _ _ => by simp [Num.sumP]) (by simp), fun q hq => .inl hq⟩
  case round =>
    obtain ⟨m, fx, fy, S', hm, rfl, hlast, hto, hFlt, hrow, hblk, hcv, hS'⟩ := hrel
    by_cases hlt : m < n
    · have hml : m < l.length := by rw [← HN.out]; exact hlt
      obtain ⟨gL, rfl⟩ := HAo.out (by omega)
      obtain ⟨hgL1, hgL2⟩ := HBase2.out gL rfl
      have hOr := owns_of_block (w' := wr) HOB.out (fun q hq => by
        have e : q = gL := by simp [Value.ownBlock] at hq; exact hq.symm
        subst e; exact hblk q rfl)
      obtain ⟨d0, d1⟩ := owns_sp hOr m hml
      have HPa := hide (Num.pcOk_at l ax ay HPc.out m hml)
      have HSt : Hid (∀ i j : Int, Num.sumP i j ax ay (l.take (m + 1)) = Num.sumP i j ax ay (l.take m) + (if Num.inRow j (Num.lastS ax ay (l.take m)).2 l[m].2 = true then Num.pieceA i (Num.lastS ax ay (l.take m)).1 (Num.lastS ax ay (l.take m)).2 l[m].1 l[m].2 else 0)) := fun i j => Num.sumP_take i j ax ay l m hml
      have HLs := hide (Num.lastS_take ax ay l m hml)
      have hin1 := Num.inB_yes (lastS_in' (l := l) m HA.out HInL.out)
      have hin2 := Num.inB_yes (HInL.out l[m] (List.getElem_mem hml))
      rw [hlast] at HPa HSt hin1
      obtain ⟨p, hp⟩ : ∃ p, p = l[m] := ⟨_, rfl⟩
      rw [← hp] at HPa HSt HLs hin2 d0 d1
      clear hp
      obtain ⟨tx, ty⟩ := p
      simp only at HPa HSt hin1 hin2 d0 d1
      have hSlt : ∀ q, S' q → q < wr.heap.size := fun q hq => hcv.lt hq
      have hFS : ¬ S' FB := fun e => by
        rcases hS' FB e with h | h
        · have := HSl.out FB h; omega
        · omega
      have hgS : ¬ S' gL := fun e => by
        rcases hS' gL e with h | h
        · have := HSl.out gL h; omega
        · omega
      have hTS : ¬ S' wr.heap.size := fun e => by have := hSlt _ e; omega
      have HCall := hide (layPiece_any b W H tk tt _ (P + m) st fx fy tx ty t S' _ (hcv.below ((Below.refl _ _).alloc (Nat.le_refl _) (.cells #[.int .i64 tx, .int .i64 ty] 41))) hW hH (by omega) ht hin1.1 hin1.2 hin2.1 hin2.2 HPa.out.1 HPa.out.2)
      have HEq : Hid (∀ i j : Nat, A i j + t * Num.sumP i j ax ay (l.take m) + Num.pcV t fx fy tx ty i j = A i j + t * Num.sumP i j ax ay (l.take (m + 1))) := fun i j => by
        rw [HSt.out, Num.pcV_eq HPa.out.1 HPa.out.2 (by omega) (by omega), Int.mul_add]; omega
      have HTR := hide (sp2_row tx ty wr 41)
      have HFr1 := hide (hrow.alloc (.cells #[.int .i64 tx, .int .i64 ty] 41))
      have HTo := hide (hto.alloc (.cells #[.int .i64 tx, .int .i64 ty] 41))
      have HSn := hide (And.intro hFS (And.intro hgS hTS))
      have HS' := hide hS'
      have hgLw : gL < wr.heap.size := by omega
      have HBl := hide (hblk gL rfl)
      obtain ⟨f0, f1⟩ := sp2_cells hrow
      have hd1 : decide ((m : Int) < (n : Int)) = true := by simp; omega
      have i0' : (0 : Int) ≤ (m : Int) := by omega
      have i1' : (m : Int) < (n : Int) := by omega
      clear hOr hcv hto hrow hblk hS' hFS hgS hTS hSlt hlast
      go_wp2_with fail
      refine HCall.out.mono ?_
      rintro e w3 ⟨rfl, hT3, S2, hC3, hS2⟩
      have hs3 := hT3.size
      rw [nblk_alloc] at hs3
      have hFr3 := hT3.row HFr1.out HSn.out.1
      have hTr3 := hT3.row HTR.out HSn.out.2.2
      obtain ⟨g0, g1⟩ := sp2_cells hTr3
      obtain ⟨f0', f1'⟩ := sp2_cells hFr3
      have z0 := hFr3.frozen 0
      have z1 := hFr3.frozen 1
      have hFl3 := hFr3.lt
      have HF3 := hide (sp2_set hFr3 tx ty)
      have HT3 : Hid (Touch S w w3) := HTo.out.trans' hT3 (fun q e => by rcases HS'.out q e with h | h; exact .inl h; exact .inr (by omega))
      have HT4 : Hid (Touch S w ((w3.setCell ⟨FB, 0, none⟩ (.int .i64 tx)).setCell ⟨FB, 1, none⟩ (.int .i64 ty))) := (HT3.out.setCell (.inr (by show w.heap.size ≤ FB; omega)) _).setCell (.inr (by show w.heap.size ≤ FB; omega)) _
      have hgF : gL ≠ FB := by omega
      have HBl3 : Hid (((w3.setCell ⟨FB, 0, none⟩ (.int .i64 tx)).setCell ⟨FB, 1, none⟩ (.int .i64 ty)).heap[gL]? = wB.heap[gL]?) := by
        unfold Hid
        rw [set_otherB hgF, set_otherB hgF, hT3.block gL (by simp; omega) HSn.out.2.1, blk_alloc_lt _ _ _ hgLw]
        exact HBl.out
      have HC4 : Hid (Cnv ((w3.setCell ⟨FB, 0, none⟩ (.int .i64 tx)).setCell ⟨FB, 1, none⟩ (.int .i64 ty)) b tt W H tk (fun i j => A i j + t * Num.sumP i j ax ay (l.take (m + 1))) (P + ((m + 1 : Nat) : Int)) S2 st) := by
        have hFS2 : ∀ q, S2 q → ¬ q = FB := fun q hq e => by
          rcases hS2 q hq with h | h
          · rw [e] at h; exact HSn.out.1 h
          · simp at h; omega
        have t1 : Touch (fun q => q = FB) w3 ((w3.setCell ⟨FB, 0, none⟩ (.int .i64 tx)).setCell ⟨FB, 1, none⟩ (.int .i64 ty)) := ((Touch.refl (fun q => q = FB) w3).setCell (p := ⟨FB, 0, none⟩) (.inl rfl) _).setCell (p := ⟨FB, 1, none⟩) (.inl rfl) _
        exact (hC3.touch t1 hFS2).mono (fun i j _ _ => (HEq.out i j).symm) (by omega)
      have HS4 : Hid (∀ q, S2 q → S q ∨ FB < q) := fun q hq => by
        rcases hS2 q hq with h | h
        · exact HS'.out q h
        · simp at h; exact .inr (by omega)
      have hw3 : wr.heap.size < w3.heap.size := by omega
      clear hT3 hC3 hS2 hFr3 hTr3 HCall
      go_wp2
      go_roundw
      case rel => exact ⟨m + 1, tx, ty, S2, by omega, by go_num, HLs.out, HT4.out, by simp; omega, HF3.out, fun q e => by cases e; exact HBl3.out, HC4.out, HS4.out⟩
      case measure => simp [intOf]; omega
    · have e : m = n := by omega
      have hd0 : decide ((m : Int) < (n : Int)) = false := by simp; omega
      have HFin : Hid (Touch S w wr ∧ ∃ S', Cnv wr b tt W H tk (fun i j => A i j + t * Num.chordV ax ay bx b2 i j) (P + 1100000) S' st ∧ ∀ q, S' q → S q ∨ w.heap.size ≤ q) := by
        refine ⟨hto, S', hcv.mono (fun i j _ _ => ?_) (by omega), fun q hq => ?_⟩
        · rw [e, HN.out, List.take_length, HSum.out]
        · rcases hS' q hq with h | h
          · exact .inl h
          · exact .inr (by omega)
      clear hto hrow hblk hcv hS'
      go_wp2
      go_end0
      exact ⟨rfl, HFin.out⟩
end Go.Proofs.Ytkhcjkmifddlbaa

/- CvG -/
namespace Go.Proofs.Ytkhcjkmifddlbaa
open Go.RowKit Go.Deep

set_option maxRecDepth 100000 in
set_option maxHeartbeats 4000000 in
theorem layRing_any (b W H tk base : Nat) (tt : TypeId) (A : Nat → Nat → Int) (P st t : Int) (S : Nat → Prop) (vR : Value) (l : List (Int × Int)) (w : World) (hC : Cnv w b tt W H tk A P S st) (hW : 1 ≤ W ∧ W ≤ 64) (hH : 1 ≤ H ∧ H ≤ 64) (hP : 0 ≤ P ∧ P + 1100000 * l.length ≤ 140737487255328)
    (ht : t = 1 ∨ t = -1) (hl : ∀ p ∈ l, Num.inB p.1 p.2 = true) (hO : w.ownsRow base 41 2 vR l.length (l.flatMap spC)) (hd : ∀ q, vR.ownBlock = some q → ¬ S q) :
    Calls Try.prog 156 #[.pointer (some ⟨b, 0, none⟩), vR, .int .i64 t] w fun e w' => e = .returned (.tuple #[]) ∧ Touch S w w' ∧ ∃ S', Cnv w' b tt W H tk (fun i j => A i j + t * Num.ringF (Num.chA i j) l) (P + 1100000 * l.length) S' st ∧ ∀ q, S' q → S q ∨ w.heap.size ≤ q := by
  obtain ⟨ao, cap0, rfl, hao⟩ := owns_formN hO
  have HO := hide hO
  have HAo := hide hao
  have HL := hide hl
  have HD := hide hd
  have HC := hide hC
  have HCh : Hid (∀ (i j : Int) (k : Nat), Num.sumZ (Num.chF (Num.chA i j) l) (k + 1) = Num.sumZ (Num.chF (Num.chA i j) l) k + Num.chordV (Num.ats l k).1 (Num.ats l k).2 (Num.ats l (Num.nxR l.length k)).1 (Num.ats l (Num.nxR l.length k)).2 i j) := fun i j k => rfl
  obtain ⟨n, hn⟩ : ∃ n, n = l.length := ⟨_, rfl⟩
  have HR : Hid (∀ i j : Int, Num.ringF (Num.chA i j) l = Num.sumZ (Num.chF (Num.chA i j) l) n) := fun i j => by rw [hn]; rfl
  rw [← hn] at hP HAo HCh ⊢
  have HN := hide hn
  clear hC hn hO hao hl hd
  go_enter Try.func156, Try.ntmps156
  go_wp2_with fail
  go_loopw [11] (fun t' wr => ∃ (k : Nat) (S' : Nat → Prop), k ≤ n ∧ t' = .int .i64 k ∧ Touch S w wr ∧ (∀ q, ao = some ⟨q, 0, none⟩ → wr.heap[q]? = w.heap[q]?) ∧
      Cnv wr b tt W H tk (fun i j => A i j + t * Num.sumZ (Num.chF (Num.chA i j) l) k) (P + 1100000 * k) S' st ∧ ∀ q, S' q → S q ∨ w.heap.size ≤ q) (fun t' _ => n - (intOf t').toNat)
  case atStart => exact ⟨0, S, by omega, rfl, Touch.refl S w, fun _ _ => rfl, HC.out.mono (fun i j _ _ => by simp [Num.sumZ]) (by simp), fun q hq => .inl hq⟩
  case round =>
    obtain ⟨k, S', hk, rfl, hto, hblk, hcv, hS'⟩ := hrel
    have hsz := hto.size
    by_cases hlt : k < n
    · have hkl : k < l.length := by rw [← HN.out]; exact hlt
      obtain ⟨q, rfl⟩ := HAo.out (by omega)
      have hqw : q < w.heap.size := (HO.out.lt q rfl).2
      have hOr := owns_of_block (w' := wr) HO.out (fun q' hq => by
        have e : q' = q := by simp [Value.ownBlock] at hq; exact hq.symm
        subst e; exact hblk q' rfl)
      obtain ⟨d0, d1⟩ := owns_sp hOr k hkl
      obtain ⟨e0, e1⟩ := owns_sp hOr 0 (by omega)
      have hqS : ¬ S' q := fun e => by
        rcases hS' q e with h | h
        · exact HD.out q rfl h
        · omega
      have hin1 := HL.out l[k] (List.getElem_mem hkl)
      have hac : Num.ats l k = l[k] := Num.ats_at hkl
      have hd1 : decide ((k : Int) < (n : Int)) = true := by simp; omega
      have i0' : (0 : Int) ≤ (k : Int) := by omega
      have i1' : (k : Int) < (n : Int) := by omega
      have i2' : (0 : Int) < (n : Int) := by omega
      have hqr : q < wr.heap.size := by omega
      by_cases hl2 : k + 1 < n
      · have hkl2 : k + 1 < l.length := by rw [← HN.out]; exact hl2
        obtain ⟨f0, f1⟩ := owns_sp hOr (k + 1) hkl2
        have hin2 := HL.out l[k + 1] (List.getElem_mem hkl2)
        have hnx : Num.ats l (Num.nxR n k) = l[k + 1] := by unfold Num.nxR; rw [if_pos hl2]; exact Num.ats_at hkl2
        have HSt := hide (fun i j => HCh.out i j k)
        rw [hac, hnx] at HSt
        obtain ⟨p, hp⟩ : ∃ p, p = l[k] := ⟨_, rfl⟩
        obtain ⟨r, hr⟩ : ∃ r, r = l[k + 1] := ⟨_, rfl⟩
        rw [← hp, ← hr] at HSt
        rw [← hp] at d0 d1 hin1
        rw [← hr] at f0 f1 hin2
        clear hp hr hac hnx
        obtain ⟨px, py⟩ := p
        obtain ⟨rx, ry⟩ := r
        simp only at d0 d1 f0 f1 hin1 hin2 HSt e0 e1
        have i3' : (k : Int) + 1 < (n : Int) := by omega
        have HCall := hide (fun w' (hb : Below wr.heap.size wr w') => layChord_any b W H tk tt _ (P + 1100000 * k) st px py rx ry t S' w' (hcv.below hb) hW hH (by omega) ht hin1 hin2)
        have HTo := hide hto
        have HS' := hide hS'
        have HBl := hide (hblk q rfl)
        obtain ⟨ex, hex⟩ : ∃ ex, ex = l[0].1 := ⟨_, rfl⟩
        obtain ⟨ey, hey⟩ : ∃ ey, ey = l[0].2 := ⟨_, rfl⟩
        rw [← hex] at e0
        rw [← hey] at e1
        clear hOr hcv hto hblk hS' hex hey
        go_wp2_with fail
        refine (HCall.out _ (by (repeat (any_goals (first | exact Below.refl _ _ | assumption | refine Below.drew ?_ | refine below_drewN ?_ _ | refine Below.setCell ?_ ?_ _ | refine Below.alloc ?_ ?_ _ | omega | (simp; done) | (simp; omega)))))).mono ?_
        rintro e w3 ⟨rfl, hT3, S2, hC3, hS2⟩
        have hs3 := hT3.size
        rw [nblk_alloc, nblk_alloc] at hs3
        have HT3 : Hid (Touch S w w3) := ((HTo.out.alloc _).alloc _).trans' hT3 (fun q e => HS'.out q e)
        have HB3 : Hid (w3.heap[q]? = w.heap[q]?) := by
          unfold Hid
          rw [hT3.block q (by simp; omega) hqS, blk_alloc_lt _ _ _ (by simp; omega), blk_alloc_lt _ _ _ hqr]
          exact HBl.out
        have HC3 : Hid (Cnv w3 b tt W H tk (fun i j => A i j + t * Num.sumZ (Num.chF (Num.chA i j) l) (k + 1)) (P + 1100000 * ((k + 1 : Nat) : Int)) S2 st) :=
          hC3.mono (fun i j _ _ => by rw [HSt.out, Int.mul_add]; omega) (by omega)
        have HS3 : Hid (∀ q, S2 q → S q ∨ w.heap.size ≤ q) := fun q hq => by
          rcases hS2 q hq with h | h
          · exact HS'.out q h
          · simp at h; exact .inr (by omega)
        clear hT3 hC3 hS2 HCall
        go_wp2
        go_roundw
        case rel => exact ⟨k + 1, S2, by omega, by go_num, HT3.out, fun q' e => by cases e; exact HB3.out, HC3.out, HS3.out⟩
        case measure => simp [intOf]; omega
      · have hk1 : k + 1 = n := by omega
        have h0l : 0 < l.length := by omega
        have hin2 := HL.out l[0] (List.getElem_mem h0l)
        have hnx : Num.ats l (Num.nxR n k) = l[0] := by unfold Num.nxR; rw [if_neg hl2]; exact Num.ats_at h0l
        have HSt := hide (fun i j => HCh.out i j k)
        rw [hac, hnx] at HSt
        obtain ⟨p, hp⟩ : ∃ p, p = l[k] := ⟨_, rfl⟩
        obtain ⟨r, hr⟩ : ∃ r, r = l[0] := ⟨_, rfl⟩
        rw [← hp, ← hr] at HSt
        rw [← hp] at d0 d1 hin1
        rw [← hr] at e0 e1 hin2
        clear hp hr hac hnx
        obtain ⟨px, py⟩ := p
        obtain ⟨rx, ry⟩ := r
        simp only at d0 d1 hin1 hin2 HSt e0 e1
        have i3' : ¬ (k : Int) + 1 < (n : Int) := by omega
        have HCall := hide (fun w' (hb : Below wr.heap.size wr w') => layChord_any b W H tk tt _ (P + 1100000 * k) st px py rx ry t S' w' (hcv.below hb) hW hH (by omega) ht hin1 hin2)
        have HTo := hide hto
        have HS' := hide hS'
        have HBl := hide (hblk q rfl)
        clear hOr hcv hto hblk hS'
        go_wp2_with fail
        refine (HCall.out _ (by (repeat (any_goals (first | exact Below.refl _ _ | assumption | refine Below.drew ?_ | refine below_drewN ?_ _ | refine Below.setCell ?_ ?_ _ | refine Below.alloc ?_ ?_ _ | omega | (simp; done) | (simp; omega)))))).mono ?_
        rintro e w3 ⟨rfl, hT3, S2, hC3, hS2⟩
        have hs3 := hT3.size
        rw [nblk_alloc, nblk_alloc] at hs3
        have HT3 : Hid (Touch S w w3) := ((HTo.out.alloc _).alloc _).trans' hT3 (fun q e => HS'.out q e)
        have HB3 : Hid (w3.heap[q]? = w.heap[q]?) := by
          unfold Hid
          rw [hT3.block q (by simp; omega) hqS, blk_alloc_lt _ _ _ (by simp; omega), blk_alloc_lt _ _ _ hqr]
          exact HBl.out
        have HC3 : Hid (Cnv w3 b tt W H tk (fun i j => A i j + t * Num.sumZ (Num.chF (Num.chA i j) l) (k + 1)) (P + 1100000 * ((k + 1 : Nat) : Int)) S2 st) :=
          hC3.mono (fun i j _ _ => by rw [HSt.out, Int.mul_add]; omega) (by omega)
        have HS3 : Hid (∀ q, S2 q → S q ∨ w.heap.size ≤ q) := fun q hq => by
          rcases hS2 q hq with h | h
          · exact HS'.out q h
          · simp at h; exact .inr (by omega)
        clear hT3 hC3 hS2 HCall
        go_wp2
        go_roundw
        case rel => exact ⟨k + 1, S2, by omega, by go_num, HT3.out, fun q' e => by cases e; exact HB3.out, HC3.out, HS3.out⟩
        case measure => simp [intOf]; omega
    · have e : k = n := by omega
      have hd0 : decide ((k : Int) < (n : Int)) = false := by simp; omega
      have HFin : Hid (Touch S w wr ∧ ∃ S', Cnv wr b tt W H tk (fun i j => A i j + t * Num.ringF (Num.chA i j) l) (P + 1100000 * n) S' st ∧ ∀ q, S' q → S q ∨ w.heap.size ≤ q) :=
        ⟨hto, S', hcv.mono (fun i j _ _ => by rw [HR.out, e]) (by omega), hS'⟩
      clear hto hblk hcv hS'
      go_wp2
      go_end0
      exact ⟨rfl, HFin.out⟩
end Go.Proofs.Ytkhcjkmifddlbaa
