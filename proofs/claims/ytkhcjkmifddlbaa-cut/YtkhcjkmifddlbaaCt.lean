/- The program's Cuts: what it calls. -/
import Derived.Test.YtkhcjkmifddlbaaSpots
import Derived.Test.YtkhcjkmifddlbaaCutV
import Derived.Deep.AppendLies
namespace Go.Proofs.Ytkhcjkmifddlbaa
open Go.RowKit Go.Deep

theorem info_int : (Try.prog.info? 3).map (fun i => (i.zero, i.size, i.bytes)) = some (some (.int .i64 0), 1, 8) := by kernel_rfl

/-- The cells of a row of ints. -/
def intC (l : List Int) : List Value := l.map (Value.int .i64)
theorem intC_snoc (l : List Int) (z : Int) : intC (l ++ [z]) = intC l ++ [.int .i64 z] := by simp [intC]

theorem start_line {p : Int} (h : -16384 ≤ p ∧ p ≤ 16384) : ∃ k : Nat, k ≤ 512 ∧ p - p.tmod 64 = Num.upK k ∧ p - p.tmod 64 = Num.dnK (512 - k) ∧ -64 < p.tmod 64 ∧ p.tmod 64 < 64 := by
  obtain ⟨e, h1, h2, h3, h4⟩ := Num.tdiv_facts p 64 (by omega)
  refine ⟨(p.tdiv 64 + 256).toNat, by omega, ?_, ?_, h1, h2⟩
  · unfold Num.upK; omega
  · unfold Num.dnK; omega

set_option maxRecDepth 100000 in
set_option maxHeartbeats 2000000 in
theorem linesBetween_any (p q : Int) (w : World) (hp : -16384 ≤ p ∧ p ≤ 16384) (hq : -16384 ≤ q ∧ q ≤ 16384) :
    Calls Try.prog 151 #[.int .i64 p, .int .i64 q] w fun e w' => ∃ v, e = .returned v ∧ Below w.heap.size w w' ∧ w'.ownsRow w.heap.size 3 1 v (Num.linesV p q).length (intC (Num.linesV p q)) := by
  obtain ⟨k0, hk0, hu, hd, t1, t2⟩ := start_line hp
  obtain ⟨n0, hn0⟩ : ∃ n0, n0 = p - p.tmod 64 := ⟨_, rfl⟩
  obtain ⟨i0, hi0, hz0, hz1, hz2⟩ := info_parts info_int
  obtain ⟨L, hL⟩ : ∃ L, L = Num.linesV p q := ⟨_, rfl⟩
  rw [← hL]
  have HL := hide hL
  rw [← hn0] at hu hd
  have b1 : -16500 ≤ n0 := by omega
  have b2 : n0 ≤ 16500 := by omega
  have b3 : n0 - 64 < p := by omega
  have b4 : p < n0 + 64 := by omega
  have HN := hide hn0
  have HU := hide hu
  have HD := hide hd
  clear hL hn0 hu hd
  by_cases hpq : p < q
  · go_enter Try.func151, Try.ntmps151
    go_wp2_with fail
    rw [← HN.out]
    go_wp2_with fail
    go_loopw [5, 6] (fun v t wr => ∃ j : Nat, j ≤ 513 ∧ t = .int .i64 (Num.upK j) ∧ (∀ k, k < j → Num.upK k < q) ∧ Below w.heap.size w wr ∧ wr.ownsRow w.heap.size 3 1 v (Num.upL p j).length (intC (Num.upL p j))) (fun _ t _ => (40000 - intOf t).toNat)
    case atStart =>
      refine ⟨k0, by omega, by rw [HU.out], fun k hk => ?_, Below.refl _ _, ?_⟩
      · have := HU.out; unfold Num.upK at this ⊢; omega
      · rw [Num.upL_start (fun k hk => by have := HU.out; unfold Num.upK at this ⊢; omega)]
        exact World.ownsRow_nil _ _ _ _
    case round =>
      obtain ⟨v, rfl⟩ : ∃ v, v = u5 := ⟨_, rfl⟩
      obtain ⟨j, hj, rfl, hall, hb, hown⟩ := hrel
      have hsz := hb.size
      have hlen := Num.upL_len p j
      have hUj : Num.upK j = 64 * ((j : Int) - 256) := rfl
      have HSu := hide (Num.upL_succ p j)
      have HAll := hide hall
      have hUs : Num.upK (j + 1) = Num.upK j + 64 := by unfold Num.upK; omega
      have HUs := hide hUs
      clear hall hUs
      by_cases hlt : Num.upK j < q
      · have hj2 : j + 1 ≤ 513 := by omega
        have HAll2 : Hid (∀ k, k < j + 1 → Num.upK k < q) := fun k hk => by
          rcases (show k < j ∨ k = j by omega) with h | h
          · exact HAll.out k h
          · rw [h]; exact hlt
        by_cases hgt : p < Num.upK j
        · have HE : Hid (Num.upL p (j + 1) = Num.upL p j ++ [Num.upK j]) := by unfold Hid; rw [HSu.out, if_pos hgt]
          have u1 : -100000 ≤ Num.upK j := by omega
          have u2 : Num.upK j ≤ 100000 := by omega
          obtain ⟨U, hU⟩ : ∃ U, U = Num.upK j := ⟨_, rfl⟩
          obtain ⟨M, hM⟩ : ∃ M, M = Num.upL p j := ⟨_, rfl⟩
          rw [← hU] at HE HUs hlt hgt u1 u2 ⊢
          rw [← hM] at HE hown hlen
          obtain ⟨ln, hln⟩ : ∃ ln, ln = M.length := ⟨_, rfl⟩
          obtain ⟨xs, hxs⟩ : ∃ xs, xs = intC M := ⟨_, rfl⟩
          rw [← hln, ← hxs] at hown
          rw [← hln] at hlen
          have HLn := hide hln
          have HXs := hide hxs
          clear hU hM hln hxs hUj
          go_wp2_with (at_builtin; refine wpList_append_lies _ rfl _ _ 140 rfl w.heap.size 3 i0 (.int .i64 0) 1 8 Try.underlying140 hi0 hz0 hz1 hz2 rfl (by omega) v ln xs rfl (hown.alloc _) ⟨wr.heap.size, 0, none⟩ 1 1 [.int .i64 U] rfl rfl ?e1 ?e2 (by omega) ?e3 ?e4 ?e5 (wr.heap.size + 1) (by simp) ?_)
          try (case e1 => exact news_sp wr [.int .i64 U] _ _ rfl)
          case e2 => first | rfl | (intro u hu; simp at hu; subst hu; rfl)
          case e3 => unfold maxLen; omega
          case e4 => omega
          case e5 => first | omega | (simp; omega)
          intro g cap w2 hown2 hgrow hat hlt2
          have hb2 : Below w.heap.size w w2 := (hb.alloc (by omega) _).grown hgrow (by simp; omega) (fun q hq => (hown.lt q hq).1)
          have HO2 : Hid (w2.ownsRow w.heap.size 3 1 (.slice (some ⟨g, 0, none⟩) (ln + 1) cap) (Num.upL p (j + 1)).length (intC (Num.upL p (j + 1)))) := by
            unfold Hid
            rw [HE.out, intC_snoc, ← HXs.out, List.length_append, ← HLn.out]
            exact hown2
          clear hown2 hgrow hat hown hb
          go_wp2
          go_roundw
          case rel => exact ⟨j + 1, hj2, by rw [HUs.out], HAll2.out, hb2, HO2.out⟩
          case measure => simp [intOf]; omega
        · have HE : Hid (Num.upL p (j + 1) = Num.upL p j) := by unfold Hid; rw [HSu.out, if_neg hgt, List.append_nil]
          have u1 : -100000 ≤ Num.upK j := by omega
          have u2 : Num.upK j ≤ 100000 := by omega
          obtain ⟨U, hU⟩ : ∃ U, U = Num.upK j := ⟨_, rfl⟩
          rw [← hU] at HUs hlt hgt u1 u2 ⊢
          have HO := hide hown
          clear hU hUj hown
          go_wp2
          go_roundw
          case rel => exact ⟨j + 1, hj2, by rw [HUs.out], HAll2.out, hb, by rw [HE.out]; exact HO.out⟩
          case measure => simp [intOf]; omega
      · have HE : Hid (L = Num.upL p j) := by
          unfold Hid
          rw [HL.out]
          exact Num.lines_up hpq hj HAll.out (fun k h1 h2 => by unfold Num.upK at hlt ⊢; omega)
        have HO := hide hown
        clear hown hUj
        go_wp2
        go_ret
        exact ⟨v, rfl, hb, by rw [HE.out]; exact HO.out⟩
  · go_enter Try.func151, Try.ntmps151
    go_wp2_with fail
    rw [← HN.out]
    go_wp2_with fail
    go_loopw [5, 6] (fun v t wr => ∃ j : Nat, j ≤ 513 ∧ t = .int .i64 (Num.dnK j) ∧ (∀ k, k < j → q < Num.dnK k) ∧ Below w.heap.size w wr ∧ wr.ownsRow w.heap.size 3 1 v (Num.dnL p j).length (intC (Num.dnL p j))) (fun _ t _ => (40000 + intOf t).toNat)
    case atStart =>
      refine ⟨512 - k0, by omega, by rw [HD.out], fun k hk => ?_, Below.refl _ _, ?_⟩
      · have := HD.out; unfold Num.dnK at this ⊢; omega
      · rw [Num.dnL_start (fun k hk => by have := HD.out; unfold Num.dnK at this ⊢; omega)]
        exact World.ownsRow_nil _ _ _ _
    case round =>
      obtain ⟨v, rfl⟩ : ∃ v, v = u5 := ⟨_, rfl⟩
      obtain ⟨j, hj, rfl, hall, hb, hown⟩ := hrel
      have hsz := hb.size
      have hlen := Num.dnL_len p j
      have hUj : Num.dnK j = 64 * (256 - (j : Int)) := rfl
      have HSu := hide (Num.dnL_succ p j)
      have HAll := hide hall
      have hUs : Num.dnK (j + 1) = Num.dnK j - 64 := by unfold Num.dnK; omega
      have HUs := hide hUs
      clear hall hUs
      by_cases hlt : q < Num.dnK j
      · have hj2 : j + 1 ≤ 513 := by omega
        have HAll2 : Hid (∀ k, k < j + 1 → q < Num.dnK k) := fun k hk => by
          rcases (show k < j ∨ k = j by omega) with h | h
          · exact HAll.out k h
          · rw [h]; exact hlt
        by_cases hgt : Num.dnK j < p
        · have HE : Hid (Num.dnL p (j + 1) = Num.dnL p j ++ [Num.dnK j]) := by unfold Hid; rw [HSu.out, if_pos hgt]
          have u1 : -100000 ≤ Num.dnK j := by omega
          have u2 : Num.dnK j ≤ 100000 := by omega
          obtain ⟨U, hU⟩ : ∃ U, U = Num.dnK j := ⟨_, rfl⟩
          obtain ⟨M, hM⟩ : ∃ M, M = Num.dnL p j := ⟨_, rfl⟩
          rw [← hU] at HE HUs hlt hgt u1 u2 ⊢
          rw [← hM] at HE hown hlen
          obtain ⟨ln, hln⟩ : ∃ ln, ln = M.length := ⟨_, rfl⟩
          obtain ⟨xs, hxs⟩ : ∃ xs, xs = intC M := ⟨_, rfl⟩
          rw [← hln, ← hxs] at hown
          rw [← hln] at hlen
          have HLn := hide hln
          have HXs := hide hxs
          clear hU hM hln hxs hUj
          go_wp2_with (at_builtin; refine wpList_append_lies _ rfl _ _ 140 rfl w.heap.size 3 i0 (.int .i64 0) 1 8 Try.underlying140 hi0 hz0 hz1 hz2 rfl (by omega) v ln xs rfl (hown.alloc _) ⟨wr.heap.size, 0, none⟩ 1 1 [.int .i64 U] rfl rfl ?f1 ?f2 (by omega) ?f3 ?f4 ?f5 (wr.heap.size + 1) (by simp) ?_)
          try (case f1 => exact news_sp wr [.int .i64 U] _ _ rfl)
          case f2 => first | rfl | (intro u hu; simp at hu; subst hu; rfl)
          case f3 => unfold maxLen; omega
          case f4 => omega
          case f5 => first | omega | (simp; omega)
          intro g cap w2 hown2 hgrow hat hlt2
          have hb2 : Below w.heap.size w w2 := (hb.alloc (by omega) _).grown hgrow (by simp; omega) (fun q hq => (hown.lt q hq).1)
          have HO2 : Hid (w2.ownsRow w.heap.size 3 1 (.slice (some ⟨g, 0, none⟩) (ln + 1) cap) (Num.dnL p (j + 1)).length (intC (Num.dnL p (j + 1)))) := by
            unfold Hid
            rw [HE.out, intC_snoc, ← HXs.out, List.length_append, ← HLn.out]
            exact hown2
          clear hown2 hgrow hat hown hb
          go_wp2
          go_roundw
          case rel => exact ⟨j + 1, hj2, by rw [HUs.out], HAll2.out, hb2, HO2.out⟩
          case measure => simp [intOf]; omega
        · have HE : Hid (Num.dnL p (j + 1) = Num.dnL p j) := by unfold Hid; rw [HSu.out, if_neg hgt, List.append_nil]
          have u1 : -100000 ≤ Num.dnK j := by omega
          have u2 : Num.dnK j ≤ 100000 := by omega
          obtain ⟨U, hU⟩ : ∃ U, U = Num.dnK j := ⟨_, rfl⟩
          rw [← hU] at HUs hlt hgt u1 u2 ⊢
          have HO := hide hown
          clear hU hUj hown
          go_wp2
          go_roundw
          case rel => exact ⟨j + 1, hj2, by rw [HUs.out], HAll2.out, hb, by rw [HE.out]; exact HO.out⟩
          case measure => simp [intOf]; omega
      · have HE : Hid (L = Num.dnL p j) := by
          unfold Hid
          rw [HL.out]
          exact Num.lines_dn (by omega) hj HAll.out (fun k h1 h2 => by unfold Num.dnK at hlt ⊢; omega)
        have HO := hide hown
        clear hown hUj
        go_wp2
        go_ret
        exact ⟨v, rfl, hb, by rw [HE.out]; exact HO.out⟩

set_option maxHeartbeats 400000 in
theorem meet_any (n p q a b : Int) (w : World) (hpq : p ≠ q) (hn : -16384 ≤ n ∧ n ≤ 16384) (hp : -16384 ≤ p ∧ p ≤ 16384) (hq : -16384 ≤ q ∧ q ≤ 16384) (ha : -16384 ≤ a ∧ a ≤ 16384) (hb : -16384 ≤ b ∧ b ≤ 16384) :
    Calls Try.prog 152 #[.int .i64 n, .int .i64 p, .int .i64 q, .int .i64 a, .int .i64 b] w fun e w' => e = .returned (.int .i64 (Num.atV a b p q n)) ∧ w' = w := by
  have m1 := Num.mul_bd (b - a) (n - p) 32768 32768 (by omega) (by omega)
  have HE := hide (Num.atV_eq (a := a) (b := b) (n := n) hpq)
  by_cases hlt : q - p < 0
  · have h1 := Num.hu_le (-((b - a) * (n - p))) (-(q - p)) 10000000000 (by omega) (by omega) (by omega) (by omega)
    go_enter Try.func152, Try.ntmps152
    go_wp2_with (go_at_call 148; refine (halfUp_any _ _ _ (by omega) (by omega) (by omega) (by omega)).mono ?_; rintro e w' ⟨rfl, rfl⟩)
    go_ret
    exact ⟨ret_int (by rw [HE.out, if_pos hlt]), rfl⟩
  · have h1 := Num.hu_le ((b - a) * (n - p)) (q - p) 10000000000 (by omega) (by omega) (by omega) (by omega)
    go_enter Try.func152, Try.ntmps152
    go_wp2_with (go_at_call 148; refine (halfUp_any _ _ _ (by omega) (by omega) (by omega) (by omega)).mono ?_; rintro e w' ⟨rfl, rfl⟩)
    go_ret
    exact ⟨ret_int (by rw [HE.out, if_neg (by omega)]), rfl⟩
end Go.Proofs.Ytkhcjkmifddlbaa
