/- The document's Cuts: what it calls. -/
import Derived.Test.YtkhcjkmifddlbaaCtC
import Derived.Test.YtkhcjkmifddlbaaCrvS
namespace Go.Proofs.Ytkhcjkmifddlbaa
open Go.RowKit Go.Deep

set_option maxRecDepth 100000 in
set_option maxHeartbeats 2000000 in
theorem refLines_any (p q : Int) (w : World) :
    Calls Try.prog 103 #[.int .i64 p, .int .i64 q] w fun e w' => ∃ v, e = .returned v ∧ Below w.heap.size w w' ∧ w'.ownsRow w.heap.size 3 1 v (Num.linesV p q).length (intC (Num.linesV p q)) := by
  obtain ⟨i0, hi0, hz0, hz1, hz2⟩ := info_parts info_int
  go_enter Try.func103, Try.ntmps103
  go_wp2_with fail
  go_loopw [5, 6] (fun v t wr => ∃ j : Nat, j ≤ 513 ∧ t = .int .i64 ((j : Int) - 256) ∧ Below w.heap.size w wr ∧ wr.ownsRow w.heap.size 3 1 v (Num.upR p q j).length (intC (Num.upR p q j))) (fun _ t _ => (400 - intOf t).toNat)
  case atStart => exact ⟨0, by omega, by rfl, Below.refl _ _, World.ownsRow_nil _ _ _ _⟩
  case round =>
    obtain ⟨v, rfl⟩ : ∃ v, v = u5 := ⟨_, rfl⟩
    obtain ⟨j, hj, rfl, hb, hown⟩ := hrel
    have hsz := hb.size
    have hlen := Num.upR_len p q j
    by_cases hlt : j < 513
    · have hd1 : decide ((j : Int) - 256 ≤ 256) = true := by simp; omega
      have HSu := hide (Num.upR_succ p q j)
      have hU : Num.upK j = ((j : Int) - 256) * 64 := by unfold Num.upK; omega
      rw [hU] at HSu
      clear hU
      by_cases h1 : p < ((j : Int) - 256) * 64
      · by_cases h2 : ((j : Int) - 256) * 64 < q
        · have HE : Hid (Num.upR p q (j + 1) = Num.upR p q j ++ [((j : Int) - 256) * 64]) := by unfold Hid; rw [HSu.out, if_pos ⟨h1, h2⟩]
          obtain ⟨M, hM⟩ : ∃ M, M = Num.upR p q j := ⟨_, rfl⟩
          rw [← hM] at HE hown hlen
          obtain ⟨ln, hln⟩ : ∃ ln, ln = M.length := ⟨_, rfl⟩
          obtain ⟨xs, hxs⟩ : ∃ xs, xs = intC M := ⟨_, rfl⟩
          rw [← hln, ← hxs] at hown
          rw [← hln] at hlen
          have HLn := hide hln
          have HXs := hide hxs
          clear hM hln hxs
          go_wp2_with (at_builtin; refine wpList_append_lies _ rfl _ _ 140 rfl w.heap.size 3 i0 (.int .i64 0) 1 8 Try.underlying140 hi0 hz0 hz1 hz2 rfl (by omega) v ln xs rfl (hown.alloc _) ⟨wr.heap.size, 0, none⟩ 1 1 [.int .i64 (((j : Int) - 256) * 64)] rfl rfl ?e1 ?e2 (by omega) ?e3 ?e4 ?e5 (wr.heap.size + 1) (by simp) ?_)
          try (case e1 => exact news_sp wr [.int .i64 (((j : Int) - 256) * 64)] _ _ rfl)
          case e2 => first | rfl | (intro u hu; simp at hu; subst hu; rfl)
          case e3 => unfold maxLen; omega
          case e4 => omega
          case e5 => first | omega | (simp; omega)
          intro g cap w2 hown2 hgrow hat hlt2
          have hb2 : Below w.heap.size w w2 := (hb.alloc (by omega) _).grown hgrow (by simp; omega) (fun q hq => (hown.lt q hq).1)
          have HO2 : Hid (w2.ownsRow w.heap.size 3 1 (.slice (some ⟨g, 0, none⟩) (ln + 1) cap) (Num.upR p q (j + 1)).length (intC (Num.upR p q (j + 1)))) := by
            unfold Hid
            rw [HE.out, intC_snoc, ← HXs.out, List.length_append, ← HLn.out]
            exact hown2
          clear hown2 hgrow hat hown hb
          go_wp2
          go_roundw
          case rel => exact ⟨j + 1, by omega, by go_num, hb2, HO2.out⟩
          case measure => simp [intOf]; omega
        · have HE : Hid (Num.upR p q (j + 1) = Num.upR p q j) := by unfold Hid; rw [HSu.out, if_neg (fun h => h2 h.2), List.append_nil]
          have HO := hide hown
          clear hown
          go_wp2
          go_roundw
          case rel => exact ⟨j + 1, by omega, by go_num, hb, by rw [HE.out]; exact HO.out⟩
          case measure => simp [intOf]; omega
      · have HE : Hid (Num.upR p q (j + 1) = Num.upR p q j) := by unfold Hid; rw [HSu.out, if_neg (fun h => h1 h.1), List.append_nil]
        have HO := hide hown
        clear hown
        go_wp2
        go_roundw
        case rel => exact ⟨j + 1, by omega, by go_num, hb, by rw [HE.out]; exact HO.out⟩
        case measure => simp [intOf]; omega
    · have e : j = 513 := by omega
      subst e
      have HO := hide hown
      have HB := hide hb
      clear hown hb hlen
      go_wp2_with fail
      go_loopw [5, 8] (fun v t wr => ∃ j : Nat, j ≤ 513 ∧ t = .int .i64 (256 - (j : Int)) ∧ Below w.heap.size w wr ∧ wr.ownsRow w.heap.size 3 1 v (Num.upR p q 513 ++ Num.dnR p q j).length (intC (Num.upR p q 513 ++ Num.dnR p q j))) (fun _ t _ => (400 + intOf t).toNat)
      case atStart => exact ⟨0, by omega, by rfl, HB.out, by simpa [Num.dnR] using HO.out⟩
      case round =>
        obtain ⟨va, rfl⟩ : ∃ va, va = u5 := ⟨_, rfl⟩
        obtain ⟨j, hj, rfl, hb, hown⟩ := hrel
        have hsz := hb.size
        have hlen : (Num.upR p q 513 ++ Num.dnR p q j).length ≤ 513 + j := by
          rw [List.length_append]
          have := Num.upR_len p q 513
          have := Num.dnR_len p q j
          omega
        by_cases hlt2 : j < 513
        · have hd1 : decide (-256 ≤ 256 - (j : Int)) = true := by simp; omega
          have HSu := hide (Num.dnR_succ p q j)
          have hU : Num.dnK j = (256 - (j : Int)) * 64 := by unfold Num.dnK; omega
          rw [hU] at HSu
          clear hU
          by_cases h1 : q < (256 - (j : Int)) * 64
          · by_cases h2 : (256 - (j : Int)) * 64 < p
            · have HE : Hid (Num.upR p q 513 ++ Num.dnR p q (j + 1) = (Num.upR p q 513 ++ Num.dnR p q j) ++ [(256 - (j : Int)) * 64]) := by unfold Hid; rw [HSu.out, if_pos ⟨h1, h2⟩, List.append_assoc]
              obtain ⟨M, hM⟩ : ∃ M, M = Num.upR p q 513 ++ Num.dnR p q j := ⟨_, rfl⟩
              rw [← hM] at HE hown hlen
              obtain ⟨ln, hln⟩ : ∃ ln, ln = M.length := ⟨_, rfl⟩
              obtain ⟨xs, hxs⟩ : ∃ xs, xs = intC M := ⟨_, rfl⟩
              rw [← hln, ← hxs] at hown
              rw [← hln] at hlen
              have HLn := hide hln
              have HXs := hide hxs
              clear hM hln hxs
              go_wp2_with (at_builtin; refine wpList_append_lies _ rfl _ _ 140 rfl w.heap.size 3 i0 (.int .i64 0) 1 8 Try.underlying140 hi0 hz0 hz1 hz2 rfl (by omega) va ln xs rfl (hown.alloc _) ⟨wr.heap.size, 0, none⟩ 1 1 [.int .i64 ((256 - (j : Int)) * 64)] rfl rfl ?f1 ?f2 (by omega) ?f3 ?f4 ?f5 (wr.heap.size + 1) (by simp) ?_)
              try (case f1 => exact news_sp wr [.int .i64 ((256 - (j : Int)) * 64)] _ _ rfl)
              case f2 => first | rfl | (intro u hu; simp at hu; subst hu; rfl)
              case f3 => unfold maxLen; omega
              case f4 => omega
              case f5 => first | omega | (simp; omega)
              intro g cap w2 hown2 hgrow hat hlt3
              have hb2 : Below w.heap.size w w2 := (hb.alloc (by omega) _).grown hgrow (by simp; omega) (fun q hq => (hown.lt q hq).1)
              have HO2 : Hid (w2.ownsRow w.heap.size 3 1 (.slice (some ⟨g, 0, none⟩) (ln + 1) cap) (Num.upR p q 513 ++ Num.dnR p q (j + 1)).length (intC (Num.upR p q 513 ++ Num.dnR p q (j + 1)))) := by
                unfold Hid
                rw [HE.out, intC_snoc, ← HXs.out, List.length_append, ← HLn.out]
                exact hown2
              clear hown2 hgrow hat hown hb
              go_wp2
              refine ⟨⟨_, _, _, _, _, _, _, _, _, _, _, _, _, _, _, _, _, _, _, _, _, ⟨j + 1, by omega, ?_, hb2, HO2.out⟩, rfl⟩, ?_⟩
              · go_num
              · simp [intOf]; omega
            · have HE : Hid (Num.dnR p q (j + 1) = Num.dnR p q j) := by unfold Hid; rw [HSu.out, if_neg (fun h => h2 h.2), List.append_nil]
              have HO2 := hide hown
              clear hown
              go_wp2
              go_roundw
              case rel => exact ⟨j + 1, by omega, by go_num, hb, by rw [HE.out]; exact HO2.out⟩
              case measure => simp [intOf]; omega
          · have HE : Hid (Num.dnR p q (j + 1) = Num.dnR p q j) := by unfold Hid; rw [HSu.out, if_neg (fun h => h1 h.1), List.append_nil]
            have HO2 := hide hown
            clear hown
            go_wp2
            go_roundw
            case rel => exact ⟨j + 1, by omega, by go_num, hb, by rw [HE.out]; exact HO2.out⟩
            case measure => simp [intOf]; omega
        · have e : j = 513 := by omega
          subst e
          have HO2 := hide hown
          clear hown
          go_wp2
          go_ret
          exact ⟨va, rfl, hb, HO2.out⟩

set_option maxHeartbeats 400000 in
theorem xat_any (ax ay bx b2 y : Int) (w : World) (hpq : ay ≠ b2) (ha : (-16384 ≤ ax ∧ ax ≤ 16384) ∧ -16384 ≤ ay ∧ ay ≤ 16384) (hb : (-16384 ≤ bx ∧ bx ≤ 16384) ∧ -16384 ≤ b2 ∧ b2 ≤ 16384) (hy : -16384 ≤ y ∧ y ≤ 16384) :
    Calls Try.prog 104 #[.agg #[.int .i64 ax, .int .i64 ay], .agg #[.int .i64 bx, .int .i64 b2], .int .i64 y] w fun e w' => e = .returned (.int .i64 (Num.atV ax bx ay b2 y)) ∧ w' = (w.alloc (.cells #[.int .i64 ax, .int .i64 ay] 41)).alloc (.cells #[.int .i64 bx, .int .i64 b2] 41) := by
  have m1 := Num.mul_bd ax (b2 - y) 16384 32768 ha.1 (by omega)
  have m2 := Num.mul_bd bx (y - ay) 16384 32768 hb.1 (by omega)
  by_cases hlt : b2 - ay < 0
  · have HE : Hid (Num.atV ax bx ay b2 y = Num.hu (-(ax * (b2 - y) + bx * (y - ay))) (-(b2 - ay))) := by unfold Hid Num.atV; rw [if_pos hlt]
    go_enter Try.func104, Try.ntmps104
    go_wp2_with (go_at_call 94; refine (half_any _ _ _ (by omega) (by omega) (by omega) (by omega)).mono ?_; rintro e w' ⟨rfl, rfl⟩)
    go_ret
    exact ⟨ret_int HE.out.symm, rfl⟩
  · have HE : Hid (Num.atV ax bx ay b2 y = Num.hu (ax * (b2 - y) + bx * (y - ay)) (b2 - ay)) := by unfold Hid Num.atV; rw [if_neg hlt]
    go_enter Try.func104, Try.ntmps104
    go_wp2_with (go_at_call 94; refine (half_any _ _ _ (by omega) (by omega) (by omega) (by omega)).mono ?_; rintro e w' ⟨rfl, rfl⟩)
    go_ret
    exact ⟨ret_int HE.out.symm, rfl⟩

set_option maxHeartbeats 400000 in
theorem yat_any (ax ay bx b2 x : Int) (w : World) (hpq : ax ≠ bx) (ha : (-16384 ≤ ax ∧ ax ≤ 16384) ∧ -16384 ≤ ay ∧ ay ≤ 16384) (hb : (-16384 ≤ bx ∧ bx ≤ 16384) ∧ -16384 ≤ b2 ∧ b2 ≤ 16384) (hx : -16384 ≤ x ∧ x ≤ 16384) :
    Calls Try.prog 105 #[.agg #[.int .i64 ax, .int .i64 ay], .agg #[.int .i64 bx, .int .i64 b2], .int .i64 x] w fun e w' => e = .returned (.int .i64 (Num.atV ay b2 ax bx x)) ∧ w' = (((w.alloc (.cells #[.int .i64 ax, .int .i64 ay] 41)).alloc (.cells #[.int .i64 bx, .int .i64 b2] 41)).alloc (.cells #[.int .i64 ay, .int .i64 ax] 41)).alloc (.cells #[.int .i64 b2, .int .i64 bx] 41) := by
  have HC := hide (fun w => xat_any ay ax b2 bx x w hpq ⟨ha.2, ha.1⟩ ⟨hb.2, hb.1⟩ hx)
  clear ha hb hx
  go_enter Try.func105, Try.ntmps105
  go_wp2_with fail
  refine (HC.out _).mono ?_
  rintro e w1 ⟨rfl, rfl⟩
  go_wp2
  go_ret
  exact ⟨rfl, rfl⟩
end Go.Proofs.Ytkhcjkmifddlbaa
