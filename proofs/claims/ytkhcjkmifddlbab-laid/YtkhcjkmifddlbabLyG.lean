/- Lay, as it is called: the program's. -/
import Derived.Test.YtkhcjkmifddlbabLy
namespace Go.Proofs.Ytkhcjkmifddlbab
open Go.RowKit Go.Deep

theorem layE_cases (UW UH : Int) (n : Nat) (OW OH : Int) (m : Nat) (way : Int) : Num.layE UW UH n OW OH m way 8 9 ≠ 0 ∨ (Num.layE UW UH n OW OH m way 8 9 = 0 ∧ Num.picB UW UH n = true ∧ Num.picB OW OH m = true ∧ 0 ≤ way ∧ way ≤ 3) := by
  unfold Num.layE
  by_cases h1 : Num.picB UW UH n = true ∧ Num.picB OW OH m = true
  · rw [if_pos h1]
    by_cases h2 : 0 ≤ way ∧ way ≤ 3
    · rw [if_pos h2]; exact .inr ⟨rfl, h1.1, h1.2, h2.1, h2.2⟩
    · rw [if_neg h2]; exact .inl (by decide)
  · rw [if_neg h1]; exact .inl (by decide)

theorem layR_len (UW UH : Int) (n : Nat) (OW OH : Int) (m : Nat) (U O : Nat → Int) (x y way : Int) : (layR UW UH n OW OH m U O x y way).2.2.length ≤ 4096 := by
  unfold layR
  rcases layE_cases UW UH n OW OH m way with h | ⟨h, p1, _, _, _⟩
  · rw [if_neg h]; simp
  · rw [if_pos h]
    obtain ⟨a, b, rfl, rfl, h1, h2, h3, h4, _⟩ := picB_yes p1
    show (Num.layL _ _ _ _ _ _ _ _ _).length ≤ 4096
    rw [Num.layL_len]
    exact Num.mul_le_sq (by omega) (by omega)

theorem picLay_any (a a' : Option Addr) (n m c c' : Nat) (UW UH OW OH x y way : Int) (U O : Nat → Int) (w : World)
    (hU : ByAt w a n U) (hO : ByAt w a' m O) (bU : ∀ k, k < n → 0 ≤ U k ∧ U k ≤ 255) (bO : ∀ k, k < m → 0 ≤ O k ∧ O k ≤ 255) :
    Calls Try.prog 56 #[.agg #[.int .i64 UW, .int .i64 UH, .slice a n c], .agg #[.int .i64 OW, .int .i64 OH, .slice a' m c'], .int .i64 x, .int .i64 y, .int .i64 way] w fun e w' => ∃ rw rh v l, e = .returned (.tuple #[.agg #[.int .i64 rw, .int .i64 rh, v], .int .i64 (Num.layE UW UH n OW OH m way 8 9)]) ∧ Below w.heap.size w w' ∧ w'.ownsRow w.heap.size 5 1 v (List.length l) (byC l) ∧ (rw, rh, l) = layR UW UH n OW OH m U O x y way := by
  rcases layE_cases UW UH n OW OH m way with h | ⟨h, p1, p2, h3⟩
  · refine (picLay_no a a' n m c c' UW UH OW OH x y way w h).mono ?_
    rintro e w' ⟨rfl, hb⟩
    exact ⟨0, 0, .slice none 0 0, [], rfl, hb, World.ownsRow_nil _ _ _ _, by unfold layR; rw [if_neg h]⟩
  · obtain ⟨uw, uh, rfl, rfl, u1, u2, u3, u4, rfl⟩ := picB_yes p1
    obtain ⟨ow, oh, rfl, rfl, o1, o2, o3, o4, rfl⟩ := picB_yes p2
    refine (picLay_yes a a' uw uh ow oh c c' U O x y way w ⟨u1, u2, u3, u4⟩ ⟨o1, o2, o3, o4⟩ h3 hU hO bU bO).mono ?_
    rintro e w' ⟨v, rfl, hb, hown⟩
    refine ⟨uw, uh, v, Num.layL uw ow oh U O x y way (uw * uh), by rw [h], hb, by rw [Num.layL_len]; exact hown, ?_⟩
    unfold layR
    rw [if_pos h]
    simp

set_option maxRecDepth 100000 in
set_option maxHeartbeats 4000000 in
theorem glyphLay_any (a a' : Option Addr) (n m c c' : Nat) (UW UH OW OH x y way : Int) (U O : Nat → Int) (w : World)
    (hU : ByAt w a n U) (hO : ByAt w a' m O) (bU : ∀ k, k < n → 0 ≤ U k ∧ U k ≤ 255) (bO : ∀ k, k < m → 0 ≤ O k ∧ O k ≤ 255) :
    Calls Try.prog 37 #[.agg #[.int .i64 UW, .int .i64 UH, .slice a n c], .agg #[.int .i64 OW, .int .i64 OH, .slice a' m c'], .int .i64 x, .int .i64 y, .int .i64 way] w fun e w' => ∃ rw rh v l, e = .returned (.tuple #[.agg #[.int .i64 rw, .int .i64 rh, v], .int .i64 (Num.layE UW UH n OW OH m way 8 9)]) ∧ Below w.heap.size w w' ∧ w'.ownsRow w.heap.size 5 1 v (List.length l) (byC l) ∧ (rw, rh, l) = layR UW UH n OW OH m U O x y way := by
  obtain ⟨W3, hW3⟩ : ∃ W3, W3 = ((w.alloc (.cells #[.int .i64 UW, .int .i64 UH, .slice a n c] 57)).alloc (.cells #[.int .i64 OW, .int .i64 OH, .slice a' m c'] 57)).alloc (.cells #[.int .i64 0, .int .i64 0, .slice none 0 0] 57) := ⟨_, rfl⟩
  have hs3 : W3.heap.size = w.heap.size + 1 + 1 + 1 := by rw [hW3]; simp
  have HB3 : Hid (Below w.heap.size w W3) := by unfold Hid; rw [hW3]; (repeat (any_goals (first | exact Below.refl _ _ | assumption | refine Below.drew ?_ | refine below_drewN ?_ _ | refine Below.setCell ?_ ?_ _ | refine Below.alloc ?_ ?_ _ | omega | (simp; done) | (simp; omega))))
  have HZ : Hid (W3.rowIs (w.heap.size + 1 + 1) 57 3 (gz 0 0 (.slice none 0 0))) := by
    have h := gz_row 0 0 (.slice none 0 0) ((w.alloc (.cells #[.int .i64 UW, .int .i64 UH, .slice a n c] 57)).alloc (.cells #[.int .i64 OW, .int .i64 OH, .slice a' m c'] 57)) 57
    rw [nblk_alloc, nblk_alloc] at h
    unfold Hid; rw [hW3]; exact h
  have HCall := hide (picLay_any a a' n m c c' UW UH OW OH x y way U O W3 (hU.below HB3.out) (hO.below HB3.out) bU bO)
  clear hU hO bU bO
  obtain ⟨RE, hRE⟩ : ∃ RE, RE = Num.layE UW UH n OW OH m way 8 9 := ⟨_, rfl⟩
  obtain ⟨RL, hRL⟩ : ∃ RL, RL = layR UW UH n OW OH m U O x y way := ⟨_, rfl⟩
  rw [← hRE, ← hRL] at HCall
  rw [← hRE, ← hRL]
  clear hRE hRL
  go_enter Try.func37, Try.ntmps37
  go_wp2_with fail
  rw [← hW3]
  refine HCall.out.mono ?_
  rintro e w1 ⟨rw', rh', v, l, rfl, hb1, hown, hq⟩
  have hs1 := hb1.size
  have hZ2 := row_below HZ.out hb1 (by omega)
  obtain ⟨z0, z1, z2⟩ := gz_cells hZ2
  have f0 := hZ2.frozen 0
  have f1 := hZ2.frozen 1
  have f2 := hZ2.frozen 2
  have hsl : w.heap.size + 1 + 1 < w1.heap.size := by omega
  obtain ⟨ao, cap0, hv, _⟩ := owns_formN hown
  have HR := hide (gz_set hZ2 rw' rh' v)
  have hB : Below w.heap.size w w1 := HB3.out.trans (hb1.mono (by omega))
  have HB : Hid (Below w.heap.size w (((w1.setCell ⟨w.heap.size + 1 + 1, 0, none⟩ (.int .i64 rw')).setCell ⟨w.heap.size + 1 + 1, 1, none⟩ (.int .i64 rh')).setCell ⟨w.heap.size + 1 + 1, 2, none⟩ v)) := ((hB.setCell (p := ⟨w.heap.size + 1 + 1, 0, none⟩) (by show w.heap.size ≤ w.heap.size + 1 + 1; omega) _).setCell (p := ⟨w.heap.size + 1 + 1, 1, none⟩) (by show w.heap.size ≤ w.heap.size + 1 + 1; omega) _).setCell (p := ⟨w.heap.size + 1 + 1, 2, none⟩) (by show w.heap.size ≤ w.heap.size + 1 + 1; omega) _
  have HOF : Hid ((((w1.setCell ⟨w.heap.size + 1 + 1, 0, none⟩ (.int .i64 rw')).setCell ⟨w.heap.size + 1 + 1, 1, none⟩ (.int .i64 rh')).setCell ⟨w.heap.size + 1 + 1, 2, none⟩ v).ownsRow w.heap.size 5 1 v l.length (byC l)) := by
    refine owns_mono (owns_of_block hown (fun q hq => ?_)) (by omega)
    have hq1 := (hown.lt q hq).1
    have hne : q ≠ w.heap.size + 1 + 1 := by omega
    rw [set_other hne, set_other hne, set_other hne]
  have HQ := hide hq
  subst hv
  clear hown hb1 hZ2 hB HCall hq hW3
  go_wp2
  obtain ⟨wF, hwF⟩ : ∃ wF, wF = ((w1.setCell ⟨w.heap.size + 1 + 1, 0, none⟩ (.int .i64 rw')).setCell ⟨w.heap.size + 1 + 1, 1, none⟩ (.int .i64 rh')).setCell ⟨w.heap.size + 1 + 1, 2, none⟩ (.slice ao l.length cap0) := ⟨_, rfl⟩
  rw [← hwF]
  rw [← hwF] at HR HB HOF
  obtain ⟨g0, g1, g2⟩ := gz_cells HR.out
  exact bodyPost_ret (v := .tuple #[.agg #[.int .i64 rw', .int .i64 rh', .slice ao l.length cap0], .int .i64 RE]) (by simp [results, Try.results37, go_sem, g0, g1, g2]) rfl ⟨_, _, _, l, rfl, HB.out, HOF.out, HQ.out⟩
end Go.Proofs.Ytkhcjkmifddlbab
