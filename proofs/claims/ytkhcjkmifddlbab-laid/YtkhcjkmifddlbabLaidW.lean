/- The law Laid. -/
import Derived.Test.YtkhcjkmifddlbabLayW
namespace Go.Proofs.Ytkhcjkmifddlbab
open Go.RowKit Go.Deep

set_option maxRecDepth 100000 in
set_option maxHeartbeats 2000000 in
theorem laid_any (a a' : Option Addr) (n m c c' : Nat) (UW UH OW OH x y way : Int) (U O : Nat → Int) (w : World) (hn : n ≤ 140737488355328) (hm : m ≤ 140737488355328)
    (hU : ByAt w a n U) (hO : ByAt w a' m O) (bU : ∀ k, k < n → 0 ≤ U k ∧ U k ≤ 255) (bO : ∀ k, k < m → 0 ≤ O k ∧ O k ≤ 255) :
    Calls Try.prog 6 #[.agg #[.int .i64 UW, .int .i64 UH, .slice a n c], .agg #[.int .i64 OW, .int .i64 OH, .slice a' m c'], .int .i64 x, .int .i64 y, .int .i64 way] w fun e w' => e = .returned (.bool true) ∧ Below w.heap.size w w' := by
  obtain ⟨W2, hW2⟩ : ∃ W2, W2 = (w.alloc (.cells #[.int .i64 UW, .int .i64 UH, .slice a n c] 57)).alloc (.cells #[.int .i64 OW, .int .i64 OH, .slice a' m c'] 57) := ⟨_, rfl⟩
  have hs2 : W2.heap.size = w.heap.size + 1 + 1 := by rw [hW2]; simp
  have hbw2 : Below w.heap.size w W2 := by rw [hW2]; (repeat (any_goals (first | exact Below.refl _ _ | assumption | refine Below.drew ?_ | refine below_drewN ?_ _ | refine Below.setCell ?_ ?_ _ | refine Below.alloc ?_ ?_ _ | omega | (simp; done) | (simp; omega))))
  have hru : W2.rowIs w.heap.size 57 3 (gz UW UH (.slice a n c)) := by rw [hW2]; exact (gz_row _ _ _ _ _).alloc _
  have hrv : W2.rowIs (w.heap.size + 1) 57 3 (gz OW OH (.slice a' m c')) := by
    have h := gz_row OW OH (.slice a' m c') (w.alloc (.cells #[.int .i64 UW, .int .i64 UH, .slice a n c] 57)) 57
    rw [nblk_alloc] at h
    rw [hW2]; exact h
  obtain ⟨W3, hW3⟩ : ∃ W3, W3 = W2.alloc (.cells #[.slice none 0 0, .slice none 0 0, .int .i64 0, .slice none 0 0, .slice none 0 0, .slice none 0 0, .slice none 0 0, .slice none 0 0, .slice none 0 0] 70) := ⟨_, rfl⟩
  have hI0 : HeldInv W3 W2.heap.size hs0 := by rw [hW3]; exact held_start W2
  have hb23 : Below W2.heap.size W2 W3 := by rw [hW3]; exact (Below.refl _ _).alloc (Nat.le_refl _) _
  obtain ⟨hb, hhb⟩ : ∃ hb, hb = W2.heap.size := ⟨_, rfl⟩
  have hhb2 : hb = w.heap.size + 1 + 1 := by omega
  have hs3 : W3.heap.size = hb + 1 := by rw [hW3, hhb]; simp
  have HU := hide (hU.below hbw2)
  have HO := hide (hO.below hbw2)
  have HbU := hide bU
  have HbO := hide bO
  have HBw2 := hide hbw2
  have HB23 := hide hb23
  rw [← hhb] at hI0
  have HI0 := hide hI0
  have hru3 := row_below hru hb23 (by omega)
  have hrv3 := row_below hrv hb23 (by omega)
  have HRu := hide hru3
  have HRv := hide hrv3
  obtain ⟨p0, p1, p2⟩ := gz_cells hru3
  obtain ⟨r0, r1, r2⟩ := gz_cells hrv3
  have HW3 := hide hW3
  have HW2 := hide hW2
  have HHB := hide hhb
  have HHB2 := hide hhb2
  have hx1 := hru3.lt
  have hx2 := hrv3.lt
  have hsb1 : w.heap.size + 1 < hb := by omega
  clear hU hO bU bO hbw2 hb23 hI0 hru hrv hru3 hrv3 hW3 hW2 hhb hhb2
  go_enter Try.func6, Try.ntmps6
  go_wp2_with fail
  rw [← HW2.out, ← HW3.out]
  try rw [← HHB2.out]
  refine (lays_any a a' n m c c' hb UW UH OW OH x y way U O hs0 W2 W3 hn hm HU.out HO.out HbU.out HbO.out HB23.out (by rw [HHB.out]; exact Nat.le_refl _) HI0.out (by simp [hs0])).mono ?_
  rintro e w4 ⟨rfl, hb4, _, s1, hI4, hn4, _, _⟩
  have HN4 : Hid (s1.n ≤ 24) := by unfold Hid; have : hs0.n = 0 := rfl; omega
  have HB24 := hide (HB23.out.trans hb4)
  have hsz4 : W3.heap.size ≤ w4.heap.size := hb4.size
  have hru4 := row_below HRu.out hb4 (by have := HHB.out; omega)
  have hrv4 := row_below HRv.out hb4 (by have := HHB.out; omega)
  clear p0 p1 p2 r0 r1 r2 hx1 hx2
  obtain ⟨p0, p1, p2⟩ := gz_cells hru4
  obtain ⟨r0, r1, r2⟩ := gz_cells hrv4
  have hx1 := hru4.lt
  have hx2 := hrv4.lt
  have HI4 := hide hI4
  clear hb4 hI4 hn4 hru4 hrv4 HW2 HW3
  go_wp2_with fail
  refine (lays_any a a' n m c c' hb UW UH OW OH x y way U O s1 W2 w4 hn hm HU.out HO.out HbU.out HbO.out HB24.out (by rw [HHB.out]; exact Nat.le_refl _) HI4.out (by have := HN4.out; omega)).mono ?_
  rintro e w5 ⟨rfl, hb5, _, s2, hI5, hn5, _, _⟩
  have HB25 := hide (HB24.out.trans hb5)
  have HI5 := hide hI5
  clear hb5 hI5 hn5 p0 p1 p2 r0 r1 r2 hx1 hx2
  go_wp2_with fail
  refine (dry_any hb s2 _ HI5.out).mono ?_
  rintro e w6 ⟨rfl, hb6⟩
  have HB6 : Hid (Below w.heap.size w w6) := (HBw2.out.trans (HB25.out.mono (by omega))).trans (hb6.mono (by have := HB25.out.size; omega))
  clear hb6
  go_wp2
  go_ret
  exact ⟨rfl, HB6.out⟩
end Go.Proofs.Ytkhcjkmifddlbab
