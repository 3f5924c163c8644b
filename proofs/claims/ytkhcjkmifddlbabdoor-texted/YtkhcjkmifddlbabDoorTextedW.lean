/- The law Texted. -/
import Derived.Test.YtkhcjkmifddlbabDoorEncW
namespace Go.Proofs.YtkhcjkmifddlbabDoor
open Go.RowKit Go.Deep

set_option maxRecDepth 100000 in
set_option maxHeartbeats 2000000 in
theorem texted_any (a : Option Addr) (n c : Nat) (UW UH : Int) (U : Nat → Int) (t : ByteArray) (w : World) (hn : n ≤ 140737488355328) (ht : (t.size : Int) ≤ 9000000000000000000)
    (hU : ByAt w a n U) (bU : ∀ k, k < n → 0 ≤ U k ∧ U k ≤ 255) :
    Calls Tryd.prog 3 #[.agg #[.int .i64 UW, .int .i64 UH, .slice a n c], .string t] w fun e w' => e = .returned (.bool true) ∧ Below w.heap.size w w' := by
  obtain ⟨W2, hW2⟩ : ∃ W2, W2 = w.alloc (.cells #[.int .i64 UW, .int .i64 UH, .slice a n c] 24) := ⟨_, rfl⟩
  have hs2 : W2.heap.size = w.heap.size + 1 := by rw [hW2]; simp
  have hbw2 : Below w.heap.size w W2 := by rw [hW2]; (repeat (any_goals (first | exact Below.refl _ _ | assumption | refine Below.drew ?_ | refine below_drewN ?_ _ | refine Below.setCell ?_ ?_ _ | refine Below.alloc ?_ ?_ _ | omega | (simp; done) | (simp; omega))))
  obtain ⟨ub, hub⟩ : ∃ ub, ub = w.heap.size := ⟨_, rfl⟩
  have hru : W2.rowIs ub 24 3 (gz UW UH (.slice a n c)) := by rw [hW2, hub]; exact gz_row _ _ _ _ _
  obtain ⟨W3, hW3⟩ : ∃ W3, W3 = W2.alloc (.cells #[.slice none 0 0, .slice none 0 0, .int .i64 0, .slice none 0 0, .slice none 0 0, .slice none 0 0, .slice none 0 0, .slice none 0 0, .slice none 0 0] 37) := ⟨_, rfl⟩
  have hI0 : HeldInv W3 W2.heap.size hs0 := by rw [hW3]; exact held_start W2
  have hb23 : Below W2.heap.size W2 W3 := by rw [hW3]; exact (Below.refl _ _).alloc (Nat.le_refl _) _
  obtain ⟨hb, hhb⟩ : ∃ hb, hb = W2.heap.size := ⟨_, rfl⟩
  have hhb2 : hb = w.heap.size + 1 := by omega
  have hs3 : W3.heap.size = hb + 1 := by rw [hW3, hhb]; simp
  have HU := hide (hU.below hbw2)
  have HbU := hide bU
  have HBw2 := hide hbw2
  have HB23 := hide hb23
  rw [← hhb] at hI0
  have HI0 := hide hI0
  have hul : ub < W2.heap.size := by omega
  have hru3 := row_below hru hb23 hul
  have HRu := hide hru3
  obtain ⟨p0, p1, p2⟩ := gz_cells hru3
  have HW3 := hide hW3
  have HW2 := hide hW2
  have HHB := hide hhb
  have HHB2 := hide hhb2
  have HUb := hide hub
  have hx1 := hru3.lt
  have HUL := hide hul
  clear hU bU hbw2 hb23 hI0 hru hru3 hW3 hW2 hhb hhb2 hub hul
  go_enter Tryd.func3, Tryd.ntmps3
  go_wp2_with fail
  rw [← HW2.out, ← HW3.out]
  try rw [← HHB2.out]
  try rw [← HUb.out]
  refine (encodes_any a n c hb UW UH U hs0 W2 W3 hn HU.out HbU.out HB23.out (by rw [HHB.out]; exact Nat.le_refl _) HI0.out (by simp [hs0])).mono ?_
  rintro e w4 ⟨rfl, hb4, _, s1, hI4, hn4, _, _⟩
  have HN4 : Hid (s1.n ≤ 24) := by unfold Hid; have : hs0.n = 0 := rfl; omega
  have HB24 := hide (HB23.out.trans hb4)
  have HRu4 := hide (row_below HRu.out hb4 HUL.out)
  have HI4 := hide hI4
  clear hb4 hI4 hn4 p0 p1 p2 hx1 HW2 HW3
  go_wp2_with fail
  refine (decodes_any t hb s1 W2 w4 ht HB24.out (by rw [HHB.out]; exact Nat.le_refl _) HI4.out (by have := HN4.out; omega)).mono ?_
  rintro e w5 ⟨rfl, hb5, _, s2, hI5, hn5, _, _⟩
  have HN5 : Hid (s2.n ≤ 48) := by unfold Hid; have := HN4.out; omega
  have HB25 := hide (HB24.out.trans hb5)
  have hru5 := row_below HRu4.out hb5 HUL.out
  have HRu5 := hide hru5
  have HI5 := hide hI5
  obtain ⟨p0, p1, p2⟩ := gz_cells hru5
  have hx1 := hru5.lt
  clear hb5 hI5 hn5 hru5
  go_wp2_with fail
  refine (encodes_any a n c hb UW UH U s2 W2 w5 hn HU.out HbU.out HB25.out (by rw [HHB.out]; exact Nat.le_refl _) HI5.out (by have := HN5.out; omega)).mono ?_
  rintro e w6 ⟨rfl, hb6, _, s3, hI6, hn6, _, _⟩
  have HN6 : Hid (s3.n ≤ 72) := by unfold Hid; have := HN5.out; omega
  have HB26 := hide (HB25.out.trans hb6)
  have HI6 := hide hI6
  clear hb6 hI6 hn6 p0 p1 p2 hx1
  go_wp2_with fail
  refine (decodes_any t hb s3 W2 w6 ht HB26.out (by rw [HHB.out]; exact Nat.le_refl _) HI6.out (by have := HN6.out; omega)).mono ?_
  rintro e w7 ⟨rfl, hb7, _, s4, hI7, hn7, _, _⟩
  have HB27 := hide (HB26.out.trans hb7)
  have HI7 := hide hI7
  clear hb7 hI7 hn7
  go_wp2_with fail
  refine (dry_any hb s4 _ HI7.out).mono ?_
  rintro e w8 ⟨rfl, hb8⟩
  have HB8 : Hid (Below w.heap.size w w8) := (HBw2.out.trans (HB27.out.mono (by omega))).trans (hb8.mono (by have := HB27.out.size; omega))
  clear hb8
  go_wp2
  go_ret
  exact ⟨rfl, HB8.out⟩
end Go.Proofs.YtkhcjkmifddlbabDoor
