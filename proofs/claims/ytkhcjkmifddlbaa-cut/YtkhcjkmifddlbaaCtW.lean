/- The caller's step on Cuts; the law Cut. -/
import Derived.Test.YtkhcjkmifddlbaaCtS
import Derived.Test.YtkhcjkmifddlbaaCrvW
namespace Go.Proofs.Ytkhcjkmifddlbaa
open Go.RowKit Go.Deep

theorem cutsL_len (ax ay bx b2 : Int) : (Num.cutsL ax ay bx b2).length ≤ 1054730 := by
  unfold Num.cutsL
  split
  · have h := Num.cutF_len (Num.rowsV ax ay bx b2 ++ [(bx, b2)]) ax ay
    have h2 := Num.rowsV_len ax ay bx b2
    simp only [List.length_cons]
    simp only [List.length_append, List.length_cons, List.length_nil] at h
    omega
  · simp

/-- Two spots that a call was handed, as it boxes them. -/
theorem two_rows (ax ay bx b2 : Int) (w : World) (t : TypeId) : ((w.alloc (.cells #[.int .i64 ax, .int .i64 ay] t)).alloc (.cells #[.int .i64 bx, .int .i64 b2] t)).rowIs w.heap.size t 2 (sp2 ax ay) ∧ ((w.alloc (.cells #[.int .i64 ax, .int .i64 ay] t)).alloc (.cells #[.int .i64 bx, .int .i64 b2] t)).rowIs (w.heap.size + 1) t 2 (sp2 bx b2) := by
  have h := sp2_row bx b2 (w.alloc (.cells #[.int .i64 ax, .int .i64 ay] t)) t
  rw [nblk_alloc] at h
  exact ⟨(sp2_row ax ay w t).alloc _, h⟩

set_option maxRecDepth 100000 in
set_option maxHeartbeats 2000000 in
theorem cuts_any (h T : Nat) (ax ay bx b2 : Int) (s : HS) (w : World) (hT : T ≤ h) (H : HeldInv w h s) (hs : s.n + 1 ≤ 1099511627776) :
    Calls Try.prog 19 #[.pointer (some ⟨h, 0, none⟩), .agg #[.int .i64 ax, .int .i64 ay], .agg #[.int .i64 bx, .int .i64 b2]] w fun e w' => e = .returned (.bool true) ∧ Below T w w' ∧ ∃ s', HeldInv w' h s' ∧ s'.n = s.n + 1 ∧ s'.cs = s.cs ∧ s'.rs = s.rs := by
  have hhw := H.wd.lt
  have HH := hide H
  have hcl := cutsL_len ax ay bx b2
  have HRow := hide (two_rows ax ay bx b2 w 41)
  obtain ⟨CL, hCL⟩ : ∃ CL, CL = Num.cutsL ax ay bx b2 := ⟨_, rfl⟩
  obtain ⟨cd, hcd⟩ : ∃ cd, cd = Num.cutsE ax ay bx b2 := ⟨_, rfl⟩
  rw [← hCL] at hcl
  have HCL := hide hCL
  have HCD := hide hcd
  clear H hCL hcd
  go_enter Try.func19, Try.ntmps19
  go_wp2_with fail
  refine (glyphCuts_any _ _ _ _ _).mono ?_
  rw [← HCL.out, ← HCD.out]
  rintro e w1 ⟨l, rfl, hb1, hol⟩
  have hs1 : w.heap.size + 1 < w1.heap.size := by have := hb1.size; simp at this; omega
  have hs1' : w.heap.size < w1.heap.size := by omega
  have HB1 : Hid (Below w.heap.size w w1) := Below.trans (by (repeat (any_goals (first | exact Below.refl _ _ | assumption | refine Below.drew ?_ | refine below_drewN ?_ _ | refine Below.setCell ?_ ?_ _ | refine Below.alloc ?_ ?_ _ | omega | (simp; done) | (simp; omega))))) (hb1.mono (by simp; omega))
  obtain ⟨a0, a1⟩ := sp2_cells (row_below HRow.out.1 hb1 HRow.out.1.lt)
  obtain ⟨e0, e1⟩ := sp2_cells (row_below HRow.out.2 hb1 HRow.out.2.lt)
  have Hol1 := hide (owns_mono (base' := w.heap.size) hol (by simp; omega))
  clear hb1 hol
  go_wp2_with fail
  refine (refCuts_any _ _ _ _ _).mono ?_
  rw [← HCL.out, ← HCD.out]
  rintro e w2 ⟨r, rfl, hb2, hor⟩
  have hs2 := hb2.size
  have HB2 := hide (HB1.out.trans (hb2.mono (by omega)))
  have Hol2 := hide (owns_of_block Hol1.out (fun b hbb => hb2.block b (Hol1.out.lt b hbb).2))
  have Hor2 := hide hor
  clear hb2 hor a0 a1 e0 e1
  go_wp2_with fail
  refine (sameSpots_any l r _ _ CL _ (by omega) Hol2.out Hor2.out).mono ?_
  rintro e w3 ⟨rfl, nd, hw3⟩
  have HB3 : Hid (Below w.heap.size w w3) := by unfold Hid; rw [hw3]; exact below_drewN HB2.out nd
  have Hol3 : Hid (w3.ownsRow w.heap.size 41 2 l CL.length (CL.flatMap spC)) := by unfold Hid; rw [hw3]; exact Hol2.out
  have hs3 : w2.heap.size ≤ w3.heap.size := by rw [hw3]; exact Nat.le_refl _
  clear hw3
  have H3 := hide (HH.out.below HB3.out)
  go_wp2_with fail
  refine (heldSpots_any h _ _ l _ s _ H3.out Hol3.out (fun b hb => HH.out.free (Hol3.out.lt b hb).1) hs).mono ?_
  rintro e w4 ⟨rfl, hT4, s1, hI4, hK⟩
  have HT4 := hide hT4
  have HI4 := hide hI4
  have HK := hide hK
  clear hT4 hI4 hK
  go_wp2_with (go_at_call 49; refine (num_any _ _).mono ?_; rintro e w' ⟨rfl, rfl⟩)
  go_ret
  refine ⟨rfl, ?_, s1, HI4.out, HK.out.n, HK.out.cs, HK.out.rs⟩
  exact (HB3.out.mono (by omega)).trans (HT4.out.below (by omega) (spotS_ge H3.out Hol3.out hT (by omega)))

set_option maxRecDepth 100000 in
set_option maxHeartbeats 1000000 in
theorem cut_any (ax ay bx b2 : Int) (w : World) :
    Calls Try.prog 7 #[.agg #[.int .i64 ax, .int .i64 ay], .agg #[.int .i64 bx, .int .i64 b2]] w fun e w' => e = .returned (.bool true) ∧ Below w.heap.size w w' := by
  have HRow := hide (two_rows ax ay bx b2 w 41)
  have H0 := hide (held_start ((w.alloc (.cells #[.int .i64 ax, .int .i64 ay] 41)).alloc (.cells #[.int .i64 bx, .int .i64 b2] 41)))
  rw [nblk_alloc, nblk_alloc] at H0
  go_enter Try.func7, Try.ntmps7
  go_wp2_with fail
  refine (cuts_any (w.heap.size + 1 + 1) (w.heap.size + 2) _ _ _ _ hs0 _ (Nat.le_refl _) H0.out (by simp [hs0])).mono ?_
  rintro e w1 ⟨rfl, hb1, s1, hI1, hn1, _, _⟩
  have hs1 : w.heap.size + 2 < w1.heap.size := by have := hb1.size; simp at this; omega
  have hs1' : w.heap.size < w1.heap.size := by omega
  have hs1'' : w.heap.size + 1 < w1.heap.size := by omega
  have HB1 : Hid (Below w.heap.size w w1) := Below.trans (by (repeat (any_goals (first | exact Below.refl _ _ | assumption | refine Below.drew ?_ | refine below_drewN ?_ _ | refine Below.setCell ?_ ?_ _ | refine Below.alloc ?_ ?_ _ | omega | (simp; done) | (simp; omega))))) (hb1.mono (by omega))
  obtain ⟨a0, a1⟩ := sp2_cells (row_below (HRow.out.1.alloc _) hb1 (by omega))
  obtain ⟨e0, e1⟩ := sp2_cells (row_below (HRow.out.2.alloc _) hb1 (by omega))
  have HI1 := hide hI1
  have HN1 : Hid (s1.n = 1) := by unfold Hid; rw [hn1]; rfl
  clear hb1 hI1 hn1
  go_wp2_with fail
  refine (cuts_any (w.heap.size + 1 + 1) (w.heap.size + 2) _ _ _ _ s1 _ (Nat.le_refl _) HI1.out (by rw [HN1.out]; decide)).mono ?_
  rintro e w2 ⟨rfl, hb2, s2, hI2, hn2, _, _⟩
  have hs2 := hb2.size
  have HB2 := hide (HB1.out.trans (hb2.mono (by omega)))
  have HI2 := hide hI2
  clear hb2 hI2 hn2 a0 a1 e0 e1
  go_wp2_with fail
  refine (dry_any (w.heap.size + 1 + 1) s2 _ HI2.out).mono ?_
  rintro e w3 ⟨rfl, hb3⟩
  have HB3 := hide (HB2.out.trans (hb3.mono (by omega)))
  clear hb3
  go_wp2
  go_ret
  exact ⟨rfl, HB3.out⟩
end Go.Proofs.Ytkhcjkmifddlbaa
