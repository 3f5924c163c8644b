/- The caller's step on Curve; the law Curved. -/
import Derived.Test.YtkhcjkmifddlbaaHeldT
import Derived.Test.YtkhcjkmifddlbaaCrvS
import Derived.Test.YtkhcjkmifddlbaaDryB
import Derived.Test.YtkhcjkmifddlbaaStart
import Derived.Test.YtkhcjkmifddlbaaPlaceC
namespace Go.Proofs.Ytkhcjkmifddlbaa
open Go.RowKit Go.Deep

theorem HeldInv.free {w : World} {h : Nat} {s : HS} (H : HeldInv w h s) {b : Nat} (hb : w.heap.size ≤ b) : s.Free b :=
  ⟨fun e he e1 => by have := (H.eT e he b e1).lt; omega, fun e he i hi e1 => by have := (H.eJ e he i hi).lt; omega⟩

theorem curveL_len (g : Num.Sg) : (Num.curveL g).length ≤ 112 := by
  unfold Num.curveL
  split
  · rename_i h
    have := curveN_eq (Num.curve_ok h).2
    simp; omega
  · simp

/-- Behind spots: what lies below the caller's world is as it was. -/
theorem spotS_ge {w : World} {h n base T : Nat} {s : HS} {x : Value} {xs : List Value} (H : HeldInv w h s) (hx : w.ownsRow base 41 2 x n xs) (hT : T ≤ h) (hb : T ≤ base) : ∀ b, spotS h s x b → T ≤ b := by
  rintro b (rfl | hb' | hb')
  · exact hT
  · have := (H.oT.lt b hb').1; omega
  · have := (hx.lt b hb').1; omega

set_option maxRecDepth 100000 in
set_option maxHeartbeats 2000000 in
theorem curves_any (h T : Nat) (k x0 y0 x1 y1 x2 y2 x3 y3 : Int) (s : HS) (w : World) (hT : T ≤ h) (H : HeldInv w h s) (hs : s.n + 1 ≤ 1099511627776) :
    Calls Try.prog 17 #[.pointer (some ⟨h, 0, none⟩), .agg #[.int .i64 k, .int .i64 x0, .int .i64 y0, .int .i64 x1, .int .i64 y1, .int .i64 x2, .int .i64 y2, .int .i64 x3, .int .i64 y3]] w fun e w' => e = .returned (.bool true) ∧ Below T w w' ∧ ∃ s', HeldInv w' h s' ∧ s'.n = s.n + 1 ∧ s'.cs = s.cs ∧ s'.rs = s.rs := by
  have hhw := H.wd.lt
  have HH := hide H
  have hcl := curveL_len (⟨k, x0, y0, x1, y1, x2, y2, x3, y3⟩ : Num.Sg)
  have HRow := hide (sg9_row k x0 y0 x1 y1 x2 y2 x3 y3 w 44)
  obtain ⟨CL, hCL⟩ : ∃ CL, CL = Num.curveL (⟨k, x0, y0, x1, y1, x2, y2, x3, y3⟩ : Num.Sg) := ⟨_, rfl⟩
  obtain ⟨cd, hcd⟩ : ∃ cd, cd = Num.curveE (⟨k, x0, y0, x1, y1, x2, y2, x3, y3⟩ : Num.Sg) := ⟨_, rfl⟩
  rw [← hCL] at hcl
  have HCL := hide hCL
  have HCD := hide hcd
  clear H hCL hcd
  go_enter Try.func17, Try.ntmps17
  go_wp2_with fail
  refine (glyphCurve_any _ _ _ _ _ _ _ _ _ _).mono ?_
  rw [← HCL.out, ← HCD.out]
  rintro e w1 ⟨l, rfl, hb1, hol⟩
  have hs1 : w.heap.size < w1.heap.size := by have := hb1.size; simp at this; omega
  have HB1 : Hid (Below w.heap.size w w1) := Below.trans (by (repeat (any_goals (first | exact Below.refl _ _ | assumption | refine Below.drew ?_ | refine below_drewN ?_ _ | refine Below.setCell ?_ ?_ _ | refine Below.alloc ?_ ?_ _ | omega | (simp; done) | (simp; omega))))) (hb1.mono (by simp))
  have HR1 := hide (row_below HRow.out hb1 HRow.out.lt)
  have Hol1 := hide (owns_mono (base' := w.heap.size) hol (by simp))
  obtain ⟨c0, c1, c2, c3, c4, c5, c6, c7, c8⟩ := sg9_cells HR1.out
  clear hb1 hol
  go_wp2_with fail
  refine (refCurve_any _ _ _ _ _ _ _ _ _ _).mono ?_
  rw [← HCL.out, ← HCD.out]
  rintro e w2 ⟨r, rfl, hb2, hor⟩
  have hs2 := hb2.size
  have HB2 := hide (HB1.out.trans (hb2.mono (by omega)))
  have Hol2 := hide (owns_of_block Hol1.out (fun b hbb => hb2.block b (Hol1.out.lt b hbb).2))
  have Hor2 := hide hor
  clear hb2 hor c0 c1 c2 c3 c4 c5 c6 c7 c8
  go_wp2_with fail
  refine (sameSpots_any l r _ _ CL _ (by omega) Hol2.out Hor2.out).mono ?_
  rintro e w3 ⟨rfl, nd, hw3⟩
  have HB3 : Hid (Below w.heap.size w w3) := by unfold Hid; rw [hw3]; exact below_drewN HB2.out nd
  have Hol3 : Hid (w3.ownsRow w.heap.size 41 2 l CL.length (CL.flatMap spC)) := by unfold Hid; rw [hw3]; exact Hol2.out
  have hs3 : w2.heap.size ≤ w3.heap.size := by rw [hw3]; exact Nat.le_refl _
  clear hw3
  have H3 := hide (HH.out.below HB3.out)
  go_wp2_with fail
  refine (heldSpots_any h _ _ l _ s _ H3.out Hol3.out (fun b hb => HH.out.free (Hol3.out.lt b hb).1) hs).mono ?_
  rintro e w4 ⟨rfl, hT4, s1, hI4, hK⟩
  have HT4 := hide hT4
  have HI4 := hide hI4
  have HK := hide hK
  clear hT4 hI4 hK
  go_wp2_with (go_at_call 49; refine (num_any _ _).mono ?_; rintro e w' ⟨rfl, rfl⟩)
  go_ret
  refine ⟨rfl, ?_, s1, HI4.out, HK.out.n, HK.out.cs, HK.out.rs⟩
  exact (HB3.out.mono (by omega)).trans (HT4.out.below (by omega) (spotS_ge H3.out Hol3.out hT (by omega)))

set_option maxRecDepth 100000 in
set_option maxHeartbeats 1000000 in
theorem curved_any (k x0 y0 x1 y1 x2 y2 x3 y3 : Int) (w : World) :
    Calls Try.prog 5 #[.agg #[.int .i64 k, .int .i64 x0, .int .i64 y0, .int .i64 x1, .int .i64 y1, .int .i64 x2, .int .i64 y2, .int .i64 x3, .int .i64 y3]] w fun e w' => e = .returned (.bool true) ∧ Below w.heap.size w w' := by
  have HRow := hide (sg9_row k x0 y0 x1 y1 x2 y2 x3 y3 w 44)
  have H0 := hide (held_start (w.alloc (.cells #[.int .i64 k, .int .i64 x0, .int .i64 y0, .int .i64 x1, .int .i64 y1, .int .i64 x2, .int .i64 y2, .int .i64 x3, .int .i64 y3] 44)))
  rw [nblk_alloc] at H0
  go_enter Try.func5, Try.ntmps5
  go_wp2_with fail
  refine (curves_any (w.heap.size + 1) (w.heap.size + 1) _ _ _ _ _ _ _ _ _ hs0 _ (Nat.le_refl _) H0.out (by simp [hs0])).mono ?_
  rintro e w1 ⟨rfl, hb1, s1, hI1, hn1, _, _⟩
  have hs1 : w.heap.size + 1 < w1.heap.size := by have := hb1.size; simp at this; omega
  have HB1 : Hid (Below w.heap.size w w1) := Below.trans (by (repeat (any_goals (first | exact Below.refl _ _ | assumption | refine Below.drew ?_ | refine below_drewN ?_ _ | refine Below.setCell ?_ ?_ _ | refine Below.alloc ?_ ?_ _ | omega | (simp; done) | (simp; omega))))) (hb1.mono (Nat.le_succ _))
  have HR1 := hide (row_below (HRow.out.alloc _) hb1 (Nat.lt_succ_self _))
  obtain ⟨c0, c1, c2, c3, c4, c5, c6, c7, c8⟩ := sg9_cells HR1.out
  have HI1 := hide hI1
  have HN1 : Hid (s1.n = 1) := by unfold Hid; rw [hn1]; rfl
  clear hb1 hI1 hn1
  go_wp2_with fail
  refine (curves_any (w.heap.size + 1) (w.heap.size + 1) _ _ _ _ _ _ _ _ _ s1 _ (Nat.le_refl _) HI1.out (by rw [HN1.out]; decide)).mono ?_
  rintro e w2 ⟨rfl, hb2, s2, hI2, hn2, _, _⟩
  have hs2 := hb2.size
  have HB2 := hide (HB1.out.trans (hb2.mono (Nat.le_succ _)))
  have HI2 := hide hI2
  clear hb2 hI2 hn2 c0 c1 c2 c3 c4 c5 c6 c7 c8
  go_wp2_with fail
  refine (dry_any (w.heap.size + 1) s2 _ HI2.out).mono ?_
  rintro e w3 ⟨rfl, hb3⟩
  have HB3 := hide (HB2.out.trans (hb3.mono (by omega)))
  clear hb3
  go_wp2
  go_ret
  exact ⟨rfl, HB3.out⟩
end Go.Proofs.Ytkhcjkmifddlbaa
