/- The caller's step on Segments; the law Outlined. -/
import Derived.Test.YtkhcjkmifddlbaaSegH
import Derived.Test.YtkhcjkmifddlbaaChecks
import Derived.Test.YtkhcjkmifddlbaaStart
namespace Go.Proofs.Ytkhcjkmifddlbaa
open Go.RowKit Go.Deep

/-- A list of segments does not lie where outline writes. -/
theorem seg_not_outS {w : World} {base h ob N base' n : Nat} {B nn : Nat → Nat} {X Y K : Nat → Nat → Int} {s : HS} {v : Value} {xs : List Value} (H : HeldInv w h s) (L : Lent w base ob N B nn X Y K) (ho : w.ownsRow base' 44 9 v n xs) {b : Nat} (hb : v.ownBlock = some b) : ¬ outS h ob (N + 2) B s b := by
  have ty := owns_ty ho hb
  rintro (rfl | rfl | ⟨i, hi, rfl⟩ | h1 | h1)
  · rw [row_ty H.wd] at ty; simp at ty
  · rw [row_ty L.outer] at ty; simp at ty
  · rw [row_ty (L.inner i hi)] at ty; simp at ty
  · rw [owns_ty H.oP h1] at ty; simp at ty
  · rw [owns_ty H.oO h1] at ty; simp at ty

set_option maxRecDepth 100000 in
set_option maxHeartbeats 2000000 in
theorem segments_any (a : Option Addr) (N c h : Nat) (A : Nat → Option Addr) (C n : Nat → Nat) (X Y K : Nat → Nat → Int) (s : HS) (w0 w : World) (hN : N ≤ 2097152) (hn : ∀ i, i < N → n i ≤ 2097152) (hS : Num.sumN n N ≤ 1099511627776)
    (ho : OutAt w0 a N A C n X Y K) (hb0 : Below w0.heap.size w0 w) (hh : w0.heap.size ≤ h) (H : HeldInv w h s) (hs : s.n + N + 4 ≤ 1099511627776) :
    Calls Try.prog 14 #[.pointer (some ⟨h, 0, none⟩), .slice a N c] w fun e w' => e = .returned (.bool true) ∧ Below w0.heap.size w w' ∧ ∃ s', HeldInv w' h s' ∧ s'.n = s.n + N + 4 ∧ s'.cs = s.cs ∧ s'.rs = s.rs := by
  have hn1 : ∀ i, i < N → n i ≤ 4294967295 := fun i hi => by have := hn i hi; omega
  have hn2 : ∀ i, i < N → n i ≤ 4294967296 := fun i hi => by have := hn i hi; omega
  have hsz0 := hb0.size
  have hhw := H.wd.lt
  have HH := hide H
  have HN1 := hide hn1
  have HN2 := hide hn2
  have HO := hide (ho.below hb0)
  have hsl : (segsV N n X Y K).length ≤ 4294967296 := by
    unfold segsV
    split
    · rename_i h0
      rcases Num.chk_cases N n X Y K with ⟨_, hm, _, _⟩ | h1
      · have := allS_len n X Y K N
        have := (ok_many hm).2.1
        omega
      · exact absurd h0 h1
    · simp
  clear H hn1 hn2 ho hn hb0
  obtain ⟨SV, hSV⟩ : ∃ SV, SV = segsV N n X Y K := ⟨_, rfl⟩
  obtain ⟨cd, hcd⟩ : ∃ cd, cd = (Num.chkV N n X Y K).1 := ⟨_, rfl⟩
  rw [← hSV] at hsl
  have HSV := hide hSV
  have HCD := hide hcd
  clear hSV hcd
  go_enter Try.func14, Try.ntmps14
  go_wp2_with fail
  refine (lend_any _ _ _ A C n X Y K _ (by omega) HN1.out HO.out).mono ?_
  rintro e w1 ⟨rfl, hb1, B, hL⟩
  have HL := hide hL
  have HB1 := hide hb1
  have hs1 := hb1.size
  clear hL hb1
  go_wp2_with fail
  refine (glyphSegments_any _ _ _ _ _ n X Y K _ (by omega) HN2.out HL.out.out).mono ?_
  rw [← HSV.out, ← HCD.out]
  rintro e w2 ⟨l, rfl, hb2, hol⟩
  have HB2 := hide (HB1.out.trans (hb2.mono hs1))
  have HL2 := hide (HL.out.below hb2)
  have Hol2 := hide hol
  have hs2 := hb2.size
  clear hb2 hol
  go_wp2_with fail
  refine (refSegments_any _ _ _ A C n X Y K _ (by omega) HN2.out hS (HO.out.below HB2.out)).mono ?_
  rw [← HSV.out, ← HCD.out]
  rintro e w3 ⟨r, rfl, hb3, hor⟩
  have HB3 := hide (HB2.out.trans (hb3.mono (by omega)))
  have HL3 := hide (HL2.out.below hb3)
  have Hol3 := hide (owns_of_block Hol2.out (fun b hbb => hb3.block b (Hol2.out.lt b hbb).2))
  have Hor3 := hide hor
  have hs3 := hb3.size
  clear hb3 hor
  go_wp2_with fail
  refine (lent_any _ _ _ _ _ A C n B X Y K _ (by omega) HN1.out HL3.out (HO.out.below HB3.out)).mono ?_
  rintro e w4 ⟨rfl, hb4⟩
  have HB4 := hide (HB3.out.trans (hb4.mono (by omega)))
  have HL4 := hide (HL3.out.below hb4)
  have Hol4 := hide (owns_of_block Hol3.out (fun b hbb => hb4.block b (Hol3.out.lt b hbb).2))
  have Hor4 := hide (owns_of_block Hor3.out (fun b hbb => hb4.block b (Hor3.out.lt b hbb).2))
  have hs4 := hb4.size
  clear hb4
  go_wp2_with fail
  refine (sameSegments_any l r _ _ SV _ hsl Hol4.out Hor4.out).mono ?_
  rintro e w5 ⟨rfl, nd, hw5⟩
  have HB5 : Hid (Below w.heap.size w w5) := by unfold Hid; rw [hw5]; exact below_drewN HB4.out nd
  have HL5 : Hid (Lent w5 w.heap.size w.heap.size N B n X Y K) := by unfold Hid; rw [hw5]; exact HL4.out.below (below_drewN (Below.refl _ _) nd)
  have Hol5 : Hid (w5.ownsRow w1.heap.size 44 9 l SV.length (SV.flatMap sgC)) := by unfold Hid; rw [hw5]; exact Hol4.out
  have hs5 : w4.heap.size ≤ w5.heap.size := by rw [hw5]; exact Nat.le_refl _
  clear hw5
  have H5 := hide (HH.out.below HB5.out)
  go_wp2_with fail
  refine (outline_any w.heap.size h w.heap.size N (N + 2) B _ _ s _ (by omega) H5.out (HL5.out.lists HH.out.under (by omega) HN1.out) (by omega) (by omega)).mono ?_
  rintro e w6 ⟨rfl, hT6, s1, hI6, hn6, hcs, hrs, hS6, hvS, _, _, _, _⟩
  have Hol6 : Hid (w6.ownsRow w1.heap.size 44 9 l SV.length (SV.flatMap sgC)) :=
    owns_of_block Hol5.out (fun b hbb => hT6.block b (Hol5.out.lt b hbb).2 (seg_not_outS H5.out HL5.out Hol5.out hbb))
  have HT6 := hide hT6
  have HI6 := hide hI6
  have hN6 := hide (And.intro hn6 (And.intro hcs hrs))
  have HS6 := hide hS6
  have HVS := hide hvS
  have hsn : s1.n + 1 ≤ 1099511627776 := by rw [hn6]; omega
  clear hT6 hI6 hn6 hcs hrs hS6 hvS
  go_wp2_with fail
  refine (heldSegments_any h _ _ l _ s1 _ HI6.out Hol6.out (fun x hx b hb e => by
    rw [HS6.out] at hx
    have h1 := (HH.out.eS x hx b hb).lt
    have h2 := (Hol6.out.lt b e).1
    omega) hsn).mono ?_
  rintro e w7 ⟨rfl, hT7, s2, hI7, hn7, hcs7, hrs7⟩
  have HT7 := hide hT7
  have HI7 := hide (And.intro hI7 (And.intro hn7 (And.intro hcs7 hrs7)))
  clear hT7 hI7 hn7 hcs7 hrs7
  go_wp2_with (go_at_call 49; refine (num_any _ _).mono ?_; rintro e w' ⟨rfl, rfl⟩)
  go_ret
  obtain ⟨hI7, hn7, hcs7, hrs7⟩ := HI7.out
  obtain ⟨hn6, hcs6, hrs6⟩ := hN6.out
  refine ⟨rfl, ?_, s2, hI7, ?_, hcs7.trans hcs6, hrs7.trans hrs6⟩
  · have t6 := HT6.out.below (B := w0.heap.size) (by omega) (fun b hb => outS_ge H5.out hh (by omega) (fun i hi => by have := HL5.out.geB i hi; omega) hb)
    have hs6 := HT6.out.size
    have t7 := HT7.out.below (B := w0.heap.size) (by omega) (fun b hb => by
      rcases hb with rfl | hb | hb
      · exact hh
      · have := (HI6.out.oS.lt b hb).1; omega
      · have := (Hol6.out.lt b hb).1; omega)
    exact ((HB5.out.mono hsz0).trans t6).trans t7
  · rw [hn7, hn6]; omega

set_option maxRecDepth 100000 in
set_option maxHeartbeats 1000000 in
theorem outlined_any (a : Option Addr) (N c : Nat) (A : Nat → Option Addr) (C n : Nat → Nat) (X Y K : Nat → Nat → Int) (w : World) (hN : N ≤ 2097152) (hn : ∀ i, i < N → n i ≤ 2097152) (hS : Num.sumN n N ≤ 1099511627776) (ho : OutAt w a N A C n X Y K) :
    Calls Try.prog 3 #[.slice a N c] w fun e w' => e = .returned (.bool true) ∧ Below w.heap.size w w' := by
  have HN := hide hn
  have HO := hide ho
  have H0 := hide (held_start w)
  clear hn ho
  go_enter Try.func3, Try.ntmps3
  go_wp2_with fail
  refine (checks_any a N c w.heap.size A C n X Y K hs0 w _ hN HN.out hS HO.out (by (repeat (any_goals (first | exact Below.refl _ _ | assumption | refine Below.drew ?_ | refine below_drewN ?_ _ | refine Below.setCell ?_ ?_ _ | refine Below.alloc ?_ ?_ _ | omega | (simp; done) | (simp; omega))))) (Nat.le_refl _) H0.out (by simp [hs0]; omega)).mono ?_
  rintro e w1 ⟨rfl, hb1, s1, hI1, hn1, _, _⟩
  have hB1 : Below w.heap.size w w1 := Below.trans (by (repeat (any_goals (first | exact Below.refl _ _ | assumption | refine Below.drew ?_ | refine below_drewN ?_ _ | refine Below.setCell ?_ ?_ _ | refine Below.alloc ?_ ?_ _ | omega | (simp; done) | (simp; omega))))) hb1
  have HB1 := hide hB1
  have HI1 := hide hI1
  have hn1' : s1.n = N + 3 := by rw [hn1]; simp [hs0]
  have HN1 := hide hn1'
  clear hb1 hI1 hn1 hB1 hn1' H0
  go_wp2_with fail
  refine (segments_any a N c w.heap.size A C n X Y K s1 w _ hN HN.out hS HO.out HB1.out (Nat.le_refl _) HI1.out (by rw [HN1.out]; omega)).mono ?_
  rintro e w2 ⟨rfl, hb2, s2, hI2, hn2, _, _⟩
  have HB2 := hide (HB1.out.trans hb2)
  have HI2 := hide hI2
  have HN2 : Hid (s2.n = 2 * N + 7) := by unfold Hid; rw [hn2, HN1.out]; omega
  clear hb2 hI2 hn2
  go_wp2_with fail
  refine (checks_any a N c w.heap.size A C n X Y K s2 w _ hN HN.out hS HO.out HB2.out (Nat.le_refl _) HI2.out (by rw [HN2.out]; omega)).mono ?_
  rintro e w3 ⟨rfl, hb3, s3, hI3, hn3, _, _⟩
  have HB3 := hide (HB2.out.trans hb3)
  have HI3 := hide hI3
  have HN3 : Hid (s3.n = 3 * N + 10) := by unfold Hid; rw [hn3, HN2.out]; omega
  clear hb3 hI3 hn3
  go_wp2_with fail
  refine (segments_any a N c w.heap.size A C n X Y K s3 w _ hN HN.out hS HO.out HB3.out (Nat.le_refl _) HI3.out (by rw [HN3.out]; omega)).mono ?_
  rintro e w4 ⟨rfl, hb4, s4, hI4, hn4, _, _⟩
  have HB4 := hide (HB3.out.trans hb4)
  have HI4 := hide hI4
  clear hb4 hI4 hn4
  go_wp2_with fail
  refine (dry_any w.heap.size s4 _ HI4.out).mono ?_
  rintro e w5 ⟨rfl, hb5⟩
  have hs4 := HB4.out.size
  have HB5 := hide (HB4.out.trans (hb5.mono hs4))
  clear hb5
  go_wp2
  go_ret
  exact ⟨rfl, HB5.out⟩
end Go.Proofs.Ytkhcjkmifddlbaa
