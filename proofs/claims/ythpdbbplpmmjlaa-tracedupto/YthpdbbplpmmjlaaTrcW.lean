/- The caller's step on Trace; the law Traced. -/
import Derived.Test.YthpdbbplpmmjlaaTrcR
import Derived.Test.YthpdbbplpmmjlaaHeldQ
import Derived.Test.YthpdbbplpmmjlaaLentB
import Derived.Test.YthpdbbplpmmjlaaChecks
import Derived.Test.YthpdbbplpmmjlaaDryB
import Derived.Test.YthpdbbplpmmjlaaStart
namespace Go.Proofs.Ythpdbbplpmmjlaa
open Go.RowKit Go.Deep

theorem traceN_le (N : Nat) (n : Nat → Nat) (X Y K : Nat → Nat → Int) (m : Num.Mp) : traceN N n X Y K m ≤ 16 ∧ ∀ i, i < traceN N n X Y K m → (traceL n X Y K m i).length ≤ 4294967296 := by
  unfold traceN
  split
  · rename_i h
    have h0 : (Num.chkV N n X Y K).1 = 0 := by
      unfold traceE at h
      split at h
      · assumption
      · exact h
    rcases Num.chk_cases N n X Y K with ⟨_, hm, _, _⟩ | h1
    · obtain ⟨m1, _, m3⟩ := ok_many hm
      refine ⟨m1, fun i hi => ?_⟩
      have h2 := Num.ringSp_le m (ringL n X Y K i)
      have h3 := refRing_len (X i) (Y i) (K i) (n i)
      have h4 := m3 i hi
      unfold ringL at h2
      unfold traceL ringL
      omega
    · exact absurd h0 h1
  · exact ⟨by omega, fun i hi => by omega⟩

/-- A list of another type does not lie where outline writes. -/
theorem ty_not_outS {w : World} {base h ob N : Nat} {B nn : Nat → Nat} {X Y K : Nat → Nat → Int} {s : HS} {t : TypeId} (H : HeldInv w h s) (L : Lent w base ob N B nn X Y K) {b : Nat} (ty : tyOf w b = some t)
    (t1 : t ≠ 35) (t2 : t ≠ 98) (t3 : t ≠ 100) (t4 : t ≠ 108) (t5 : t ≠ 110) : ¬ outS h ob (N + 2) B s b := by
  rintro (rfl | rfl | ⟨i, hi, rfl⟩ | h1 | h1)
  · rw [row_ty H.wd] at ty; simp at ty; exact t1 ty.symm
  · rw [row_ty L.outer] at ty; simp at ty; exact t2 ty.symm
  · rw [row_ty (L.inner i hi)] at ty; simp at ty; exact t3 ty.symm
  · rw [owns_ty H.oP h1] at ty; simp at ty; exact t4 ty.symm
  · rw [owns_ty H.oO h1] at ty; simp at ty; exact t5 ty.symm

set_option maxRecDepth 100000 in
set_option maxHeartbeats 2000000 in
theorem traces_any (ad : Option Addr) (N cc h : Nat) (A : Nat → Option Addr) (C n : Nat → Nat) (X Y K : Nat → Nat → Int) (a b c d x y : Int) (s : HS) (w0 w : World) (hN : N ≤ 2097152) (hn : ∀ i, i < N → n i ≤ 2097152) (hS : Num.sumN n N ≤ 1099511627776)
    (ho : OutAt w0 ad N A C n X Y K) (hb0 : Below w0.heap.size w0 w) (hh : w0.heap.size ≤ h) (H : HeldInv w h s) (hs : s.n + N + 24 ≤ 1099511627776) :
    Calls Try.prog 14 #[.pointer (some ⟨h, 0, none⟩), .slice ad N cc, .agg #[.int .i64 a, .int .i64 b, .int .i64 c, .int .i64 d, .int .i64 x, .int .i64 y]] w fun e w' => e = .returned (.bool true) ∧ Below w0.heap.size w w' ∧ ∃ s', HeldInv w' h s' ∧ s'.n ≤ s.n + N + 24 ∧ s'.cs = s.cs ∧ s'.rs = s.rs := by
  have hn1 : ∀ i, i < N → n i ≤ 4294967295 := fun i hi => by have := hn i hi; omega
  have hn2 : ∀ i, i < N → n i ≤ 4294967296 := fun i hi => by have := hn i hi; omega
  have hsz0 := hb0.size
  have hhw := H.wd.lt
  have HN1 := hide hn1
  have HN2 := hide hn2
  obtain ⟨W0, hW0⟩ : ∃ W0, W0 = w.alloc (.cells #[.int .i64 a, .int .i64 b, .int .i64 c, .int .i64 d, .int .i64 x, .int .i64 y] 39) := ⟨_, rfl⟩
  have hbW : Below w.heap.size w W0 := by rw [hW0]; exact (Below.refl _ _).alloc (Nat.le_refl _) _
  have hMr : W0.rowIs w.heap.size 39 6 (mp6 a b c d x y) := by rw [hW0]; exact mp6_row a b c d x y w 39
  have hsW := hMr.lt
  have HH := hide (H.below hbW)
  have HUR := hide H.underR
  have HO := hide ((ho.below hb0).below hbW)
  have HBW := hide hbW
  have HMr := hide hMr
  have HW0 := hide hW0
  have hTN := traceN_le N n X Y K ⟨a, b, c, d, x, y⟩
  clear H hn1 hn2 ho hn hb0 hbW hMr hW0
  obtain ⟨TE, hTE⟩ : ∃ TE, TE = traceE N n X Y K ⟨a, b, c, d, x, y⟩ := ⟨_, rfl⟩
  obtain ⟨TN, hTNe⟩ : ∃ TN, TN = traceN N n X Y K ⟨a, b, c, d, x, y⟩ := ⟨_, rfl⟩
  obtain ⟨TL, hTL⟩ : ∃ TL, TL = traceL n X Y K ⟨a, b, c, d, x, y⟩ := ⟨_, rfl⟩
  rw [← hTNe, ← hTL] at hTN
  have HTE := hide hTE
  have HTN := hide hTNe
  have HTL := hide hTL
  have HTle := hide hTN.2
  have hT16 := hTN.1
  clear hTE hTNe hTL hTN
  go_enter Try.func14, Try.ntmps14
  go_wp2_with fail
  rw [← HW0.out]
  refine (lend_any _ _ _ A C n X Y K _ (by omega) HN1.out HO.out).mono ?_
  rintro e w1 ⟨rfl, hb1, B, hL⟩
  have HL := hide hL
  have HB1 := hide hb1
  have hs1 := hb1.size
  have HM1 := hide (row_below HMr.out hb1 hsW)
  obtain ⟨d0, d1, d2, d3, d4, d5⟩ := mp6_cells HM1.out
  have hM1l := HM1.out.lt
  clear hL hb1
  go_wp2_with fail
  refine (glyphTrace_any _ _ _ _ _ n X Y K _ _ _ _ _ _ _ (by omega) HN2.out HL.out.out).mono ?_
  rw [← HTE.out, ← HTN.out, ← HTL.out]
  rintro e w2 ⟨l, V, rfl, hb2, hSl⟩
  have HB2 := hide (HB1.out.trans (hb2.mono hs1))
  have HL2 := hide (HL.out.below hb2)
  have HS2 := hide hSl
  have hs2 := hb2.size
  have HM2 := hide (row_below HM1.out hb2 hM1l)
  clear hb2 hSl d0 d1 d2 d3 d4 d5
  obtain ⟨d0, d1, d2, d3, d4, d5⟩ := mp6_cells HM2.out
  have hM2l := HM2.out.lt
  go_wp2_with fail
  refine (refTrace_any _ _ _ A C n X Y K _ _ _ _ _ _ _ (by omega) HN2.out hS (HO.out.below HB2.out)).mono ?_
  rw [← HTE.out, ← HTN.out, ← HTL.out]
  rintro e w3 ⟨r, V', rfl, hb3, hSr⟩
  have HB3 := hide (HB2.out.trans (hb3.mono (by omega)))
  have HL3 := hide (HL2.out.below hb3)
  have HS3 := hide (HS2.out.below hb3)
  have HR3 := hide hSr
  have hs3 := hb3.size
  clear hb3 hSr d0 d1 d2 d3 d4 d5
  go_wp2_with fail
  refine (lent_any _ _ _ _ _ A C n B X Y K _ (by omega) HN1.out HL3.out (HO.out.below HB3.out)).mono ?_
  rintro e w4 ⟨rfl, hb4⟩
  have HB4 := hide (HB3.out.trans (hb4.mono (by omega)))
  have HL4 := hide (HL3.out.below hb4)
  have HS4 := hide (HS3.out.below hb4)
  have HR4 := hide (HR3.out.below hb4)
  have hs4 := hb4.size
  clear hb4
  go_wp2_with fail
  refine (sameRings_any l r _ _ TN V V' TL _ (by omega) HTle.out HS4.out HR4.out).mono ?_
  rintro e w5 ⟨rfl, hb5, hhp⟩
  have HB5 := hide (HB4.out.trans (hb5.mono (by omega)))
  have HL5 := hide (HL4.out.below hb5)
  have HS5 := hide (HS4.out.below hb5)
  have hs5 := hb5.size
  clear hb5 hhp
  have H5 := hide (HH.out.below HB5.out)
  go_wp2_with fail
  refine (outline_any W0.heap.size h W0.heap.size N (N + 2) B _ _ s _ (by omega) H5.out (HL5.out.lists HH.out.under (by omega) HN1.out) (by omega) (by omega)).mono ?_
  rintro e w6 ⟨rfl, hT6, s1, hI6, hn6, hcs, hrs, _, _, hT6e, _, hR6e, _⟩
  have hS6 : SpRings w6 w1.heap.size l TN V TL := HS5.out.of_blocks
    (fun q hq => hT6.block q (HS5.out.outer.lt q hq).2 (ty_not_outS H5.out HL5.out (owns_ty HS5.out.outer hq) (by decide) (by decide) (by decide) (by decide) (by decide)))
    (fun i hi q hq => hT6.block q ((HS5.out.inner i hi).lt q hq).2 (ty_not_outS H5.out HL5.out (owns_ty (HS5.out.inner i hi) hq) (by decide) (by decide) (by decide) (by decide) (by decide)))
  have hU6 : s1.UnderR w1.heap.size := by
    refine ⟨fun e he q hq => ?_, fun e he => ⟨fun q hq => ?_, fun i hi => ?_⟩⟩
    · rw [hT6e] at he; have := HUR.out.1 e he q hq; omega
    · rw [hR6e] at he; have := (HUR.out.2 e he).1 q hq; omega
    · rw [hR6e] at he; have := (HUR.out.2 e he).2 i hi; omega
  have HS6 := hide hS6
  have HU6 := hide hU6
  have HT6 := hide hT6
  have HI6 := hide hI6
  have hN6 := hide (And.intro hn6 (And.intro hcs hrs))
  have hsn : s1.n + TN + 1 ≤ 1099511627776 := by rw [hn6]; omega
  clear hT6 hI6 hn6 hcs hrs hT6e hR6e hS6 hU6
  go_wp2_with fail
  refine (heldRings_any h TN w1.heap.size l V TL s1 _ (by omega) HI6.out HS6.out HU6.out hsn).mono ?_
  rintro e w7 ⟨rfl, hT7, s2, hI7, hn7, hcs7, hrs7⟩
  have HT7 := hide hT7
  have HI7 := hide (And.intro hI7 (And.intro hn7 (And.intro hcs7 hrs7)))
  clear hT7 hI7 hn7 hcs7 hrs7
  go_wp2_with (go_at_call 26; refine (num_any _ _).mono ?_; rintro e w' ⟨rfl, rfl⟩)
  go_ret
  obtain ⟨hI7, hn7, hcs7, hrs7⟩ := HI7.out
  obtain ⟨hn6, hcs6, hrs6⟩ := hN6.out
  have hs6 := HT6.out.size
  refine ⟨rfl, ?_, s2, hI7, ?_, hcs7.trans hcs6, hrs7.trans hrs6⟩
  · have t6 := HT6.out.below (B := w0.heap.size) (by omega) (fun q hq => outS_ge H5.out hh (by omega) (fun i hi => by have := HL5.out.geB i hi; omega) hq)
    have t7 := HT7.out.below (B := w0.heap.size) (by omega) (fun q hq => by
      rcases hq with rfl | hq | hq | hq | ⟨i, hi, hq⟩
      · exact hh
      · have := (HI6.out.oT.lt q hq).1; omega
      · have := (HI6.out.oR.lt q hq).1; omega
      · have := (HS6.out.outer.lt q hq).1; omega
      · have := ((HS6.out.inner i hi).lt q hq).1; omega)
    exact (((HBW.out.trans (HB5.out.mono (by omega))).mono hsz0).trans t6).trans t7
  · rw [hn7, hn6]; omega

set_option maxRecDepth 100000 in
set_option maxHeartbeats 1000000 in
theorem traced_any (ad : Option Addr) (N cc : Nat) (A : Nat → Option Addr) (C n : Nat → Nat) (X Y K : Nat → Nat → Int) (a b c d x y : Int) (w : World) (hN : N ≤ 2097152) (hn : ∀ i, i < N → n i ≤ 2097152) (hS : Num.sumN n N ≤ 1099511627776) (ho : OutAt w ad N A C n X Y K) :
    Calls Try.prog 6 #[.slice ad N cc, .agg #[.int .i64 a, .int .i64 b, .int .i64 c, .int .i64 d, .int .i64 x, .int .i64 y]] w fun e w' => e = .returned (.bool true) ∧ Below w.heap.size w w' := by
  have HN := hide hn
  have HO := hide (ho.below ((Below.refl w.heap.size w).alloc (Nat.le_refl _) (.cells #[.int .i64 a, .int .i64 b, .int .i64 c, .int .i64 d, .int .i64 x, .int .i64 y] 39)))
  have HMr := hide (mp6_row a b c d x y w 39)
  have H0 := hide (held_start (w.alloc (.cells #[.int .i64 a, .int .i64 b, .int .i64 c, .int .i64 d, .int .i64 x, .int .i64 y] 39)))
  rw [nblk_alloc] at H0
  clear hn ho
  go_enter Try.func6, Try.ntmps6
  go_wp2_with fail
  refine (traces_any ad N cc (w.heap.size + 1) A C n X Y K _ _ _ _ _ _ hs0 (w.alloc (.cells #[.int .i64 a, .int .i64 b, .int .i64 c, .int .i64 d, .int .i64 x, .int .i64 y] 39)) _ hN HN.out hS HO.out ((Below.refl _ _).alloc (Nat.le_refl _) _) (by rw [nblk_alloc]; exact Nat.le_refl _) H0.out (by simp [hs0]; omega)).mono ?_
  rintro e w1 ⟨rfl, hb1, s1, hI1, hn1, _, _⟩
  rw [nblk_alloc] at hb1
  have hs1 : w.heap.size + 1 < w1.heap.size := hI1.wd.lt
  have HB1 : Hid (Below w.heap.size w w1) := Below.trans (by (repeat (any_goals (first | exact Below.refl _ _ | assumption | refine Below.drew ?_ | refine below_drewN ?_ _ | refine Below.setCell ?_ ?_ _ | refine Below.alloc ?_ ?_ _ | omega | (simp; done) | (simp; omega))))) (hb1.mono (Nat.le_succ _))
  have HI1 := hide hI1
  have HN1 : Hid (s1.n ≤ N + 24) := by unfold Hid; have : hs0.n = 0 := rfl; omega
  have hMr1 : w1.rowIs w.heap.size 39 6 (mp6 a b c d x y) := row_below (HMr.out.alloc _) hb1 (Nat.lt_succ_self _)
  obtain ⟨d0, d1, d2, d3, d4, d5⟩ := mp6_cells hMr1
  have hM1 := hMr1.lt
  have HBm : Hid (Below (w.heap.size + 1) (w.alloc (.cells #[.int .i64 a, .int .i64 b, .int .i64 c, .int .i64 d, .int .i64 x, .int .i64 y] 39)) w1) := ((Below.refl _ _).alloc (by rw [nblk_alloc]; exact Nat.le_refl _) _).trans hb1
  clear hb1 hI1 hn1 hMr1
  go_wp2_with fail
  refine (traces_any ad N cc (w.heap.size + 1) A C n X Y K _ _ _ _ _ _ s1 (w.alloc (.cells #[.int .i64 a, .int .i64 b, .int .i64 c, .int .i64 d, .int .i64 x, .int .i64 y] 39)) _ hN HN.out hS HO.out (by rw [nblk_alloc]; exact HBm.out) (by rw [nblk_alloc]; exact Nat.le_refl _) HI1.out (by have := HN1.out; omega)).mono ?_
  rintro e w2 ⟨rfl, hb2, s2, hI2, hn2, _, _⟩
  rw [nblk_alloc] at hb2
  have HB2 := hide (HB1.out.trans (hb2.mono (Nat.le_succ _)))
  have HI2 := hide hI2
  clear hb2 hI2 hn2 d0 d1 d2 d3 d4 d5
  go_wp2_with fail
  refine (dry_any (w.heap.size + 1) s2 _ HI2.out).mono ?_
  rintro e w3 ⟨rfl, hb3⟩
  have hs2 := HB2.out.size
  have HB3 := hide (HB2.out.trans (hb3.mono hs2))
  clear hb3
  go_wp2
  go_ret
  exact ⟨rfl, HB3.out⟩
end Go.Proofs.Ythpdbbplpmmjlaa
