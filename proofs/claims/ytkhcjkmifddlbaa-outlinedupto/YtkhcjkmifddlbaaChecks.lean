/- The caller's step on Check. -/
import Derived.Test.YtkhcjkmifddlbaaRefChkB
import Derived.Test.YtkhcjkmifddlbaaLentB
import Derived.Test.YtkhcjkmifddlbaaHeldD
import Derived.Test.YtkhcjkmifddlbaaPlaceC
namespace Go.Proofs.Ytkhcjkmifddlbaa
open Go.RowKit Go.Deep

theorem outS_ge {w : World} {h ob M B0 : Nat} {B : Nat → Nat} {s : HS} (H : HeldInv w h s) (hh : B0 ≤ h) (ho : B0 ≤ ob) (hB : ∀ i, i < M → B0 ≤ B i) {b : Nat} (hb : outS h ob M B s b) : B0 ≤ b := by
  rcases hb with rfl | rfl | ⟨i, hi, rfl⟩ | hb | hb
  · exact hh
  · exact ho
  · exact hB i hi
  · have := (H.oP.lt b hb).1; omega
  · have := (H.oO.lt b hb).1; omega

set_option maxHeartbeats 1000000 in
theorem checks_any (a : Option Addr) (N c h : Nat) (A : Nat → Option Addr) (C n : Nat → Nat) (X Y K : Nat → Nat → Int) (s : HS) (w0 w : World) (hN : N ≤ 2097152) (hn : ∀ i, i < N → n i ≤ 2097152) (hS : Num.sumN n N ≤ 1099511627776)
    (ho : OutAt w0 a N A C n X Y K) (hb0 : Below w0.heap.size w0 w) (hh : w0.heap.size ≤ h) (H : HeldInv w h s) (hs : s.n + N + 3 ≤ 1099511627776) :
    Calls Try.prog 13 #[.pointer (some ⟨h, 0, none⟩), .slice a N c] w fun e w' => e = .returned (.bool true) ∧ Below w0.heap.size w w' ∧ ∃ s', HeldInv w' h s' ∧ s'.n = s.n + N + 3 ∧ s'.cs = s.cs ∧ s'.rs = s.rs := by
  have hn1 : ∀ i, i < N → n i ≤ 4294967295 := fun i hi => by have := hn i hi; omega
  have hn2 : ∀ i, i < N → n i ≤ 4294967296 := fun i hi => by have := hn i hi; omega
  have hsz0 := hb0.size
  have hhw := H.wd.lt
  have HH := hide H
  have HN1 := hide hn1
  have HN2 := hide hn2
  have HO := hide (ho.below hb0)
  clear H hn1 hn2 ho hn hb0
  go_enter Try.func13, Try.ntmps13
  go_wp2_with fail
  refine (lend_any _ _ _ A C n X Y K _ (by omega) HN1.out HO.out).mono ?_
  rintro e w1 ⟨rfl, hb1, B, hL⟩
  have HL := hide hL
  have HB1 := hide hb1
  have hs1 := hb1.size
  clear hL hb1
  go_wp2_with fail
  refine (glyphCheck_any _ _ _ _ _ n X Y K _ (by omega) HN2.out HL.out.out).mono ?_
  rintro e w2 ⟨rfl, hb2⟩
  have HB2 := hide (HB1.out.trans (hb2.mono hs1))
  have HL2 := hide (HL.out.below hb2)
  have hs2 := hb2.size
  clear hb2
  obtain ⟨V, hV⟩ : ∃ V, Num.chkV N n X Y K = V := ⟨_, rfl⟩
  rw [hV]
  have HV := hide hV
  clear hV
  go_wp2_with fail
  refine (refCheck_any _ _ _ A C n X Y K _ (by omega) HN2.out hS (HO.out.below HB2.out)).mono ?_
  rw [HV.out]
  rintro e w3 ⟨rfl, hb3⟩
  have HB3 := hide (HB2.out.trans (hb3.mono (by omega)))
  have HL3 := hide (HL2.out.below hb3)
  have hs3 := hb3.size
  clear hb3
  go_wp2_with fail
  refine (lent_any _ _ _ _ _ A C n B X Y K _ (by omega) HN1.out HL3.out (HO.out.below HB3.out)).mono ?_
  rintro e w4 ⟨rfl, hb4⟩
  have HB4 := hide (HB3.out.trans (hb4.mono (by omega)))
  have HL4 := hide (HL3.out.below hb4)
  have hs4 := hb4.size
  clear hb4
  have H4 := hide (HH.out.below HB4.out)
  go_wp2_with fail
  refine (outline_any w.heap.size h w.heap.size N (N + 2) B _ _ s _ (by omega) H4.out (HL4.out.lists HH.out.under (by omega) HN1.out) (by omega) (by omega)).mono ?_
  rintro e w5 ⟨rfl, hT5, s', hI5, hn5, hcs, hrs, _, _⟩
  have HT5 := hide hT5
  have HI5 := hide (And.intro hI5 (And.intro hn5 (And.intro hcs hrs)))
  clear hT5 hI5 hn5 hcs hrs
  go_wp2_with (go_at_call 49; refine (num_any _ _).mono ?_; rintro e w' ⟨rfl, rfl⟩)
  go_ret
  obtain ⟨hI5, hn5, hcs, hrs⟩ := HI5.out
  refine ⟨rfl, ?_, s', hI5, ?_, hcs, hrs⟩
  · have t := HT5.out.below (B := w0.heap.size) (by omega) (fun b hb => outS_ge H4.out hh (by omega) (fun i hi => by have := HL4.out.geB i hi; omega) hb)
    exact (HB4.out.mono hsz0).trans t
  · rw [hn5]; omega
end Go.Proofs.Ytkhcjkmifddlbaa
