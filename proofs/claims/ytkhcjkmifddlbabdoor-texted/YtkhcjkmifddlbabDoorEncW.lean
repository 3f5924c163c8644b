/- The caller's steps on Encode and Decode. -/
import Derived.Test.YtkhcjkmifddlbabDoorLayW
import Derived.Test.YtkhcjkmifddlbabDoorEncQ
import Derived.Test.YtkhcjkmifddlbabDoorDecW
namespace Go.Proofs.YtkhcjkmifddlbabDoor
open Go.RowKit Go.Deep

set_option maxRecDepth 100000 in
set_option maxHeartbeats 4000000 in
theorem encodes_any (a : Option Addr) (n c h : Nat) (UW UH : Int) (U : Nat → Int) (s : HS) (w0 w : World) (hn : n ≤ 140737488355328)
    (hU : ByAt w0 a n U) (bU : ∀ k, k < n → 0 ≤ U k ∧ U k ≤ 255) (hb0 : Below w0.heap.size w0 w) (hh : w0.heap.size ≤ h) (H : HeldInv w h s) (hs : s.n + 24 ≤ 1099511627776) :
    Calls Tryd.prog 5 #[.pointer (some ⟨h, 0, none⟩), .agg #[.int .i64 UW, .int .i64 UH, .slice a n c]] w fun e w' => e = .returned (.bool true) ∧ Below w0.heap.size w w' ∧ Touch (Used h s) w w' ∧ ∃ s', HeldInv w' h s' ∧ s'.n ≤ s.n + 24 ∧ s'.cs = s.cs ∧ s'.rs = s.rs := by
  have hsz0 := hb0.size
  have hhw := H.wd.lt
  obtain ⟨W2, hW2⟩ : ∃ W2, W2 = w.alloc (.cells #[.int .i64 UW, .int .i64 UH, .slice a n c] 24) := ⟨_, rfl⟩
  have hs2 : W2.heap.size = w.heap.size + 1 := by rw [hW2]; simp
  have hbw2 : Below w.heap.size w W2 := by rw [hW2]; (repeat (any_goals (first | exact Below.refl _ _ | assumption | refine Below.drew ?_ | refine below_drewN ?_ _ | refine Below.setCell ?_ ?_ _ | refine Below.alloc ?_ ?_ _ | omega | (simp; done) | (simp; omega))))
  have hru : W2.rowIs w.heap.size 24 3 (gz UW UH (.slice a n c)) := by rw [hW2]; exact gz_row _ _ _ _ _
  obtain ⟨ub, hub⟩ : ∃ ub, ub = w.heap.size := ⟨_, rfl⟩
  rw [← hub] at hru
  have HB02 := hide (hb0.trans (hbw2.mono hsz0))
  have HBw2 := hide hbw2
  have HH := hide H
  have HU := hide hU
  have HbU := hide bU
  have HUB := hide H.underB
  have HRu := hide hru
  have hub2 : ub < W2.heap.size := by omega
  have HW2 := hide hW2
  obtain ⟨q0, q1, q2⟩ := gz_cells hru
  clear hb0 hbw2 hU bU H hru hW2
  go_enter Tryd.func5, Tryd.ntmps5
  go_wp2_with fail
  rw [← HW2.out]
  try rw [← hub]
  refine (lendGray_any a n c UW UH U W2 hn (HU.out.below HB02.out)).mono ?_
  rintro e w3 ⟨B1, rfl, hb3, hB1, hl1⟩
  clear hub
  obtain ⟨W3, hW3⟩ : ∃ W3, W3 = w3.alloc (.cells #[.int .i64 UW, .int .i64 UH, .slice (some ⟨B1, 0, none⟩) n (n + 2)] 24) := ⟨_, rfl⟩
  have hs3 := hb3.size
  have hbb3 : Below w3.heap.size w3 W3 := by rw [hW3]; exact (Below.refl _ _).alloc (Nat.le_refl _) _
  have hsW3 : W3.heap.size = w3.heap.size + 1 := by rw [hW3]; simp
  have hb23 : Below W2.heap.size W2 W3 := hb3.trans (hbb3.mono hs3)
  have HRu3 := hide (row_below HRu.out hb23 (by omega))
  obtain ⟨ab, hab⟩ : ∃ ab, ab = w3.heap.size := ⟨_, rfl⟩
  have HRa3 : Hid (W3.rowIs ab 24 3 (gz UW UH (.slice (some ⟨B1, 0, none⟩) n (n + 2)))) := by unfold Hid; rw [hW3, hab]; exact gz_row _ _ _ _ _
  have HL13 := hide (row_below hl1 hbb3 hl1.lt)
  have HB03 := hide (HB02.out.trans (hb23.mono (by omega)))
  have HB1l : Hid (B1 < ab ∧ w.heap.size ≤ B1 ∧ ab < W3.heap.size) := ⟨by have := hl1.lt; omega, by omega, by omega⟩
  have HK3 : Hid (HK w0.heap.size w h s W3 s [] 0) := HK.below (HK.start HH.out) hsz0 (HBw2.out.trans (hb23.mono (by omega)))
  clear q0 q1 q2
  have hru3w := row_below HRu.out hb3 (by omega)
  obtain ⟨q0, q1, q2⟩ := gz_cells hru3w
  have hq3 := hru3w.lt
  have HW3 := hide hW3
  have HAb := hide hab
  clear hb3 hl1 hbb3 hb23 hW3 HW2 hru3w hsW3 hab hB1
  go_wp2_with fail
  rw [← HW3.out]
  try rw [← HAb.out]
  refine (glyphEncode_any (some ⟨B1, 0, none⟩) n (n + 2) UW UH U W3 (lentB_by HL13.out) HbU.out).mono ?_
  obtain ⟨T, hT⟩ : ∃ T, T = encT UW UH n U := ⟨_, rfl⟩
  obtain ⟨E, hE⟩ : ∃ E, E = encE UW UH n := ⟨_, rfl⟩
  rw [← hT, ← hE]
  have HTE := hide (And.intro hT hE)
  clear hT hE
  rintro e w4 ⟨rfl, hb4⟩
  have hs4 := hb4.size
  have HRu4 := hide (row_below HRu3.out hb4 HRu3.out.lt)
  have HRa4 := hide (row_below HRa3.out hb4 HRa3.out.lt)
  have HL14 := hide (row_below HL13.out hb4 HL13.out.lt)
  have HB04 := hide (HB03.out.trans (hb4.mono (by have := HB03.out.size; omega)))
  have HK4 := hide (HK3.out.below hsz0 hb4)
  clear q0 q1 q2 hq3 hb4
  obtain ⟨q0, q1, q2⟩ := gz_cells HRu4.out
  have hq4 := HRu4.out.lt
  go_wp2_with fail
  refine (refEncode_any a n c UW UH U w4 (HU.out.below HB04.out) HbU.out).mono ?_
  rw [← HTE.out.1, ← HTE.out.2]
  rintro e w5 ⟨rfl, hb5⟩
  have hs5 := hb5.size
  have HRu5 := hide (row_below HRu4.out hb5 HRu4.out.lt)
  have HRa5 := hide (row_below HRa4.out hb5 HRa4.out.lt)
  have HL15 := hide (row_below HL14.out hb5 HL14.out.lt)
  have HB05 := hide (HB04.out.trans (hb5.mono (by have := HB04.out.size; omega)))
  have HK5 := hide (HK4.out.below hsz0 hb5)
  clear q0 q1 q2 hq4 hb5
  obtain ⟨q0, q1, q2⟩ := gz_cells HRu5.out
  obtain ⟨p0, p1, p2⟩ := gz_cells HRa5.out
  have hq5 := HRu5.out.lt
  have hp5 := HRa5.out.lt
  go_wp2_with fail
  refine (lentGray_any a B1 n c UW UH U w5 hn HL15.out (HU.out.below HB05.out)).mono ?_
  rintro e w6 ⟨rfl, hb6⟩
  have hs6 := hb6.size
  have hb6' : Below w5.heap.size w5 w6.drew := hb6.drew
  have hra6w := row_below HRa5.out hb6 HRa5.out.lt
  have HRa6 := hide (row_below HRa5.out hb6' HRa5.out.lt)
  have HL16 := hide (row_below HL15.out hb6' HL15.out.lt)
  have HK6 := hide (HK5.out.below hsz0 hb6')
  clear q0 q1 q2 p0 p1 p2 hq5 hp5 hb6 hb6'
  obtain ⟨p0, p1, p2⟩ := gz_cells hra6w
  have hp6 := hra6w.lt
  have HCall := hide (heldBytes_any h (.slice (some ⟨B1, 0, none⟩) n (n + 2)) s w6.drew HK6.out.inv (ByRow.of_row HL16.out (by omega) (by omega)) (fun q hq => by
    simp [Value.ownBlock] at hq
    subst hq
    exact HK6.out.free HUB.out HB1l.out.2.1 (fun x hx => by cases hx)) (by omega))
  clear hra6w
  go_wp2_with fail
  go_region_with (go_at_call 18; refine HCall.out.mono ?_; rintro e w7 ⟨rfl, hT7, s1, hI7, hK7⟩)
  have HK7 := hide (HK6.out.step hsz0 hh (fun q hq => by simp [Value.ownBlock] at hq; subst hq; exact HB1l.out.2.1) hT7 hI7 hK7)
  clear hT7 hI7 hK7 HCall p0 p1 p2 hp6
  go_wp2_with (go_at_call 19; refine (num_any _ _).mono ?_; rintro e w' ⟨rfl, rfl⟩)
  go_ret
  exact ⟨rfl, HK7.out.bel, HK7.out.touch, s1, HK7.out.inv, by rw [HK7.out.n]; omega, HK7.out.cs, HK7.out.rs⟩

set_option maxRecDepth 100000 in
set_option maxHeartbeats 4000000 in
theorem decodes_any (t : ByteArray) (h : Nat) (s : HS) (w0 w : World) (ht : (t.size : Int) ≤ 9000000000000000000)
    (hb0 : Below w0.heap.size w0 w) (hh : w0.heap.size ≤ h) (H : HeldInv w h s) (hs : s.n + 24 ≤ 1099511627776) :
    Calls Tryd.prog 6 #[.pointer (some ⟨h, 0, none⟩), .string t] w fun e w' => e = .returned (.bool true) ∧ Below w0.heap.size w w' ∧ Touch (Used h s) w w' ∧ ∃ s', HeldInv w' h s' ∧ s'.n ≤ s.n + 24 ∧ s'.cs = s.cs ∧ s'.rs = s.rs := by
  have hsz0 := hb0.size
  have hhw := H.wd.lt
  have HH := hide H
  have HUB := hide H.underB
  have HC1 := hide (glyphDecode_any t w ht)
  have HC2 := hide (fun w' => refDecode_any t w' ht)
  obtain ⟨g1, hg1⟩ : ∃ g, g = ((decT t).1 : Int) := ⟨_, rfl⟩
  obtain ⟨g2, hg2⟩ : ∃ g, g = ((decT t).2.1 : Int) := ⟨_, rfl⟩
  obtain ⟨n, hn⟩ : ∃ g, g = t.size - (decT t).2.2 := ⟨_, rfl⟩
  obtain ⟨E, hE⟩ : ∃ g, g = decE t := ⟨_, rfl⟩
  unfold DecO at HC1 HC2
  rw [← hg1, ← hg2, ← hn, ← hE] at HC1
  simp only [← hg1, ← hg2, ← hn, ← hE] at HC2
  have HN : Hid (n ≤ t.size) := by unfold Hid; omega
  obtain ⟨X, hX⟩ : ∃ X : Nat → Int, X = fun k => ((Num.byt t ((decT t).2.2 + k) : Nat) : Int) := ⟨_, rfl⟩
  rw [← hX] at HC1
  simp only [← hX] at HC2
  clear hg1 hg2 hn hE hX hb0 H
  go_enter Tryd.func6, Tryd.ntmps6
  go_wp2_with fail
  refine HC1.out.mono ?_
  rintro e w1 ⟨ao, cap, rfl, hb1, hr1, hy1, ho1⟩
  obtain ⟨gb, hgb⟩ : ∃ gb, gb = w1.heap.size := ⟨_, rfl⟩
  obtain ⟨W1, hW1⟩ : ∃ W1, W1 = w1.alloc (.cells #[.int .i64 g1, .int .i64 g2, .slice ao n cap] 24) := ⟨_, rfl⟩
  have hbb1 : Below w1.heap.size w1 W1 := by rw [hW1]; exact (Below.refl _ _).alloc (Nat.le_refl _) _
  have hs1 := hb1.size
  have hb1' : Below w.heap.size w W1 := hb1.trans (hbb1.mono hs1)
  have HG1 : Hid (W1.rowIs gb 24 3 (gz g1 g2 (.slice ao n cap))) := by unfold Hid; rw [hW1, hgb]; exact gz_row _ _ _ _ _
  have HR1 := hide (hr1.of_blocks (w' := W1) fun q hq => hbb1.block q (hr1.lt hq).1)
  have HY1 := hide (hy1.below hbb1)
  have HO1 := hide ho1
  have HK1 : Hid (HK w0.heap.size w h s W1 s [] 0) := HK.below (HK.start HH.out) hsz0 hb1'
  have HW1 := hide hW1
  have HGb := hide hgb
  clear hb1 hr1 hy1 ho1 hbb1 hb1' hW1 hgb
  go_wp2_with fail
  rw [← HW1.out]
  try rw [← HGb.out]
  refine (HC2.out W1).mono ?_
  rintro e w2 ⟨ao2, cap2, rfl, hb2, hr2, hy2, ho2⟩
  obtain ⟨rb, hrb⟩ : ∃ rb, rb = w2.heap.size := ⟨_, rfl⟩
  obtain ⟨W2, hW2⟩ : ∃ W2, W2 = w2.alloc (.cells #[.int .i64 g1, .int .i64 g2, .slice ao2 n cap2] 24) := ⟨_, rfl⟩
  have hbb2 : Below w2.heap.size w2 W2 := by rw [hW2]; exact (Below.refl _ _).alloc (Nat.le_refl _) _
  have hs2 := hb2.size
  have hb2' : Below W1.heap.size W1 W2 := hb2.trans (hbb2.mono hs2)
  have HG2 := hide (row_below HG1.out hb2' HG1.out.lt)
  have HR2 : Hid (ByRow W2 (.slice ao n cap)) := HR1.out.of_blocks fun q hq => hb2'.block q (HR1.out.lt hq).1
  have HY2 := hide (HY1.out.below hb2')
  have HZ2 := hide (hy2.below hbb2)
  have HK2 := hide (HK1.out.below hsz0 hb2')
  have hg2w := row_below HG1.out hb2 HG1.out.lt
  obtain ⟨p0, p1, p2⟩ := gz_cells hg2w
  have hp2 := hg2w.lt
  have HW2 := hide hW2
  have HRb := hide hrb
  clear hb2 hr2 hy2 ho2 hbb2 hb2' hW2 hrb hg2w
  go_wp2_with fail
  rw [← HW2.out]
  try rw [← HRb.out]
  refine (sameGray_any ao ao2 n cap cap2 g1 g2 X W2 (by have := HN.out; omega) HY2.out HZ2.out).mono ?_
  rintro e w3 ⟨rfl, hb3⟩
  have hs3 := hb3.size
  have hb3' : Below W2.heap.size W2 w3.drew := hb3.drew
  have hg3w := row_below HG2.out hb3 HG2.out.lt
  have HR3 : Hid (ByRow w3.drew (.slice ao n cap)) := HR2.out.of_blocks fun q hq => hb3'.block q (HR2.out.lt hq).1
  have HK3 := hide (HK2.out.below hsz0 hb3')
  clear p0 p1 p2 hp2 hb3 hb3'
  obtain ⟨p0, p1, p2⟩ := gz_cells hg3w
  have hp3 := hg3w.lt
  have HCall := hide (heldBytes_any h (.slice ao n cap) s w3.drew HK3.out.inv HR3.out (fun q hq => HK3.out.free HUB.out (HO1.out q hq) (fun x hx => by cases hx)) (by omega))
  clear hg3w
  go_wp2_with fail
  go_region_with (go_at_call 18; refine HCall.out.mono ?_; rintro e w4 ⟨rfl, hT4, s1, hI4, hK4⟩)
  have HK4 := hide (HK3.out.step hsz0 hh (fun q hq => HO1.out q hq) hT4 hI4 hK4)
  clear hT4 hI4 hK4 HCall p0 p1 p2 hp3
  go_wp2_with (go_at_call 19; refine (num_any _ _).mono ?_; rintro e w' ⟨rfl, rfl⟩)
  go_ret
  exact ⟨rfl, HK4.out.bel, HK4.out.touch, s1, HK4.out.inv, by rw [HK4.out.n]; omega, HK4.out.cs, HK4.out.rs⟩
end Go.Proofs.YtkhcjkmifddlbabDoor
