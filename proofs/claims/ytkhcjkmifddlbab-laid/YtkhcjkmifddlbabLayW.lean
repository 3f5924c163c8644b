/- The caller's step on Lay. -/
import Derived.Test.YtkhcjkmifddlbabRefLz
import Derived.Test.YtkhcjkmifddlbabLendG
import Derived.Test.YtkhcjkmifddlbabHeldZ
import Derived.Test.YtkhcjkmifddlbabPlaceC
import Derived.Test.YtkhcjkmifddlbabDryB
import Derived.Test.YtkhcjkmifddlbabStart
namespace Go.Proofs.Ytkhcjkmifddlbab
open Go.RowKit Go.Deep

/-- Bytes that a call handed out, as they are read. -/
theorem owns_byC {w : World} {base : Nat} {v : Value} {l : List Int} (h : w.ownsRow base 5 1 v l.length (byC l)) : ∃ ao cap, v = .slice ao l.length cap ∧ ByAt w ao l.length (fun k => l.getD k 0) := by
  obtain ⟨ao, cap, rfl, hao⟩ := owns_formN h
  refine ⟨ao, cap, rfl, ?_⟩
  rcases Nat.eq_zero_or_pos l.length with h0 | h0
  · exact .inl h0
  · obtain ⟨g, rfl⟩ := hao h0
    refine .inr ⟨g, 0, rfl, fun k hk => ?_⟩
    have hc := h.cellAt k (by omega)
    rw [Nat.zero_add, hc]
    simp [byC, hk]

/-- The pictures that are lent, where they lie. -/
structure LayS (w : World) (ub vb ab bb B1 B2 : Nat) (a a' : Option Addr) (n m c c' : Nat) (UW UH OW OH : Int) (U O : Nat → Int) : Prop where
  ru : w.rowIs ub 57 3 (gz UW UH (.slice a n c))
  rv : w.rowIs vb 57 3 (gz OW OH (.slice a' m c'))
  ra : w.rowIs ab 57 3 (gz UW UH (.slice (some ⟨B1, 0, none⟩) n (n + 2)))
  rb : w.rowIs bb 57 3 (gz OW OH (.slice (some ⟨B2, 0, none⟩) m (m + 2)))
  l1 : w.rowIs B1 5 (n + 2) (lentB n U)
  l2 : w.rowIs B2 5 (m + 2) (lentB m O)
theorem LayS.of_blocks {w w' : World} {ub vb ab bb B1 B2 : Nat} {a a' : Option Addr} {n m c c' : Nat} {UW UH OW OH : Int} {U O : Nat → Int} (h : LayS w ub vb ab bb B1 B2 a a' n m c c' UW UH OW OH U O)
    (e : ∀ q, q = ub ∨ q = vb ∨ q = ab ∨ q = bb ∨ q = B1 ∨ q = B2 → w'.heap[q]? = w.heap[q]?) : LayS w' ub vb ab bb B1 B2 a a' n m c c' UW UH OW OH U O :=
  ⟨h.ru.of_block (e _ (by simp)), h.rv.of_block (e _ (by simp)), h.ra.of_block (e _ (by simp)), h.rb.of_block (e _ (by simp)), h.l1.of_block (e _ (by simp)), h.l2.of_block (e _ (by simp))⟩
theorem LayS.lt {w : World} {ub vb ab bb B1 B2 : Nat} {a a' : Option Addr} {n m c c' : Nat} {UW UH OW OH : Int} {U O : Nat → Int} (h : LayS w ub vb ab bb B1 B2 a a' n m c c' UW UH OW OH U O) {q : Nat} (hq : q = ub ∨ q = vb ∨ q = ab ∨ q = bb ∨ q = B1 ∨ q = B2) : q < w.heap.size := by
  rcases hq with rfl | rfl | rfl | rfl | rfl | rfl
  · exact h.ru.lt
  · exact h.rv.lt
  · exact h.ra.lt
  · exact h.rb.lt
  · exact h.l1.lt
  · exact h.l2.lt
theorem LayS.below {w w' : World} {ub vb ab bb B1 B2 : Nat} {a a' : Option Addr} {n m c c' : Nat} {UW UH OW OH : Int} {U O : Nat → Int} (h : LayS w ub vb ab bb B1 B2 a a' n m c c' UW UH OW OH U O) (hb : Below w.heap.size w w') : LayS w' ub vb ab bb B1 B2 a a' n m c c' UW UH OW OH U O :=
  h.of_blocks fun q hq => hb.block q (h.lt hq)
/-- A picture's row is no place where bytes writes. -/
theorem gray_not {w : World} {h : Nat} {s : HS} {x : Value} (H : HeldInv w h s) (hx : ByRow w x) {q : Nat} {f : Nat → Value} (hr : w.rowIs q 57 3 f) : ¬ byteS h s x q := by
  rintro (rfl | h1 | h1)
  · have := row_ty H.wd; rw [row_ty hr] at this; simp at this
  · have := owns_ty H.oB h1; rw [row_ty hr] at this; simp at this
  · have := (hx.lt h1).2; rw [row_ty hr] at this; simp at this
theorem byte_not {w : World} {h k : Nat} {s : HS} {x : Value} (H : HeldInv w h s) {q : Nat} {f : Nat → Value} (hr : w.rowIs q 5 k f) (hne : x.ownBlock ≠ some q) : ¬ byteS h s x q := by
  rintro (rfl | h1 | h1)
  · have := row_ty H.wd; rw [row_ty hr] at this; simp at this
  · have := owns_ty H.oB h1; rw [row_ty hr] at this; simp at this
  · exact hne h1
theorem LayS.held {w w' : World} {h : Nat} {s : HS} {x : Value} {ub vb ab bb B1 B2 : Nat} {a a' : Option Addr} {n m c c' : Nat} {UW UH OW OH : Int} {U O : Nat → Int} (L : LayS w ub vb ab bb B1 B2 a a' n m c c' UW UH OW OH U O) (H : HeldInv w h s) (hx : ByRow w x) (hT : Touch (byteS h s x) w w') (h1 : x.ownBlock ≠ some B1) (h2 : x.ownBlock ≠ some B2) : LayS w' ub vb ab bb B1 B2 a a' n m c c' UW UH OW OH U O :=
  ⟨hT.row L.ru (gray_not H hx L.ru), hT.row L.rv (gray_not H hx L.rv), hT.row L.ra (gray_not H hx L.ra), hT.row L.rb (gray_not H hx L.rb), hT.row L.l1 (byte_not H L.l1 h1), hT.row L.l2 (byte_not H L.l2 h2)⟩
/-- A picture's row is none of those that are held. -/
theorem gray_not_used {w : World} {h : Nat} {s : HS} (H : HeldInv w h s) {q : Nat} {f : Nat → Value} (hr : w.rowIs q 57 3 f) : ¬ Used h s q := by
  have ht := row_ty hr
  intro u
  rcases u with rfl | u | u | u | ⟨x, hx, rfl⟩ | ⟨x, hx, rfl⟩ | ⟨x, hx, i, hi, rfl⟩ | ⟨x, hx, hb⟩ | u | u | ⟨x, hx, hb⟩ | ⟨x, hx, hb⟩ | ⟨x, hx, i, hi, rfl⟩ | u | ⟨x, hx, hb⟩
  · rw [row_ty H.wd] at ht; simp at ht
  · rw [owns_ty H.oP u] at ht; simp at ht
  · rw [owns_ty H.oO u] at ht; simp at ht
  · rw [owns_ty H.oS u] at ht; simp at ht
  · rw [row_ty (H.eP x hx)] at ht; simp at ht
  · rw [row_ty (H.eO x hx)] at ht; simp at ht
  · rw [row_ty (H.eI x hx i hi)] at ht; simp at ht
  · rw [row_ty (H.eS x hx _ hb)] at ht; simp at ht
  · rw [owns_ty H.oT u] at ht; simp at ht
  · rw [owns_ty H.oR u] at ht; simp at ht
  · rw [row_ty (H.eT x hx _ hb)] at ht; simp at ht
  · rw [row_ty (H.eR x hx _ hb)] at ht; simp at ht
  · rw [row_ty (H.eJ x hx i hi)] at ht; simp at ht
  · rw [owns_ty H.oB u] at ht; simp at ht
  · rw [row_ty (H.eB x hx _ hb)] at ht; simp at ht
/-- What bytes writes lies behind the caller's world, or is held already. -/
theorem byteS_ge {w : World} {h B0 : Nat} {s : HS} {x : Value} (H : HeldInv w h s) (hh : B0 ≤ h) (hx : ∀ q, x.ownBlock = some q → B0 ≤ q) {q : Nat} (hq : byteS h s x q) : B0 ≤ q := by
  rcases hq with rfl | hq | hq
  · exact hh
  · have := (H.oB.lt q hq).1; omega
  · exact hx q hq
set_option maxRecDepth 100000 in
set_option maxHeartbeats 8000000 in
theorem lays_any (a a' : Option Addr) (n m c c' h : Nat) (UW UH OW OH x y way : Int) (U O : Nat → Int) (s : HS) (w0 w : World) (hn : n ≤ 140737488355328) (hm : m ≤ 140737488355328)
    (hU : ByAt w0 a n U) (hO : ByAt w0 a' m O) (bU : ∀ k, k < n → 0 ≤ U k ∧ U k ≤ 255) (bO : ∀ k, k < m → 0 ≤ O k ∧ O k ≤ 255) (hb0 : Below w0.heap.size w0 w) (hh : w0.heap.size ≤ h) (H : HeldInv w h s) (hs : s.n + 24 ≤ 1099511627776) :
    Calls Try.prog 23 #[.pointer (some ⟨h, 0, none⟩), .agg #[.int .i64 UW, .int .i64 UH, .slice a n c], .agg #[.int .i64 OW, .int .i64 OH, .slice a' m c'], .int .i64 x, .int .i64 y, .int .i64 way] w fun e w' => e = .returned (.bool true) ∧ Below w0.heap.size w w' ∧ Touch (Used h s) w w' ∧ ∃ s', HeldInv w' h s' ∧ s'.n ≤ s.n + 24 ∧ s'.cs = s.cs ∧ s'.rs = s.rs := by
  have hsz0 := hb0.size
  have hhw := H.wd.lt
  obtain ⟨W2, hW2⟩ : ∃ W2, W2 = (w.alloc (.cells #[.int .i64 UW, .int .i64 UH, .slice a n c] 57)).alloc (.cells #[.int .i64 OW, .int .i64 OH, .slice a' m c'] 57) := ⟨_, rfl⟩
  have hs2 : W2.heap.size = w.heap.size + 1 + 1 := by rw [hW2]; simp
  have hbw2 : Below w.heap.size w W2 := by rw [hW2]; (repeat (any_goals (first | exact Below.refl _ _ | assumption | refine Below.drew ?_ | refine below_drewN ?_ _ | refine Below.setCell ?_ ?_ _ | refine Below.alloc ?_ ?_ _ | omega | (simp; done) | (simp; omega))))
  have hru : W2.rowIs w.heap.size 57 3 (gz UW UH (.slice a n c)) := by rw [hW2]; exact (gz_row _ _ _ _ _).alloc _
  have hrv : W2.rowIs (w.heap.size + 1) 57 3 (gz OW OH (.slice a' m c')) := by
    have h := gz_row OW OH (.slice a' m c') (w.alloc (.cells #[.int .i64 UW, .int .i64 UH, .slice a n c] 57)) 57
    rw [nblk_alloc] at h
    rw [hW2]; exact h
  obtain ⟨ub, hub⟩ : ∃ ub, ub = w.heap.size := ⟨_, rfl⟩
  rw [← hub] at hru hrv
  have HB02 := hide (hb0.trans (hbw2.mono hsz0))
  have HBw2 := hide hbw2
  have HH := hide H
  have HU := hide hU
  have HO := hide hO
  have HbU := hide bU
  have HbO := hide bO
  have HUB := hide H.underB
  have HRu := hide hru
  have HRv := hide hrv
  have hub2 : ub + 1 < W2.heap.size := by omega
  have HW2 := hide hW2
  have HUb := hide hub
  obtain ⟨q0, q1, q2⟩ := gz_cells hru
  obtain ⟨r0, r1, r2⟩ := gz_cells hrv
  clear hb0 hbw2 hU hO bU bO H hru hrv hW2
  go_enter Try.func23, Try.ntmps23
  go_wp2_with fail
  rw [← HW2.out]
  try rw [← hub]
  refine (lendGray_any a n c UW UH U W2 hn (HU.out.below HB02.out)).mono ?_
  rintro e w3 ⟨B1, rfl, hb3, hB1, hl1⟩
  clear hub
  obtain ⟨W3, hW3⟩ : ∃ W3, W3 = w3.alloc (.cells #[.int .i64 UW, .int .i64 UH, .slice (some ⟨B1, 0, none⟩) n (n + 2)] 57) := ⟨_, rfl⟩
  have hs3 := hb3.size
  have hbb3 : Below w3.heap.size w3 W3 := by rw [hW3]; exact (Below.refl _ _).alloc (Nat.le_refl _) _
  have hsW3 : W3.heap.size = w3.heap.size + 1 := by rw [hW3]; simp
  have hb23 : Below W2.heap.size W2 W3 := hb3.trans (hbb3.mono hs3)
  have HRu3 := hide (row_below HRu.out hb23 (by omega))
  have HRv3 := hide (row_below HRv.out hb23 (by omega))
  have HRa3 : Hid (W3.rowIs w3.heap.size 57 3 (gz UW UH (.slice (some ⟨B1, 0, none⟩) n (n + 2)))) := by unfold Hid; rw [hW3]; exact gz_row _ _ _ _ _
  have HL13 := hide (row_below hl1 hbb3 hl1.lt)
  have HB03 := hide (HB02.out.trans (hb23.mono (by omega)))
  have HB23 := hide hb23
  obtain ⟨ab, hab⟩ : ∃ ab, ab = w3.heap.size := ⟨_, rfl⟩
  rw [← hab] at HRa3
  have hrv3w := row_below HRv.out hb3 (by omega)
  clear q0 q1 q2 r0 r1 r2
  obtain ⟨r0, r1, r2⟩ := gz_cells hrv3w
  have hrvl := hrv3w.lt
  have HW3 := hide hW3
  have hab2 : ab < W3.heap.size := by omega
  have hB1l : B1 < ab := by have := hl1.lt; omega
  have habu : ub + 1 < ab := by omega
  clear hb3 hl1 hbb3 hb23 hW3 hrv3w HW2
  go_wp2_with fail
  rw [← HW3.out]
  try rw [← hab]
  refine (lendGray_any a' m c' OW OH O W3 hm (HO.out.below HB03.out)).mono ?_
  rintro e w4 ⟨B2, rfl, hb4, hB2, hl2⟩
  clear hab
  obtain ⟨W4, hW4⟩ : ∃ W4, W4 = w4.alloc (.cells #[.int .i64 OW, .int .i64 OH, .slice (some ⟨B2, 0, none⟩) m (m + 2)] 57) := ⟨_, rfl⟩
  have hs4 := hb4.size
  have hbb4 : Below w4.heap.size w4 W4 := by rw [hW4]; exact (Below.refl _ _).alloc (Nat.le_refl _) _
  have hsW4 : W4.heap.size = w4.heap.size + 1 := by rw [hW4]; simp
  have hb34 : Below W3.heap.size W3 W4 := hb4.trans (hbb4.mono hs4)
  obtain ⟨bb, hbb⟩ : ∃ bb, bb = w4.heap.size := ⟨_, rfl⟩
  have hL4 : LayS W4 ub (ub + 1) ab bb B1 B2 a a' n m c c' UW UH OW OH U O := by
    refine ⟨row_below HRu3.out hb34 (by omega), row_below HRv3.out hb34 (by omega), row_below HRa3.out hb34 (by omega), ?_, row_below HL13.out hb34 (by omega), row_below hl2 hbb4 hl2.lt⟩
    rw [hW4, hbb]; exact gz_row _ _ _ _ _
  have hB12 : B1 ≠ B2 := by omega
  have HB04 := hide (HB03.out.trans (hb34.mono (by have := HB03.out.size; omega)))
  have HB24 := hide (HB23.out.trans (hb34.mono (by omega)))
  have HL4 := hide hL4
  have HW4 := hide hW4
  have hra4 := row_below HRa3.out hb4 (by omega)
  clear r0 r1 r2
  obtain ⟨r0, r1, r2⟩ := gz_cells hra4
  have hral := hra4.lt
  have hbb2 : bb < W4.heap.size := by omega
  have HBB := hide (And.intro hsW4 hbb)
  clear hb4 hl2 hbb4 hb34 hW4 hra4 hL4 HW3 hsW4 hsW3 hbb
  go_wp2_with fail
  rw [← HW4.out]
  try rw [← HBB.out.2]
  have HK4 : Hid (HK w0.heap.size w h s W4 s [] 0) := HK.below (HK.start HH.out) hsz0 (HBw2.out.trans (HB24.out.mono (by omega)))
  have hsz4 : w.heap.size ≤ W4.heap.size := HK4.out.touch.size
  have HB1u : Hid (w.heap.size ≤ B1) := by unfold Hid; omega
  have HB2u : Hid (w.heap.size ≤ B2) := by unfold Hid; omega
  have HB1b : Hid (B1 < W4.heap.size ∧ B2 < W4.heap.size) := ⟨HL4.out.l1.lt, HL4.out.l2.lt⟩
  clear r0 r1 r2 HW4
  refine (glyphLay_any (some ⟨B1, 0, none⟩) (some ⟨B2, 0, none⟩) n m (n + 2) (m + 2) UW UH OW OH x y way U O W4 (lentB_by HL4.out.l1) (lentB_by HL4.out.l2) HbU.out HbO.out).mono ?_
  obtain ⟨RE, hRE⟩ : ∃ RE, RE = Num.layE UW UH n OW OH m way 8 9 := ⟨_, rfl⟩
  rw [← hRE]
  have HRE := hide hRE
  clear hRE
  rintro e w5 ⟨g1, g2, v, l, rfl, hb5, hown5, hq5⟩
  have HLen : Hid (l.length ≤ 4096) := by have := layR_len UW UH n OW OH m U O x y way; rw [← hq5] at this; exact this
  obtain ⟨ao, cap, rfl, hby5⟩ := owns_byC hown5
  obtain ⟨gb, hgb⟩ : ∃ gb, gb = w5.heap.size := ⟨_, rfl⟩
  obtain ⟨W5, hW5⟩ : ∃ W5, W5 = w5.alloc (.cells #[.int .i64 g1, .int .i64 g2, .slice ao l.length cap] 57) := ⟨_, rfl⟩
  have hs5 := hb5.size
  have hbb5 : Below w5.heap.size w5 W5 := by rw [hW5]; exact (Below.refl _ _).alloc (Nat.le_refl _) _
  have hsW5 : W5.heap.size = gb + 1 := by rw [hW5, hgb]; simp
  have hb45 : Below W4.heap.size W4 W5 := hb5.trans (hbb5.mono hs5)
  have HL5 := hide (HL4.out.below hb45)
  have HK5 := hide (HK4.out.below hsz0 hb45)
  have HO5 := hide (owns_of_block hown5 (fun q hq => hbb5.block q (hown5.lt q hq).2))
  have HY5 := hide (hby5.below hbb5)
  have HG5 : Hid (W5.rowIs gb 57 3 (gz g1 g2 (.slice ao l.length cap))) := by unfold Hid; rw [hW5, hgb]; exact gz_row _ _ _ _ _
  have HQ5 := hide hq5
  have HB05 := hide (HB04.out.trans (hb45.mono (by have := HB04.out.size; omega)))
  have hL5w := HL4.out.below hb5
  obtain ⟨p0, p1, p2⟩ := gz_cells hL5w.ru
  obtain ⟨r0, r1, r2⟩ := gz_cells hL5w.rv
  have hul := hL5w.ru.lt
  have hvl := hL5w.rv.lt
  have HW5 := hide hW5
  have hgbl : gb < W5.heap.size := by omega
  have hg4 : W4.heap.size ≤ gb := by omega
  have HGB := hide hgb
  clear hb5 hown5 hby5 hbb5 hb45 hq5 hW5 hL5w hsW5 hgb
  go_wp2_with fail
  rw [← HW5.out]
  try rw [← HGB.out]
  refine (refLay_any a a' n m c c' UW UH OW OH x y way U O W5 (HU.out.below HB05.out) (HO.out.below HB05.out) HbU.out HbO.out).mono ?_
  rw [← HRE.out]
  rintro e w6 ⟨k1, k2, v6, l6, rfl, hb6, hown6, hq6⟩
  have hsame : k1 = g1 ∧ k2 = g2 ∧ l6 = l := by
    have := hq6.trans HQ5.out.symm
    simp only [Prod.mk.injEq] at this
    exact this
  obtain ⟨rfl, rfl, rfl⟩ := hsame
  obtain ⟨ao6, cap6, rfl, hby6⟩ := owns_byC hown6
  obtain ⟨rb, hrb⟩ : ∃ rb, rb = w6.heap.size := ⟨_, rfl⟩
  obtain ⟨W6, hW6⟩ : ∃ W6, W6 = w6.alloc (.cells #[.int .i64 k1, .int .i64 k2, .slice ao6 l6.length cap6] 57) := ⟨_, rfl⟩
  have hs6 := hb6.size
  have hbb6 : Below w6.heap.size w6 W6 := by rw [hW6]; exact (Below.refl _ _).alloc (Nat.le_refl _) _
  have hsW6 : W6.heap.size = rb + 1 := by rw [hW6, hrb]; simp
  have hb56 : Below W5.heap.size W5 W6 := hb6.trans (hbb6.mono hs6)
  have HL6 := hide (HL5.out.below hb56)
  have HK6 := hide (HK5.out.below hsz0 hb56)
  have HO6 := hide (owns_of_block HO5.out (fun q hq => hb56.block q (HO5.out.lt q hq).2))
  have HY6 := hide (HY5.out.below hb56)
  have HZ6 := hide (hby6.below hbb6)
  have HG6 := hide (row_below HG5.out hb56 hgbl)
  have HR6 : Hid (W6.rowIs rb 57 3 (gz k1 k2 (.slice ao6 l6.length cap6))) := by unfold Hid; rw [hW6, hrb]; exact gz_row _ _ _ _ _
  have HB06 := hide (HB05.out.trans (hb56.mono (by have := HB05.out.size; omega)))
  have hG6w := row_below HG5.out hb6 hgbl
  clear p0 p1 p2 r0 r1 r2
  obtain ⟨p0, p1, p2⟩ := gz_cells hG6w
  have hG6l := hG6w.lt
  have HW6 := hide hW6
  have hrbl : rb < W6.heap.size := by omega
  have hr5 : W5.heap.size ≤ rb := by omega
  have HRB := hide hrb
  clear hb6 hown6 hby6 hbb6 hb56 hq6 hW6 hG6w hsW6 hul hvl hrb
  go_wp2_with fail
  rw [← HW6.out]
  try rw [← HRB.out]
  refine (sameGray_any ao ao6 l6.length cap cap6 k1 k2 _ W6 (by have := HLen.out; omega) HY6.out HZ6.out).mono ?_
  rintro e w7 ⟨rfl, hb7⟩
  have hs7 := hb7.size
  have HL7 := hide (HL6.out.below hb7)
  have HK7 := hide (HK6.out.below hsz0 hb7)
  have HO7 := hide (owns_of_block HO6.out (fun q hq => hb7.block q (HO6.out.lt q hq).2))
  have HG7 := hide (row_below HG6.out hb7 (by omega))
  have HR7 := hide (row_below HR6.out hb7 (by omega))
  have HB07 := hide (HB06.out.trans (hb7.mono (by have := HB06.out.size; omega)))
  clear p0 p1 p2 hb7 HW5 HW6
  obtain ⟨p0, p1, p2⟩ := gz_cells HL7.out.ra
  obtain ⟨r0, r1, r2⟩ := gz_cells HL7.out.ru
  have hx1 := HL7.out.ra.lt
  have hx2 := HL7.out.ru.lt
  go_wp2_with fail
  refine (lentGray_any a B1 n c UW UH U w7 hn HL7.out.l1 (HU.out.below HB07.out)).mono ?_
  rintro e w8 ⟨rfl, hb8⟩
  have hs8 := hb8.size
  have HL8 := hide (HL7.out.below hb8)
  have HK8 := hide (HK7.out.below hsz0 hb8)
  have HO8 := hide (owns_of_block HO7.out (fun q hq => hb8.block q (HO7.out.lt q hq).2))
  have HG8 := hide (row_below HG7.out hb8 HG7.out.lt)
  have HR8 := hide (row_below HR7.out hb8 HR7.out.lt)
  have HB08 := hide (HB07.out.trans (hb8.mono (by have := HB07.out.size; omega)))
  clear p0 p1 p2 r0 r1 r2 hx1 hx2 hb8
  obtain ⟨p0, p1, p2⟩ := gz_cells HL8.out.rb
  obtain ⟨r0, r1, r2⟩ := gz_cells HL8.out.rv
  have hx1 := HL8.out.rb.lt
  have hx2 := HL8.out.rv.lt
  go_wp2_with fail
  refine (lentGray_any a' B2 m c' OW OH O w8 hm HL8.out.l2 (HO.out.below HB08.out)).mono ?_
  rintro e w9 ⟨rfl, hb9⟩
  have hs9 := hb9.size
  have hb9' : Below w8.heap.size w8 w9.drew := hb9.drew
  have HL9 := hide (HL8.out.below hb9')
  have HK9 := hide (HK8.out.below hsz0 hb9')
  have HO9 := hide (owns_of_block HO8.out (fun q hq => hb9'.block q (HO8.out.lt q hq).2))
  have HG9 := hide (row_below HG8.out hb9' HG8.out.lt)
  have HR9 := hide (row_below HR8.out hb9' HR8.out.lt)
  have HB09 := hide (HB08.out.trans (hb9'.mono (by have := HB08.out.size; omega)))
  have hg9w := row_below HG8.out hb9 HG8.out.lt
  clear p0 p1 p2 r0 r1 r2 hx1 hx2 hb9 hb9'
  obtain ⟨p0, p1, p2⟩ := gz_cells hg9w
  have hx1 := hg9w.lt
  have hvge : Hid (∀ q, (Value.slice ao l6.length cap).ownBlock = some q → W4.heap.size ≤ q ∧ q < w9.heap.size) := fun q hq => by
    have h1 := HO9.out.lt q hq
    exact ⟨h1.1, h1.2⟩
  have HCall := hide (heldBytes_any h (.slice ao l6.length cap) s w9.drew HK9.out.inv (ByRow.of_owns HO9.out) (fun q hq => HK9.out.free HUB.out (by have := hvge.out q hq; omega) (fun _ hx => by cases hx)) (by omega))
  clear hg9w
  go_wp2_with fail
  go_region_with (go_at_call 41; refine HCall.out.mono ?_; rintro e w10 ⟨rfl, hT10, s1, hI10, hK10⟩)
  have HK10 := hide (HK9.out.step hsz0 hh (fun q hq => by have := hvge.out q hq; omega) hT10 hI10 hK10)
  have hs10 := hT10.size
  have HL10 := hide (HL9.out.held HK9.out.inv (ByRow.of_owns HO9.out) hT10 (fun e => by have := hvge.out _ e; have := HB1b.out.1; omega) (fun e => by have := hvge.out _ e; have := HB1b.out.2; omega))
  have HG10 := hide (hT10.row HG9.out (gray_not HK9.out.inv (ByRow.of_owns HO9.out) HG9.out))
  have HR10 := hide (hT10.row HR9.out (gray_not HK9.out.inv (ByRow.of_owns HO9.out) HR9.out))
  have HB010 := hide (HB09.out.trans (hT10.below (B := w0.heap.size) (by have := HB09.out.size; omega) (fun q hq => byteS_ge HK9.out.inv hh (fun q hq => by have := hvge.out q hq; omega) hq)))
  clear hT10 hI10 hK10 HCall p0 p1 p2 hx1
  obtain ⟨p0, p1, p2⟩ := gz_cells HL10.out.ra
  have hx1 := HL10.out.ra.lt
  go_wp2_with fail
  clear p0 p1 p2 hx1
  refine (glyphLay_any (some ⟨B1, 0, none⟩) (some ⟨B1, 0, none⟩) n n (n + 2) (n + 2) UW UH UW UH x y way U U w10 (lentB_by HL10.out.l1) (lentB_by HL10.out.l1) HbU.out HbU.out).mono ?_
  obtain ⟨SE, hSE⟩ : ∃ SE, SE = Num.layE UW UH n UW UH n way 8 9 := ⟨_, rfl⟩
  rw [← hSE]
  have HSE := hide hSE
  clear hSE
  rintro e w11 ⟨g3, g4, v3, l3, rfl, hb11, hown11, hq11⟩
  have HLen3 : Hid (l3.length ≤ 4096) := by have := layR_len UW UH n UW UH n U U x y way; rw [← hq11] at this; exact this
  obtain ⟨ao3, cap3, rfl, hby11⟩ := owns_byC hown11
  have hs11 := hb11.size
  have hG11 := row_below HG10.out hb11 HG10.out.lt
  have hL11 := HL10.out.below hb11
  obtain ⟨W11, hW11⟩ : ∃ W11, W11 = ((w11.setCell ⟨gb, 0, none⟩ (.int .i64 g3)).setCell ⟨gb, 1, none⟩ (.int .i64 g4)).setCell ⟨gb, 2, none⟩ (.slice ao3 l3.length cap3) := ⟨_, rfl⟩
  have hoth : ∀ q, q ≠ gb → W11.heap[q]? = w11.heap[q]? := fun q hq => by rw [hW11, set_other hq, set_other hq, set_other hq]
  have hgbw : w.heap.size ≤ gb := by omega
  have hb11' : Below w0.heap.size w11 W11 := by
    rw [hW11]
    exact (((Below.refl _ _).setCell (p := ⟨gb, 0, none⟩) (by show w0.heap.size ≤ gb; omega) _).setCell (p := ⟨gb, 1, none⟩) (by show w0.heap.size ≤ gb; omega) _).setCell (p := ⟨gb, 2, none⟩) (by show w0.heap.size ≤ gb; omega) _
  have hsW11 : W11.heap.size = w11.heap.size := by rw [hW11]; simp
  have hgL : ∀ q, (q = ub ∨ q = ub + 1 ∨ q = ab ∨ q = bb ∨ q = B1 ∨ q = B2) → q ≠ gb := fun q hq e => by have h1 := HB1b.out; omega
  have HL11 := hide (hL11.of_blocks (w' := W11) (fun q hq => hoth q (hgL q hq)))
  have HK11 : Hid (HK w0.heap.size w h s W11 s1 [.slice ao l6.length cap] (0 + 1)) := by
    have K := HK10.out.below hsz0 hb11
    refine ⟨K.inv.of_blocks (fun q u => hoth q (fun e => ?_)), K.n, K.cs, K.rs, K.vB, K.B, ?_, K.bel.trans hb11'⟩
    · subst e
      exact gray_not_used K.inv hG11 u
    · rw [hW11]
      exact ((K.touch.setCell (p := ⟨gb, 0, none⟩) (.inr hgbw) _).setCell (p := ⟨gb, 1, none⟩) (.inr hgbw) _).setCell (p := ⟨gb, 2, none⟩) (.inr hgbw) _
  have hv3ne : ∀ q, (Value.slice ao3 l3.length cap3).ownBlock = some q → w10.heap.size ≤ q := fun q hq => (hown11.lt q hq).1
  have hgb10 : gb < w10.heap.size := HG10.out.lt
  have HO11 := hide (owns_of_block hown11 (fun q hq => hoth q (by have := hv3ne q hq; omega)))
  have HY11 : Hid (ByAt W11 ao3 l3.length (fun k => l3.getD k 0)) := by
    obtain ⟨ao', cap', e1, e2⟩ := owns_byC HO11.out
    simp only [Value.slice.injEq] at e1
    unfold Hid
    rw [e1.1]; exact e2
  have HG11 : Hid (W11.rowIs gb 57 3 (gz g3 g4 (.slice ao3 l3.length cap3))) := by unfold Hid; rw [hW11]; exact gz_set hG11 _ _ _
  have HR11 := hide ((row_below HR10.out hb11 HR10.out.lt).of_block (hoth rb (by omega)))
  have HQ11 := hide hq11
  have HB011 := hide ((HB010.out.trans (hb11.mono (by have := HB010.out.size; omega))).trans hb11')
  obtain ⟨z0, z1, z2⟩ := gz_cells hG11
  have f0 := hG11.frozen 0
  have f1 := hG11.frozen 1
  have f2 := hG11.frozen 2
  have hgl11 := hG11.lt
  obtain ⟨p0, p1, p2⟩ := gz_cells HL11.out.ru
  have hx1 := HL11.out.ru.lt
  have HW11 := hide hW11
  have hube : ub ≠ gb := by have h1 := HB1b.out; omega
  obtain ⟨t0, t1, t2⟩ := gz_cells hL11.ru
  clear hb11 hown11 hby11 hq11 hL11 hG11 hoth hb11' hgL hW11 hv3ne
  go_wp2_with fail
  rw [← HW11.out]
  refine (refLay_any a a n n c c UW UH UW UH x y way U U W11 (HU.out.below HB011.out) (HU.out.below HB011.out) HbU.out HbU.out).mono ?_
  rw [← HSE.out]
  rintro e w12 ⟨k3, k4, v4, l4, rfl, hb12, hown12, hq12⟩
  have hsame : k3 = g3 ∧ k4 = g4 ∧ l4 = l3 := by
    have := hq12.trans HQ11.out.symm
    simp only [Prod.mk.injEq] at this
    exact this
  obtain ⟨rfl, rfl, rfl⟩ := hsame
  obtain ⟨ao4, cap4, rfl, hby12⟩ := owns_byC hown12
  have hs12 := hb12.size
  have hR12 := row_below HR11.out hb12 HR11.out.lt
  have hL12 := HL11.out.below hb12
  obtain ⟨W12, hW12⟩ : ∃ W12, W12 = ((w12.setCell ⟨rb, 0, none⟩ (.int .i64 k3)).setCell ⟨rb, 1, none⟩ (.int .i64 k4)).setCell ⟨rb, 2, none⟩ (.slice ao4 l4.length cap4) := ⟨_, rfl⟩
  have hoth : ∀ q, q ≠ rb → W12.heap[q]? = w12.heap[q]? := fun q hq => by rw [hW12, set_other hq, set_other hq, set_other hq]
  have hrbw : w.heap.size ≤ rb := by omega
  have hb12' : Below w0.heap.size w12 W12 := by
    rw [hW12]
    exact (((Below.refl _ _).setCell (p := ⟨rb, 0, none⟩) (by show w0.heap.size ≤ rb; omega) _).setCell (p := ⟨rb, 1, none⟩) (by show w0.heap.size ≤ rb; omega) _).setCell (p := ⟨rb, 2, none⟩) (by show w0.heap.size ≤ rb; omega) _
  have hsW12 : W12.heap.size = w12.heap.size := by rw [hW12]; simp
  have hgL : ∀ q, (q = ub ∨ q = ub + 1 ∨ q = ab ∨ q = bb ∨ q = B1 ∨ q = B2) → q ≠ rb := fun q hq e => by have h1 := HB1b.out; omega
  have HL12 := hide (hL12.of_blocks (w' := W12) (fun q hq => hoth q (hgL q hq)))
  have HK12 : Hid (HK w0.heap.size w h s W12 s1 [.slice ao l6.length cap] (0 + 1)) := by
    have K := HK11.out.below hsz0 hb12
    refine ⟨K.inv.of_blocks (fun q u => hoth q (fun e => ?_)), K.n, K.cs, K.rs, K.vB, K.B, ?_, K.bel.trans hb12'⟩
    · subst e
      exact gray_not_used K.inv hR12 u
    · rw [hW12]
      exact ((K.touch.setCell (p := ⟨rb, 0, none⟩) (.inr hrbw) _).setCell (p := ⟨rb, 1, none⟩) (.inr hrbw) _).setCell (p := ⟨rb, 2, none⟩) (.inr hrbw) _
  have hrb10 : rb < w10.heap.size := HR10.out.lt
  have HO12 := hide (owns_of_block HO11.out (fun q hq => (hoth q (by have := (HO11.out.lt q hq).1; omega)).trans (hb12.block q (HO11.out.lt q hq).2)))
  have HY12 : Hid (ByAt W12 ao3 l4.length (fun k => l4.getD k 0)) := by
    obtain ⟨ao', cap', e1, e2⟩ := owns_byC HO12.out
    simp only [Value.slice.injEq] at e1
    unfold Hid
    rw [e1.1]; exact e2
  have HZ12 : Hid (ByAt W12 ao4 l4.length (fun k => l4.getD k 0)) := by
    have h := owns_of_block hown12 (fun q hq => hoth q (by have := (hown12.lt q hq).1; omega))
    obtain ⟨ao', cap', e1, e2⟩ := owns_byC h
    simp only [Value.slice.injEq] at e1
    unfold Hid
    rw [e1.1]; exact e2
  have hgr : gb ≠ rb := by omega
  have HG12 := hide ((row_below HG11.out hb12 HG11.out.lt).of_block (hoth gb hgr))
  have HR12 : Hid (W12.rowIs rb 57 3 (gz k3 k4 (.slice ao4 l4.length cap4))) := by unfold Hid; rw [hW12]; exact gz_set hR12 _ _ _
  have HB012 := hide ((HB011.out.trans (hb12.mono (by have := HB011.out.size; omega))).trans hb12')
  clear z0 z1 z2 f0 f1 f2 p0 p1 p2 hx1 t0 t1 t2 hgl11
  obtain ⟨z0, z1, z2⟩ := gz_cells hR12
  have f0 := hR12.frozen 0
  have f1 := hR12.frozen 1
  have f2 := hR12.frozen 2
  have hgl12 := hR12.lt
  obtain ⟨t0, t1, t2⟩ := gz_cells (row_below HG11.out hb12 HG11.out.lt)
  have HW12 := hide hW12
  clear hb12 hown12 hby12 hq12 hL12 hR12 hoth hb12' hgL hW12 HW11
  go_wp2_with fail
  rw [← HW12.out]
  refine (sameGray_any ao3 ao4 l4.length cap3 cap4 k3 k4 _ W12 (by have := HLen3.out; omega) HY12.out HZ12.out).mono ?_
  rintro e w13 ⟨rfl, hb13⟩
  have hs13 := hb13.size
  have HL13' := hide (HL12.out.below hb13)
  have HK13 := hide (HK12.out.below hsz0 hb13)
  have HO13 := hide (owns_of_block HO12.out (fun q hq => hb13.block q (HO12.out.lt q hq).2))
  have HG13 := hide (row_below HG12.out hb13 HG12.out.lt)
  have HB013 := hide (HB012.out.trans (hb13.mono (by have := HB012.out.size; omega)))
  clear z0 z1 z2 f0 f1 f2 t0 t1 t2 hgl12 hb13 HW12
  obtain ⟨p0, p1, p2⟩ := gz_cells HL13'.out.ra
  obtain ⟨r0, r1, r2⟩ := gz_cells HL13'.out.ru
  have hx1 := HL13'.out.ra.lt
  have hx2 := HL13'.out.ru.lt
  go_wp2_with fail
  refine (lentGray_any a B1 n c UW UH U w13 hn HL13'.out.l1 (HU.out.below HB013.out)).mono ?_
  rintro e w14 ⟨rfl, hb14⟩
  have hs14 := hb14.size
  have hb14' : Below w13.heap.size w13 w14.drew := hb14.drew
  have HL14 := hide (HL13'.out.below hb14')
  have HK14 := hide (HK13.out.below hsz0 hb14')
  have HO14 := hide (owns_of_block HO13.out (fun q hq => hb14'.block q (HO13.out.lt q hq).2))
  have hg14w := row_below HG13.out hb14 HG13.out.lt
  clear p0 p1 p2 r0 r1 r2 hx1 hx2 hb14 hb14'
  obtain ⟨p0, p1, p2⟩ := gz_cells hg14w
  have hx1 := hg14w.lt
  have hv3 : Hid (∀ q, (Value.slice ao3 l4.length cap3).ownBlock = some q → w10.heap.size ≤ q) := fun q hq => (HO14.out.lt q hq).1
  have hvlt : Hid (∀ q, (Value.slice ao l6.length cap).ownBlock = some q → W4.heap.size ≤ q ∧ q < w10.heap.size) := fun q hq => ⟨(hvge.out q hq).1, by have := (hvge.out q hq).2; have : w9.drew.heap.size = w9.heap.size := rfl; omega⟩
  have HCall := hide (heldBytes_any h (.slice ao3 l4.length cap3) s1 w14.drew HK14.out.inv (ByRow.of_owns HO14.out) (fun q hq => HK14.out.free HUB.out (by have := hv3.out q hq; omega) (fun x hx e => by
    simp only [List.mem_singleton] at hx
    subst hx
    have h1 := (hvlt.out q e).2
    have h2 := hv3.out q hq
    omega)) (by rw [HK14.out.n]; omega))
  clear hg14w
  go_wp2_with fail
  go_region_with (go_at_call 41; refine HCall.out.mono ?_; rintro e w15 ⟨rfl, hT15, s2, hI15, hK15⟩)
  have HK15 := hide ((HK14.out.step hsz0 hh (fun q hq => by have := hv3.out q hq; omega) hT15 hI15 hK15).below hsz0 ((Below.refl w15.heap.size w15).drew))
  have hL15 := HL14.out.held HK14.out.inv (ByRow.of_owns HO14.out) hT15 (fun e => by have := hv3.out _ e; have := HB1b.out.1; omega) (fun e => by have := hv3.out _ e; have := HB1b.out.2; omega)
  have HL15 := hide (hL15.below ((Below.refl w15.heap.size w15).drew))
  have hs15 := hT15.size
  clear hT15 hI15 hK15 HCall p0 p1 p2 hx1
  obtain ⟨p0, p1, p2⟩ := gz_cells hL15.ra
  have hx1 := hL15.ra.lt
  have hR15 : ByRow w15.drew (.slice (some ⟨B1, 0, none⟩) n (n + 2)) := ByRow.of_row HL15.out.l1 (by omega) (by omega)
  have HR15 := hide hR15
  have HCall := hide (heldBytes_any h (.slice (some ⟨B1, 0, none⟩) n (n + 2)) s2 w15.drew HK15.out.inv hR15 (fun q hq => by
    simp [Value.ownBlock] at hq
    subst hq
    refine HK15.out.free HUB.out HB1u.out (fun x hx e => ?_)
    simp only [List.mem_cons, List.not_mem_nil, or_false] at hx
    rcases hx with rfl | rfl
    · have := hv3.out _ e; have := HB1b.out.1; omega
    · have := hvlt.out _ e; have := HB1b.out.1; omega) (by rw [HK15.out.n]; omega))
  clear hL15 hR15
  go_wp2_with fail
  go_region_with (go_at_call 41; refine HCall.out.mono ?_; rintro e w16 ⟨rfl, hT16, s3, hI16, hK16⟩)
  have HK16 := hide ((HK15.out.step hsz0 hh (fun q hq => by simp [Value.ownBlock] at hq; subst hq; exact HB1u.out) hT16 hI16 hK16).below hsz0 ((Below.refl w16.heap.size w16).drew))
  have hrb16 := hT16.row HL15.out.rb (gray_not HK15.out.inv HR15.out HL15.out.rb)
  have hl2 := hT16.row HL15.out.l2 (byte_not HK15.out.inv HL15.out.l2 (by simp [Value.ownBlock]; omega))
  have hs16 := hT16.size
  clear hT16 hI16 hK16 HCall p0 p1 p2 hx1
  obtain ⟨p0, p1, p2⟩ := gz_cells hrb16
  have hx1 := hrb16.lt
  have HCall := hide (heldBytes_any h (.slice (some ⟨B2, 0, none⟩) m (m + 2)) s3 w16.drew HK16.out.inv (ByRow.of_row (row_below hl2 ((Below.refl w16.heap.size w16).drew) hl2.lt) (by omega) (by omega)) (fun q hq => by
    simp [Value.ownBlock] at hq
    subst hq
    refine HK16.out.free HUB.out HB2u.out (fun x hx e => ?_)
    simp only [List.mem_cons, List.not_mem_nil, or_false] at hx
    rcases hx with rfl | rfl | rfl
    · simp [Value.ownBlock] at e; omega
    · have := hv3.out _ e; have := HB1b.out.2; omega
    · have := hvlt.out _ e; have := HB1b.out.2; omega) (by rw [HK16.out.n]; omega))
  clear hrb16 hl2
  go_wp2_with fail
  go_region_with (go_at_call 41; refine HCall.out.mono ?_; rintro e w17 ⟨rfl, hT17, s4, hI17, hK17⟩)
  have HK17 := hide (HK16.out.step hsz0 hh (fun q hq => by simp [Value.ownBlock] at hq; subst hq; exact HB2u.out) hT17 hI17 hK17)
  clear hT17 hI17 hK17 HCall p0 p1 p2 hx1
  go_wp2_with (go_at_call 42; refine (num_any _ _).mono ?_; rintro e w' ⟨rfl, rfl⟩)
  go_ret
  exact ⟨rfl, HK17.out.bel, HK17.out.touch, s4, HK17.out.inv, by rw [HK17.out.n]; omega, HK17.out.cs, HK17.out.rs⟩end Go.Proofs.Ytkhcjkmifddlbab
