/- Rings: the program's, contour by contour. -/
import Derived.Test.YtkhcjkmifddlbaaRefRing
import Derived.Test.YtkhcjkmifddlbaaRingU
import Derived.Test.YtkhcjkmifddlbaaChkB
namespace Go.Proofs.Ytkhcjkmifddlbaa
open Go.RowKit Go.Deep

/-- The segments of contour i. -/
def ringL (n : Nat → Nat) (X Y K : Nat → Nat → Int) (i : Nat) : List Num.Sg := Num.refRing (X i) (Y i) (K i) (n i)
theorem refRing_len (X Y K : Nat → Int) (n : Nat) : (Num.refRing X Y K n).length ≤ 2 * n := refU_len X Y K n (2 * n)

theorem refRing_pos {X Y K : Nat → Int} {n : Nat} (hn : 2 ≤ n) (hs : ∀ i, i < n → Num.badB K n i = false) : 0 < (Num.refRing X Y K n).length := by
  obtain ⟨t, ht, hon⟩ := Num.exists_on (X := X) (Y := Y) hn hs
  have : Num.fromV X Y K n t ∈ Num.refRing X Y K n := by
    unfold Num.refRing
    rw [List.mem_filterMap]
    exact ⟨t, by simpa using ht, by simp [Num.refF, hon]⟩
  exact List.length_pos_of_mem this

theorem ok_shape {n : Nat → Nat} {K : Nat → Nat → Int} {i : Nat} (h : Num.shapeAt n K i = false) : 2 ≤ n i ∧ ∀ k, k < n i → Num.badB (K i) (n i) k = false := by
  have h1 : Num.shapeI (K i) (n i) = -1 := by simpa [Num.shapeAt] using h
  unfold Num.shapeI at h1
  split at h1
  · omega
  · refine ⟨by omega, ?_⟩
    rcases Num.firstI_cases (Num.badB (K i) (n i)) (n i) with ⟨_, hb⟩ | ⟨k, _, _, _, e⟩
    · exact hb
    · rw [e] at h1; omega
theorem ok_far {n : Nat → Nat} {X Y : Nat → Nat → Int} {i : Nat} (h : Num.farAt n X Y i = false) : (∀ k, k < n i → -4096 ≤ X i k ∧ X i k ≤ 4096) ∧ ∀ k, k < n i → -4096 ≤ Y i k ∧ Y i k ≤ 4096 := by
  have h1 : Num.farI (X i) (Y i) (n i) = -1 := by simpa [Num.farAt] using h
  unfold Num.farI at h1
  have hb : ∀ k, k < n i → Num.farB (X i) (Y i) k = false := by
    rcases Num.firstI_cases (Num.farB (X i) (Y i)) (n i) with ⟨_, hb⟩ | ⟨k, _, _, _, e⟩
    · exact hb
    · rw [e] at h1; omega
  have key : ∀ k, k < n i → Num.wi (X i k) 4096 = true ∧ Num.wi (Y i k) 4096 = true := fun k hk => by
    have := hb k hk
    simpa [Num.farB] using this
  exact ⟨fun k hk => Num.wi_yes (key k hk).1, fun k hk => Num.wi_yes (key k hk).2⟩
theorem ok_many {N : Nat} {n : Nat → Nat} (h : Num.manyB N n = false) : N ≤ 16 ∧ Num.sumN n N ≤ 200 ∧ ∀ i, i < N → n i ≤ 200 := by
  have h1 : N ≤ 16 ∧ Num.sumN n N ≤ 200 := by simp [Num.manyB] at h; omega
  refine ⟨h1.1, h1.2, fun i hi => ?_⟩
  have := Num.sumN_mono n (show i + 1 ≤ N by omega)
  simp only [Num.sumN] at this
  omega

theorem flat9_len (l : List Num.Sg) : (l.flatMap sgC).length = l.length * 9 := by
  induction l with
  | nil => simp
  | cons x r ih => rw [List.flatMap_cons, List.length_append, ih]; simp [sgC]; omega
theorem flat9_one (l : List Num.Sg) : ∀ u ∈ l.flatMap sgC, u.oneCell' = true := by
  intro u hu
  rw [List.mem_flatMap] at hu
  obtain ⟨g, _, hg⟩ := hu
  exact one_sg g u hg
theorem owns_news {w : World} {base g cap : Nat} {t : TypeId} {l : List Num.Sg} (h : w.ownsRow base t 9 (.slice (some ⟨g, 0, none⟩) l.length cap) l.length (l.flatMap sgC)) : ∀ (j : Nat) (u : Value), (l.flatMap sgC)[j]? = some u → w.cell? ((⟨g, 0, none⟩ : Addr).add j) = some u := by
  intro j u hj
  have e2 : ((⟨g, 0, none⟩ : Addr).add j) = ⟨g, j, none⟩ := by
    unfold Addr.add
    split
    · rename_i h; simp_all
    · simp
  have hlt : j < l.length * 9 := by
    rcases Nat.lt_or_ge j (l.length * 9) with h | h
    · exact h
    · rw [List.getElem?_eq_none (by rw [flat9_len]; exact h)] at hj; cases hj
  rw [e2, h.cellAt j hlt, hj]

theorem owns_mono9 {w : World} {base base' : Nat} {t : TypeId} {sz : Nat} {v : Value} {n : Nat} {xs : List Value} (h : w.ownsRow base t sz v n xs) (hb : base' ≤ base) : w.ownsRow base' t sz v n xs := by
  refine ⟨h.1, ?_⟩
  rcases h.2 with hn | ⟨g, cap, cur, rfl, hb', rest⟩
  · exact .inl hn
  · exact .inr ⟨g, cap, cur, rfl, Nat.le_trans hb hb', rest⟩
theorem owns_form9' {w : World} {base : Nat} {t : TypeId} {z : Nat} {v : Value} {n : Nat} {xs : List Value} (h : w.ownsRow base t z v n xs) : ∃ ao cap, v = .slice ao n cap ∧ (0 < n → ∃ b, ao = some ⟨b, 0, none⟩) := by
  rcases h.2 with ⟨rfl, h0⟩ | ⟨g, cap, cur, rfl, _⟩
  · exact ⟨none, 0, by rw [h0], by omega⟩
  · exact ⟨some ⟨g, 0, none⟩, cap, rfl, fun _ => ⟨g, rfl⟩⟩
theorem info_ring : (Try.prog.info? 102).map (fun i => (i.zero, i.size, i.bytes)) = some (some (.slice none 0 0), 1, 24) := by kernel_rfl

/-- How many rings there are. -/
def ringN (N : Nat) (n : Nat → Nat) (X Y K : Nat → Nat → Int) : Nat := if (Num.chkV N n X Y K).1 = 0 then N else 0
/-- Rings, as a call hands them out: a list of lists. -/
structure RingsAt (w : World) (base : Nat) (v : Value) (m : Nat) (V : Nat → Value) (L : Nat → List Num.Sg) : Prop where
  outer : w.ownsRow base 102 1 v m ((List.range m).map V)
  inner : ∀ i, i < m → w.ownsRow base 44 9 (V i) (L i).length ((L i).flatMap sgC)
theorem RingsAt.below {w w' : World} {base : Nat} {v : Value} {m : Nat} {V : Nat → Value} {L : Nat → List Num.Sg} (h : RingsAt w base v m V L) (hb : Below w.heap.size w w') : RingsAt w' base v m V L :=
  ⟨owns_of_block h.outer (fun b hbb => hb.block b (h.outer.lt b hbb).2), fun i hi => owns_of_block (h.inner i hi) (fun b hbb => hb.block b ((h.inner i hi).lt b hbb).2)⟩
theorem range_map_snoc {α : Type} (f : Nat → α) (i : Nat) : (List.range (i + 1)).map f = (List.range i).map f ++ [f i] := by
  rw [List.range_succ, List.map_append]; rfl
theorem range_map_congr {α : Type} {f g : Nat → α} {i : Nat} (h : ∀ j, j < i → f j = g j) : (List.range i).map f = (List.range i).map g := by
  apply List.map_congr_left
  intro j hj
  exact h j (by simpa using hj)

set_option maxRecDepth 100000 in
set_option maxHeartbeats 2000000 in
theorem outRings_any (a : Option Addr) (N c : Nat) (A : Nat → Option Addr) (C n : Nat → Nat) (X Y K : Nat → Nat → Int) (w : World) (hN : N ≤ 4294967296) (hn : ∀ i, i < N → n i ≤ 4294967296) (ho : OutAt w a N A C n X Y K) :
    Calls Try.prog 119 #[.slice a N c] w fun e w' => ∃ v V, e = .returned (.tuple #[v, .int .i64 (Num.chkV N n X Y K).1]) ∧ Below w.heap.size w w' ∧ RingsAt w' w.heap.size v (ringN N n X Y K) V (ringL n X Y K) := by
  have HO := hide ho
  have HN := hide hn
  have hcs := Num.chk_cases N n X Y K
  obtain ⟨V0, hV⟩ : ∃ V, V = Num.chkV N n X Y K := ⟨_, rfl⟩
  have hSV : ringN N n X Y K = if V0.1 = 0 then N else 0 := by unfold ringN; rw [hV]
  rw [← hV] at hcs ⊢
  obtain ⟨T, hT⟩ : ∃ T, T = ringN N n X Y K := ⟨_, rfl⟩
  rw [← hT] at hSV ⊢
  have HV := hide hV
  clear ho hn hV hT
  rcases hcs with ⟨h0, hm, hsh, hfa⟩ | h0
  · rw [if_pos h0] at hSV
    obtain ⟨m16, m200, mn⟩ := ok_many hm
    have HSV := hide hSV
    have HSH := hide hsh
    have HFA := hide hfa
    have HMN := hide mn
    clear hSV hsh hfa mn hm
    obtain ⟨v0, v1, v2⟩ := V0
    have h0 : v0 = 0 := h0
    subst h0
    obtain ⟨i0, hi0, hz0, hz1, hz2⟩ := info_parts info_ring
    go_enter Try.func119, Try.ntmps119
    go_wp2_with fail
    refine (check_any _ _ _ A C n X Y K _ hN HN.out HO.out).mono ?_
    rw [← HV.out]
    rintro e w1 ⟨rfl, hb1⟩
    have hs1 := hb1.size
    go_wp2_with fail
    go_loopw [7, 22] (fun v t wr => ∃ (k : Nat) (V : Nat → Value), k ≤ N ∧ t = .int .i64 k ∧ Below w.heap.size w wr ∧ RingsAt wr w.heap.size v k V (ringL n X Y K)) (fun _ t _ => N - (intOf t).toNat)
    case atStart => exact ⟨0, fun _ => .slice none 0 0, by omega, rfl, hb1, World.ownsRow_nil _ _ _ _, fun i hi => by omega⟩
    case round =>
      obtain ⟨v, rfl⟩ : ∃ v, v = u7 := ⟨_, rfl⟩
      obtain ⟨k, V, hk, rfl, hb, hRA⟩ := hrel
      have hsz := hb.size
      by_cases hlt : k < N
      · have HO2 := hide (HO.out.below hb)
        rcases HO2.out.1 with h | ⟨b, off, rfl, hc⟩
        · omega
        have ci := hc k hlt
        clear hc
        obtain ⟨s2, sb⟩ := ok_shape (HSH.out k hlt)
        obtain ⟨fX, fY⟩ := ok_far (HFA.out k hlt)
        have hnk := HMN.out k hlt
        have HC := hide (ringSegments_any (A k) (n k) (C k) (X k) (Y k) (K k) wr (by omega) s2 sb fX fY (HO2.out.2 k hlt))
        clear sb fX fY
        have HRA := hide hRA
        clear hRA
        go_wp2_with fail
        refine HC.out.mono ?_
        rintro e w2 ⟨v2, rfl, hb2, hown2⟩
        have hs2 := hb2.size
        have HRA2 := hide (HRA.out.below hb2)
        have hbw : Below w.heap.size w w2 := hb.trans (hb2.mono hsz)
        have HW2 := hide (owns_mono9 (base' := w.heap.size) hown2 hsz)
        have hout := HRA2.out.outer
        clear hb hb2 HC hown2
        obtain ⟨xs, hxs⟩ : ∃ xs, xs = (List.range k).map V := ⟨_, rfl⟩
        rw [← hxs] at hout
        have HX := hide hxs
        have HOut := hide hout
        obtain ⟨ao, cp, hv2, _⟩ := owns_form9' HW2.out
        subst hv2
        clear hxs
        go_wp2_with (at_builtin; refine wpList_append_lies _ rfl _ _ 182 rfl w.heap.size 102 i0 (.slice none 0 0) 1 24 Try.underlying182 hi0 hz0 hz1 hz2 rfl (by omega) v k xs rfl (hout.alloc _) ⟨w2.heap.size, 0, none⟩ 1 1 [.slice ao (Num.refRing (X k) (Y k) (K k) (n k)).length cp] rfl rfl ?c1 ?c2 (by omega) ?c3 ?c4 ?c5 (w2.heap.size + 1) (by simp) ?_)
        try (case c1 => exact news_new w2 [.slice ao (Num.refRing (X k) (Y k) (K k) (n k)).length cp] _ _ rfl)
        case c2 => first | rfl | (intro u hu; simp at hu; subst hu; rfl)
        case c3 => unfold maxLen; omega
        case c4 => omega
        case c5 => first | omega | (simp; omega)
        intro g cap w3 hown3 hgrow hat hlt3
        have hb3 : Below w.heap.size w w3 := (hbw.alloc (by omega) _).grown hgrow (by simp; omega) (fun q hq => (HOut.out.lt q hq).1)
        have hkeep : ∀ (u : Value) (l : List Num.Sg), w2.ownsRow w.heap.size 44 9 u l.length (l.flatMap sgC) → w3.ownsRow w.heap.size 44 9 u l.length (l.flatMap sgC) := fun u l h => owns_of_block h (fun b hbb => by
          have hty := owns_ty h hbb
          have hlt9 := (h.lt b hbb).2
          rw [hgrow.block b (by rw [nblk_alloc]; omega) (fun e => by
            have := owns_ty HOut.out e.symm
            rw [hty] at this
            simp at this), blk_alloc_lt _ _ _ hlt9])
        have HR3 : Hid (RingsAt w3 w.heap.size (.slice (some ⟨g, 0, none⟩) (k + 1) cap) (k + 1) (fun i => if i = k then .slice ao (Num.refRing (X k) (Y k) (K k) (n k)).length cp else V i) (ringL n X Y K)) := by
          refine ⟨?_, fun i hi => ?_⟩
          · rw [range_map_snoc, range_map_congr (g := V) (fun j hj => by rw [if_neg (by omega)]), if_pos rfl, ← HX.out]
            exact hown3
          · by_cases e : i = k
            · subst e
              rw [if_pos rfl]
              exact hkeep _ _ HW2.out
            · rw [if_neg e]
              exact hkeep _ _ (HRA2.out.inner i (by omega))
        clear hown3 hgrow hat hout hbw hkeep
        go_wp2
        go_roundw
        case rel => exact ⟨k + 1, _, by omega, by go_num, hb3, HR3.out⟩
        case measure => simp [intOf]; omega
      · have e : k = N := by omega
        have HO9 := hide hRA
        clear hRA
        go_wp2
        go_ret2
        refine ⟨v, V, rfl, hb, ?_⟩
        rw [HSV.out, ← e]
        exact HO9.out
  · rw [if_neg h0] at hSV
    have HSV := hide hSV
    clear hSV
    obtain ⟨v0, v1, v2⟩ := V0
    have hb0 : (v0 != 0) = true := by simpa using h0
    clear h0
    go_enter Try.func119, Try.ntmps119
    go_wp2_with fail
    refine (check_any _ _ _ A C n X Y K _ hN HN.out HO.out).mono ?_
    rw [← HV.out]
    rintro e w1 ⟨rfl, hb1⟩
    go_wp2
    go_ret2
    refine ⟨_, fun _ => .slice none 0 0, rfl, hb1, ?_⟩
    rw [HSV.out]
    exact ⟨World.ownsRow_nil _ _ _ _, fun i hi => by omega⟩
end Go.Proofs.Ytkhcjkmifddlbaa
