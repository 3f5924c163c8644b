/- Segments: the program's. -/
import Derived.Test.YtoecfemnlpdhpaaRefRing
import Derived.Test.YtoecfemnlpdhpaaRingU
import Derived.Test.YtoecfemnlpdhpaaChkB
namespace Go.Proofs.Ytoecfemnlpdhpaa
open Go.RowKit Go.Deep

/-- The segments of the first k contours. -/
def allS (n : Nat → Nat) (X Y K : Nat → Nat → Int) (k : Nat) : List Num.Sg := (List.range k).flatMap fun i => Num.refRing (X i) (Y i) (K i) (n i)
theorem allS_succ (n : Nat → Nat) (X Y K : Nat → Nat → Int) (k : Nat) : allS n X Y K (k + 1) = allS n X Y K k ++ Num.refRing (X k) (Y k) (K k) (n k) := by
  unfold allS; rw [List.range_succ, List.flatMap_append]; simp
theorem refRing_len (X Y K : Nat → Int) (n : Nat) : (Num.refRing X Y K n).length ≤ 2 * n := refU_len X Y K n (2 * n)
theorem allS_len (n : Nat → Nat) (X Y K : Nat → Nat → Int) (k : Nat) : (allS n X Y K k).length ≤ 2 * Num.sumN n k := by
  induction k with
  | zero => simp [allS]
  | succ k ih =>
    rw [allS_succ, List.length_append]
    have := refRing_len (X k) (Y k) (K k) (n k)
    simp only [Num.sumN]; omega
/-- Segments' answer. -/
def segsV (N : Nat) (n : Nat → Nat) (X Y K : Nat → Nat → Int) : List Num.Sg := if (Num.chkV N n X Y K).1 = 0 then allS n X Y K N else []

theorem refRing_pos {X Y K : Nat → Int} {n : Nat} (hn : 2 ≤ n) (hs : ∀ i, i < n → Num.badB K n i = false) : 0 < (Num.refRing X Y K n).length := by
  obtain ⟨t, ht, hon⟩ := Num.exists_on (X := X) (Y := Y) hn hs
  have : Num.fromV X Y K n t ∈ Num.refRing X Y K n := by
    unfold Num.refRing
    rw [List.mem_filterMap]
    exact ⟨t, by simpa using ht, by simp [Num.refF, hon]⟩
  exact List.length_pos_of_mem this

theorem ok_shape {n : Nat → Nat} {K : Nat → Nat → Int} {i : Nat} (h : Num.shapeAt n K i = false) : 2 ≤ n i ∧ ∀ k, k < n i → Num.badB (K i) (n i) k = false := by
  have h1 : Num.shapeI (K i) (n i) = -1 := by simpa [Num.shapeAt] using h
  unfold Num.shapeI at h1
  split at h1
  · omega
  · refine ⟨by omega, ?_⟩
    rcases Num.firstI_cases (Num.badB (K i) (n i)) (n i) with ⟨_, hb⟩ | ⟨k, _, _, _, e⟩
    · exact hb
    · rw [e] at h1; omega
theorem ok_far {n : Nat → Nat} {X Y : Nat → Nat → Int} {i : Nat} (h : Num.farAt n X Y i = false) : (∀ k, k < n i → -4096 ≤ X i k ∧ X i k ≤ 4096) ∧ ∀ k, k < n i → -4096 ≤ Y i k ∧ Y i k ≤ 4096 := by
  have h1 : Num.farI (X i) (Y i) (n i) = -1 := by simpa [Num.farAt] using h
  unfold Num.farI at h1
  have hb : ∀ k, k < n i → Num.farB (X i) (Y i) k = false := by
    rcases Num.firstI_cases (Num.farB (X i) (Y i)) (n i) with ⟨_, hb⟩ | ⟨k, _, _, _, e⟩
    · exact hb
    · rw [e] at h1; omega
  have key : ∀ k, k < n i → Num.wi (X i k) 4096 = true ∧ Num.wi (Y i k) 4096 = true := fun k hk => by
    have := hb k hk
    simpa [Num.farB] using this
  exact ⟨fun k hk => Num.wi_yes (key k hk).1, fun k hk => Num.wi_yes (key k hk).2⟩
theorem ok_many {N : Nat} {n : Nat → Nat} (h : Num.manyB N n = false) : N ≤ 16 ∧ Num.sumN n N ≤ 200 ∧ ∀ i, i < N → n i ≤ 200 := by
  have h1 : N ≤ 16 ∧ Num.sumN n N ≤ 200 := by simp [Num.manyB] at h; omega
  refine ⟨h1.1, h1.2, fun i hi => ?_⟩
  have := Num.sumN_mono n (show i + 1 ≤ N by omega)
  simp only [Num.sumN] at this
  omega

theorem flat9_len (l : List Num.Sg) : (l.flatMap sgC).length = l.length * 9 := by
  induction l with
  | nil => simp
  | cons x r ih => rw [List.flatMap_cons, List.length_append, ih]; simp [sgC]; omega
theorem flat9_one (l : List Num.Sg) : ∀ u ∈ l.flatMap sgC, u.oneCell' = true := by
  intro u hu
  rw [List.mem_flatMap] at hu
  obtain ⟨g, _, hg⟩ := hu
  exact one_sg g u hg
theorem owns_news {w : World} {base g cap : Nat} {t : TypeId} {l : List Num.Sg} (h : w.ownsRow base t 9 (.slice (some ⟨g, 0, none⟩) l.length cap) l.length (l.flatMap sgC)) : ∀ (j : Nat) (u : Value), (l.flatMap sgC)[j]? = some u → w.cell? ((⟨g, 0, none⟩ : Addr).add j) = some u := by
  intro j u hj
  have e2 : ((⟨g, 0, none⟩ : Addr).add j) = ⟨g, j, none⟩ := by
    unfold Addr.add
    split
    · rename_i h; simp_all
    · simp
  have hlt : j < l.length * 9 := by
    rcases Nat.lt_or_ge j (l.length * 9) with h | h
    · exact h
    · rw [List.getElem?_eq_none (by rw [flat9_len]; exact h)] at hj; cases hj
  rw [e2, h.cellAt j hlt, hj]

set_option maxRecDepth 100000 in
set_option maxHeartbeats 2000000 in
theorem outSegments_any (a : Option Addr) (N c : Nat) (A : Nat → Option Addr) (C n : Nat → Nat) (X Y K : Nat → Nat → Int) (w : World) (hN : N ≤ 4294967296) (hn : ∀ i, i < N → n i ≤ 4294967296) (ho : OutAt w a N A C n X Y K) :
    Calls Try.prog 32 #[.slice a N c] w fun e w' => ∃ v, e = .returned (.tuple #[v, .int .i64 (Num.chkV N n X Y K).1]) ∧ Below w.heap.size w w' ∧ w'.ownsRow w.heap.size 63 9 v (segsV N n X Y K).length ((segsV N n X Y K).flatMap sgC) := by
  have HO := hide ho
  have HN := hide hn
  have hcs := Num.chk_cases N n X Y K
  obtain ⟨V, hV⟩ : ∃ V, V = Num.chkV N n X Y K := ⟨_, rfl⟩
  have hSV : segsV N n X Y K = if V.1 = 0 then allS n X Y K N else [] := by unfold segsV; rw [hV]
  rw [← hV] at hcs ⊢
  obtain ⟨T, hT⟩ : ∃ T, T = segsV N n X Y K := ⟨_, rfl⟩
  rw [← hT] at hSV ⊢
  have HV := hide hV
  clear ho hn hV hT
  rcases hcs with ⟨h0, hm, hsh, hfa⟩ | h0
  · rw [if_pos h0] at hSV
    obtain ⟨m16, m200, mn⟩ := ok_many hm
    have HSV := hide hSV
    have HSH := hide hsh
    have HFA := hide hfa
    have HMN := hide mn
    clear hSV hsh hfa mn hm
    obtain ⟨v0, v1, v2⟩ := V
    have h0 : v0 = 0 := h0
    subst h0
    obtain ⟨i0, hi0, hz0, hz1, hz2⟩ := info_parts info_seg
    go_enter Try.func32, Try.ntmps32
    go_wp2_with fail
    refine (check_any _ _ _ A C n X Y K _ hN HN.out HO.out).mono ?_
    rw [← HV.out]
    rintro e w1 ⟨rfl, hb1⟩
    have hs1 := hb1.size
    go_wp2_with fail
    go_loopw [7, 22] (fun v t wr => ∃ k : Nat, k ≤ N ∧ t = .int .i64 k ∧ Below w.heap.size w wr ∧ wr.ownsRow w.heap.size 63 9 v (allS n X Y K k).length ((allS n X Y K k).flatMap sgC)) (fun _ t _ => N - (intOf t).toNat)
    case atStart => exact ⟨0, by omega, rfl, hb1, World.ownsRow_nil _ _ _ _⟩
    case round =>
      obtain ⟨v, rfl⟩ : ∃ v, v = u7 := ⟨_, rfl⟩
      obtain ⟨k, hk, rfl, hb, hown⟩ := hrel
      have hsz := hb.size
      have hlen := allS_len n X Y K k
      have hmon := Num.sumN_mono n hk
      by_cases hlt : k < N
      · have HO2 := hide (HO.out.below hb)
        rcases HO2.out.1 with h | ⟨b, off, rfl, hc⟩
        · omega
        have ci := hc k hlt
        clear hc
        obtain ⟨s2, sb⟩ := ok_shape (HSH.out k hlt)
        obtain ⟨fX, fY⟩ := ok_far (HFA.out k hlt)
        have hnk := HMN.out k hlt
        have hpos := refRing_pos (X := X k) (Y := Y k) s2 sb
        have hrl := refRing_len (X k) (Y k) (K k) (n k)
        have HC := hide (ringSegments_any (A k) (n k) (C k) (X k) (Y k) (K k) wr (by omega) s2 sb fX fY (HO2.out.2 k hlt))
        clear sb fX fY
        have HSu := hide (allS_succ n X Y K k)
        obtain ⟨L2, hL2⟩ : ∃ L2, L2 = Num.refRing (X k) (Y k) (K k) (n k) := ⟨_, rfl⟩
        rw [← hL2] at HC HSu hpos hrl
        clear hL2
        obtain ⟨L, hL⟩ : ∃ L, L = allS n X Y K k := ⟨_, rfl⟩
        rw [← hL] at hown hlen HSu
        clear hL
        go_wp2_with fail
        refine HC.out.mono ?_
        rintro e w2 ⟨v2, rfl, hb2, hown2⟩
        have hs2 := hb2.size
        have hownA := owns_of_block hown (fun b hbb => hb2.block b (hown.lt b hbb).2)
        have hbw : Below w.heap.size w w2 := hb.trans (hb2.mono hsz)
        clear hb hb2 hown HC
        obtain ⟨g2, cap2, rfl, hg2, hgl2⟩ := hown2.form hpos
        have HNews := hide (owns_news hown2)
        have HFl := hide (flat9_len L2)
        have HOne := hide (flat9_one L2)
        clear hown2
        obtain ⟨m2, hm2⟩ : ∃ m2, m2 = L2.length := ⟨_, rfl⟩
        obtain ⟨ys, hys⟩ : ∃ ys, ys = L2.flatMap sgC := ⟨_, rfl⟩
        obtain ⟨ln, hln⟩ : ∃ ln, ln = L.length := ⟨_, rfl⟩
        obtain ⟨xs, hxs⟩ : ∃ xs, xs = L.flatMap sgC := ⟨_, rfl⟩
        rw [← hln, ← hxs] at hownA
        rw [← hln] at hlen
        rw [← hm2] at hpos hrl ⊢
        rw [← hys] at HNews HFl HOne
        rw [← hm2] at HFl
        have HM2 := hide hm2
        have HYS := hide hys
        have HLN := hide hln
        have HXS := hide hxs
        clear hm2 hys hln hxs
        go_wp2_with (at_builtin; refine wpList_append_lies _ rfl _ _ 52 rfl w.heap.size 63 i0 (.agg #[.int .i64 0, .int .i64 0, .int .i64 0, .int .i64 0, .int .i64 0, .int .i64 0, .int .i64 0, .int .i64 0, .int .i64 0]) 9 72 Try.underlying52 hi0 hz0 hz1 hz2 rfl (by omega) v ln xs rfl hownA ⟨g2, 0, none⟩ m2 cap2 ys rfl HFl.out HNews.out HOne.out (by omega) ?c3 ?c4 ?c5 w2.heap.size (by simp) ?_)
        case c3 => unfold maxLen; omega
        case c4 => omega
        case c5 => first | omega | (simp; omega)
        intro g cap w3 hown3 hgrow hat hlt3
        have hb3 : Below w.heap.size w w3 := hbw.grown hgrow (by omega) (fun q hq => (hownA.lt q hq).1)
        have HO3 : Hid (w3.ownsRow w.heap.size 63 9 (.slice (some ⟨g, 0, none⟩) (ln + m2) cap) (allS n X Y K (k + 1)).length ((allS n X Y K (k + 1)).flatMap sgC)) := by
          unfold Hid
          rw [HSu.out, List.length_append, List.flatMap_append, ← HLN.out, ← HM2.out, ← HXS.out, ← HYS.out]
          exact hown3
        clear hown3 hgrow hat hownA hbw
        go_wp2
        go_roundw
        case rel => exact ⟨k + 1, by omega, by go_num, hb3, HO3.out⟩
        case measure => simp [intOf]; omega
      · have e : k = N := by omega
        have HO9 := hide hown
        clear hown
        go_wp2
        go_ret2
        refine ⟨v, rfl, hb, ?_⟩
        rw [HSV.out]
        have h := HO9.out
        rw [e] at h
        exact h
  · rw [if_neg h0] at hSV
    have HSV := hide hSV
    clear hSV
    obtain ⟨v0, v1, v2⟩ := V
    have hb0 : (v0 != 0) = true := by simpa using h0
    clear h0
    go_enter Try.func32, Try.ntmps32
    go_wp2_with fail
    refine (check_any _ _ _ A C n X Y K _ hN HN.out HO.out).mono ?_
    rw [← HV.out]
    rintro e w1 ⟨rfl, hb1⟩
    go_wp2
    go_ret2
    refine ⟨_, rfl, hb1, ?_⟩
    rw [HSV.out]
    exact World.ownsRow_nil _ _ _ _

set_option maxHeartbeats 400000 in
theorem glyphSegments_any (a : Option Addr) (N c : Nat) (A : Nat → Option Addr) (C n : Nat → Nat) (X Y K : Nat → Nat → Int) (w : World) (hN : N ≤ 4294967296) (hn : ∀ i, i < N → n i ≤ 4294967296) (ho : OutAt w a N A C n X Y K) :
    Calls Try.prog 15 #[.slice a N c] w fun e w' => ∃ v, e = .returned (.tuple #[v, .int .i64 (Num.chkV N n X Y K).1]) ∧ Below w.heap.size w w' ∧ w'.ownsRow w.heap.size 63 9 v (segsV N n X Y K).length ((segsV N n X Y K).flatMap sgC) := by
  have HN := hide hn
  have HO := hide ho
  clear hn ho
  go_enter Try.func15, Try.ntmps15
  go_wp2_with fail
  refine (outSegments_any _ _ _ A C n X Y K _ hN HN.out HO.out).mono ?_
  rintro e w1 ⟨v, rfl, hb, hown⟩
  have HW := hide hown
  clear hown
  go_wp2
  go_ret2
  exact ⟨v, rfl, hb, HW.out⟩
end Go.Proofs.Ytoecfemnlpdhpaa
