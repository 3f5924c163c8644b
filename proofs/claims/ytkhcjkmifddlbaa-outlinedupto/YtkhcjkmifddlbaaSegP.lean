/- Segments: the program's. -/
import Derived.Test.YtkhcjkmifddlbaaRngP
namespace Go.Proofs.Ytkhcjkmifddlbaa
open Go.RowKit Go.Deep

/-- The segments of the first k contours. -/
def allS (n : Nat → Nat) (X Y K : Nat → Nat → Int) (k : Nat) : List Num.Sg := (List.range k).flatMap fun i => Num.refRing (X i) (Y i) (K i) (n i)
theorem allS_succ (n : Nat → Nat) (X Y K : Nat → Nat → Int) (k : Nat) : allS n X Y K (k + 1) = allS n X Y K k ++ Num.refRing (X k) (Y k) (K k) (n k) := by
  unfold allS; rw [List.range_succ, List.flatMap_append]; simp
theorem allS_len (n : Nat → Nat) (X Y K : Nat → Nat → Int) (k : Nat) : (allS n X Y K k).length ≤ 2 * Num.sumN n k := by
  induction k with
  | zero => simp [allS]
  | succ k ih =>
    rw [allS_succ, List.length_append]
    have := refRing_len (X k) (Y k) (K k) (n k)
    simp only [Num.sumN]; omega
/-- Segments' answer. -/
def segsV (N : Nat) (n : Nat → Nat) (X Y K : Nat → Nat → Int) : List Num.Sg := if (Num.chkV N n X Y K).1 = 0 then allS n X Y K N else []

set_option maxRecDepth 100000 in
set_option maxHeartbeats 2000000 in
theorem outSegments_any (a : Option Addr) (N c : Nat) (A : Nat → Option Addr) (C n : Nat → Nat) (X Y K : Nat → Nat → Int) (w : World) (hN : N ≤ 4294967296) (hn : ∀ i, i < N → n i ≤ 4294967296) (ho : OutAt w a N A C n X Y K) :
    Calls Try.prog 89 #[.slice a N c] w fun e w' => ∃ v, e = .returned (.tuple #[v, .int .i64 (Num.chkV N n X Y K).1]) ∧ Below w.heap.size w w' ∧ w'.ownsRow w.heap.size 44 9 v (segsV N n X Y K).length ((segsV N n X Y K).flatMap sgC) := by
  have HO := hide ho
  have HN := hide hn
  have hcs := Num.chk_cases N n X Y K
  have HRN : Hid ((Num.chkV N n X Y K).1 = 0 → ringN N n X Y K = N) := fun h => by unfold ringN; rw [if_pos h]
  obtain ⟨V0, hV⟩ : ∃ V, V = Num.chkV N n X Y K := ⟨_, rfl⟩
  have hSV : segsV N n X Y K = if V0.1 = 0 then allS n X Y K N else [] := by unfold segsV; rw [hV]
  rw [← hV] at hcs HRN ⊢
  obtain ⟨T, hT⟩ : ∃ T, T = segsV N n X Y K := ⟨_, rfl⟩
  rw [← hT] at hSV ⊢
  have HV := hide hV
  clear ho hn hV hT
  rcases hcs with ⟨h0, hm, hsh, hfa⟩ | h0
  · rw [if_pos h0] at hSV
    obtain ⟨m16, m200, mn⟩ := ok_many hm
    have HSV := hide hSV
    have HSH := hide hsh
    have HMN := hide mn
    have HRN2 := hide (HRN.out h0)
    clear hSV hsh hfa mn hm HRN
    obtain ⟨v0, v1, v2⟩ := V0
    have h0 : v0 = 0 := h0
    subst h0
    obtain ⟨i0, hi0, hz0, hz1, hz2⟩ := info_parts info_seg
    go_enter Try.func89, Try.ntmps89
    go_wp2_with fail
    refine (outRings_any _ _ _ A C n X Y K _ hN HN.out HO.out).mono ?_
    rw [← HV.out, HRN2.out]
    rintro e w1 ⟨vr, VR, rfl, hb1, hRA⟩
    have hs1 := hb1.size
    obtain ⟨ao, cp, rfl, hao⟩ := owns_form9' hRA.outer
    have HRA := hide hRA
    have HAo := hide hao
    have HB1 := hide hb1
    clear hRA hao hb1
    go_wp2_with fail
    go_loopw [6, 19] (fun v t wr => ∃ k : Nat, k ≤ N ∧ t = .int .i64 k ∧ Below w1.heap.size w1 wr ∧ wr.ownsRow w1.heap.size 44 9 v (allS n X Y K k).length ((allS n X Y K k).flatMap sgC)) (fun _ t _ => N - (intOf t).toNat)
    case atStart => exact ⟨0, by omega, rfl, Below.refl _ _, World.ownsRow_nil _ _ _ _⟩
    case round =>
      obtain ⟨v, rfl⟩ : ∃ v, v = u6 := ⟨_, rfl⟩
      obtain ⟨k, hk, rfl, hb, hown⟩ := hrel
      have hsz := hb.size
      have hlen := allS_len n X Y K k
      have hmon := Num.sumN_mono n hk
      by_cases hlt : k < N
      · obtain ⟨gr, rfl⟩ := HAo.out (by omega)
        have hRA2 := HRA.out.below hb
        have ci := hRA2.outer.cellAt k (by omega)
        rw [List.getElem?_map, List.getElem?_range hlt] at ci
        simp only [Option.map_some] at ci
        obtain ⟨s2, sb⟩ := ok_shape (HSH.out k hlt)
        have hnk := HMN.out k hlt
        have hpos := refRing_pos (X := X k) (Y := Y k) s2 sb
        have hrl := refRing_len (X k) (Y k) (K k) (n k)
        have hown2 := hRA2.inner k hlt
        have hgrl : gr < w1.heap.size := (HRA.out.outer.lt gr rfl).2
        unfold ringL at hown2
        clear sb hRA2
        have HSu := hide (allS_succ n X Y K k)
        obtain ⟨L2, hL2⟩ : ∃ L2, L2 = Num.refRing (X k) (Y k) (K k) (n k) := ⟨_, rfl⟩
        rw [← hL2] at HSu hpos hrl hown2
        clear hL2
        obtain ⟨L, hL⟩ : ∃ L, L = allS n X Y K k := ⟨_, rfl⟩
        rw [← hL] at hown hlen HSu
        clear hL
        obtain ⟨g2, cap2, hv2, hg2, hgl2⟩ := hown2.form hpos
        rw [hv2] at hown2 ci
        have HNews := hide (owns_news hown2)
        have HFl := hide (flat9_len L2)
        have HOne := hide (flat9_one L2)
        clear hown2 hv2
        obtain ⟨m2, hm2⟩ : ∃ m2, m2 = L2.length := ⟨_, rfl⟩
        obtain ⟨ys, hys⟩ : ∃ ys, ys = L2.flatMap sgC := ⟨_, rfl⟩
        obtain ⟨ln, hln⟩ : ∃ ln, ln = L.length := ⟨_, rfl⟩
        obtain ⟨xs, hxs⟩ : ∃ xs, xs = L.flatMap sgC := ⟨_, rfl⟩
        rw [← hln, ← hxs] at hown
        rw [← hln] at hlen
        rw [← hm2] at hpos hrl ci
        rw [← hys] at HNews HFl HOne
        rw [← hm2] at HFl
        have HM2 := hide hm2
        have HYS := hide hys
        have HLN := hide hln
        have HXS := hide hxs
        have hgrw : gr < wr.heap.size := by omega
        clear hm2 hys hln hxs
        go_wp2_with (at_builtin; refine wpList_append_lies _ rfl _ _ 102 rfl w1.heap.size 44 i0 (.agg #[.int .i64 0, .int .i64 0, .int .i64 0, .int .i64 0, .int .i64 0, .int .i64 0, .int .i64 0, .int .i64 0, .int .i64 0]) 9 72 Try.underlying102 hi0 hz0 hz1 hz2 rfl (by omega) v ln xs rfl hown ⟨g2, 0, none⟩ m2 cap2 ys rfl HFl.out HNews.out HOne.out (by omega) ?c3 ?c4 ?c5 wr.heap.size rfl ?_)
        case c3 => unfold maxLen; omega
        case c4 => omega
        case c5 => first | omega | (simp; omega)
        intro g cap w3 hown3 hgrow hat hlt3
        have hb3 : Below w1.heap.size w1 w3 := hb.grown hgrow (by omega) (fun q hq => (hown.lt q hq).1)
        have HO3 : Hid (w3.ownsRow w1.heap.size 44 9 (.slice (some ⟨g, 0, none⟩) (ln + m2) cap) (allS n X Y K (k + 1)).length ((allS n X Y K (k + 1)).flatMap sgC)) := by
          unfold Hid
          rw [HSu.out, List.length_append, List.flatMap_append, ← HLN.out, ← HM2.out, ← HXS.out, ← HYS.out]
          exact hown3
        clear hown3 hgrow hat hown hb ci
        go_wp2
        go_roundw
        case rel => exact ⟨k + 1, by omega, by go_num, hb3, HO3.out⟩
        case measure => simp [intOf]; omega
      · have e : k = N := by omega
        have HO9 := hide hown
        clear hown
        go_wp2
        go_ret2
        refine ⟨v, rfl, HB1.out.trans (hb.mono hs1), ?_⟩
        rw [HSV.out]
        have h := owns_mono9 (base' := w.heap.size) HO9.out hs1
        rw [e] at h
        exact h
  · rw [if_neg h0] at hSV
    have HSV := hide hSV
    clear hSV
    obtain ⟨v0, v1, v2⟩ := V0
    have hb0 : (v0 != 0) = true := by simpa using h0
    clear h0 HRN
    go_enter Try.func89, Try.ntmps89
    go_wp2_with fail
    refine (outRings_any _ _ _ A C n X Y K _ hN HN.out HO.out).mono ?_
    rw [← HV.out]
    rintro e w1 ⟨vr, VR, rfl, hb1, _⟩
    go_wp2
    go_ret2
    refine ⟨_, rfl, hb1, ?_⟩
    rw [HSV.out]
    exact World.ownsRow_nil _ _ _ _

set_option maxHeartbeats 400000 in
theorem glyphSegments_any (a : Option Addr) (N c : Nat) (A : Nat → Option Addr) (C n : Nat → Nat) (X Y K : Nat → Nat → Int) (w : World) (hN : N ≤ 4294967296) (hn : ∀ i, i < N → n i ≤ 4294967296) (ho : OutAt w a N A C n X Y K) :
    Calls Try.prog 50 #[.slice a N c] w fun e w' => ∃ v, e = .returned (.tuple #[v, .int .i64 (Num.chkV N n X Y K).1]) ∧ Below w.heap.size w w' ∧ w'.ownsRow w.heap.size 44 9 v (segsV N n X Y K).length ((segsV N n X Y K).flatMap sgC) := by
  have HN := hide hn
  have HO := hide ho
  clear hn ho
  go_enter Try.func50, Try.ntmps50
  go_wp2_with fail
  refine (outSegments_any _ _ _ A C n X Y K _ hN HN.out HO.out).mono ?_
  rintro e w1 ⟨v, rfl, hb, hown⟩
  have HW := hide hown
  clear hown
  go_wp2
  go_ret2
  exact ⟨v, rfl, hb, HW.out⟩
end Go.Proofs.Ytkhcjkmifddlbaa
