/- Segments: the document's. -/
import Derived.Test.YtkhcjkmifddlbaaSegP
import Derived.Test.YtkhcjkmifddlbaaRefChkB
namespace Go.Proofs.Ytkhcjkmifddlbaa
open Go.RowKit Go.Deep

theorem flat9 : ∀ (l : List Num.Sg) (i q : Nat) (hi : i < l.length), q < 9 → (l.flatMap sgC)[i * 9 + q]? = (sgC l[i])[q]? := by
  intro l
  induction l with
  | nil => intro i q hi; simp at hi
  | cons x r ih =>
    intro i q hi hq
    rw [List.flatMap_cons]
    have h2 : (sgC x).length = 9 := rfl
    cases i with
    | zero =>
      simp only [Nat.zero_mul, Nat.zero_add, List.getElem_cons_zero]
      rw [List.getElem?_append_left (by omega)]
    | succ j =>
      have := ih j q (by simpa using hi) hq
      simp only [List.getElem_cons_succ]
      rw [List.getElem?_append_right (by omega), h2, show (j + 1) * 9 + q - 9 = j * 9 + q by omega]
      exact this

theorem owns_seg {w : World} {base b cap : Nat} {t : TypeId} {l : List Num.Sg} (h : w.ownsRow base t 9 (.slice (some ⟨b, 0, none⟩) l.length cap) l.length (l.flatMap sgC)) (i : Nat) (hi : i < l.length) :
    w.cell? ⟨b, i * 9, none⟩ = some (.int .i64 l[i].k) ∧ w.cell? ⟨b, i * 9 + 1, none⟩ = some (.int .i64 l[i].x0) ∧ w.cell? ⟨b, i * 9 + 2, none⟩ = some (.int .i64 l[i].y0) ∧ w.cell? ⟨b, i * 9 + 3, none⟩ = some (.int .i64 l[i].x1) ∧ w.cell? ⟨b, i * 9 + 4, none⟩ = some (.int .i64 l[i].y1) ∧ w.cell? ⟨b, i * 9 + 5, none⟩ = some (.int .i64 l[i].x2) ∧ w.cell? ⟨b, i * 9 + 6, none⟩ = some (.int .i64 l[i].y2) ∧ w.cell? ⟨b, i * 9 + 7, none⟩ = some (.int .i64 l[i].x3) ∧ w.cell? ⟨b, i * 9 + 8, none⟩ = some (.int .i64 l[i].y3) := by
  have e : ∀ q, q < 9 → w.cell? ⟨b, i * 9 + q, none⟩ = (sgC l[i])[q]? := fun q hq => by
    rw [h.cellAt (i * 9 + q) (by omega)]; exact flat9 l i q hi hq
  exact ⟨e 0 (by omega), e 1 (by omega), e 2 (by omega), e 3 (by omega), e 4 (by omega), e 5 (by omega), e 6 (by omega), e 7 (by omega), e 8 (by omega)⟩

set_option maxRecDepth 100000 in
set_option maxHeartbeats 2000000 in
theorem refSegments_any (a : Option Addr) (N c : Nat) (A : Nat → Option Addr) (C n : Nat → Nat) (X Y K : Nat → Nat → Int) (w : World) (hN : N ≤ 4294967296) (hn : ∀ i, i < N → n i ≤ 4294967296) (hS : Num.sumN n N ≤ 1099511627776) (ho : OutAt w a N A C n X Y K) :
    Calls Try.prog 51 #[.slice a N c] w fun e w' => ∃ v, e = .returned (.tuple #[v, .int .i64 (Num.chkV N n X Y K).1]) ∧ Below w.heap.size w w' ∧ w'.ownsRow w.heap.size 44 9 v (segsV N n X Y K).length ((segsV N n X Y K).flatMap sgC) := by
  have HO := hide ho
  have HN := hide hn
  have hcs := Num.chk_cases N n X Y K
  obtain ⟨V, hV⟩ : ∃ V, V = Num.chkV N n X Y K := ⟨_, rfl⟩
  have hSV : segsV N n X Y K = if V.1 = 0 then allS n X Y K N else [] := by unfold segsV; rw [hV]
  rw [← hV] at hcs ⊢
  obtain ⟨T, hT⟩ : ∃ T, T = segsV N n X Y K := ⟨_, rfl⟩
  rw [← hT] at hSV ⊢
  have HV := hide hV
  clear ho hn hV hT
  rcases hcs with ⟨h0, hm, hsh, hfa⟩ | h0
  · rw [if_pos h0] at hSV
    obtain ⟨m16, m200, mn⟩ := ok_many hm
    have HSV := hide hSV
    have HSH := hide hsh
    have HFA := hide hfa
    have HMN := hide mn
    clear hSV hsh hfa mn hm
    obtain ⟨v0, v1, v2⟩ := V
    have h0 : v0 = 0 := h0
    subst h0
    obtain ⟨i0, hi0, hz0, hz1, hz2⟩ := info_parts info_seg
    go_enter Try.func51, Try.ntmps51
    go_wp2_with fail
    refine (refCheck_any _ _ _ A C n X Y K _ hN HN.out hS HO.out).mono ?_
    rw [← HV.out]
    rintro e w1 ⟨rfl, hb1⟩
    have hs1 := hb1.size
    go_wp2_with fail
    go_loopw [7, 8] (fun v t wr => ∃ k : Nat, k ≤ N ∧ t = .int .i64 k ∧ Below w.heap.size w wr ∧ wr.ownsRow w.heap.size 44 9 v (allS n X Y K k).length ((allS n X Y K k).flatMap sgC)) (fun _ t _ => N - (intOf t).toNat)
    case atStart => exact ⟨0, by omega, rfl, hb1, World.ownsRow_nil _ _ _ _⟩
    case round =>
      obtain ⟨v, rfl⟩ : ∃ v, v = u7 := ⟨_, rfl⟩
      obtain ⟨wo, rfl⟩ : ∃ wo, wo = wr := ⟨wr, rfl⟩
      obtain ⟨k, hk, rfl, hb, hown⟩ := hrel
      have hsz := hb.size
      have hlen := allS_len n X Y K k
      have hmon := Num.sumN_mono n hk
      by_cases hlt : k < N
      · have hd1 : decide ((k : Int) < (N : Int)) = true := by simp; omega
        have HO2 := hide (HO.out.below hb)
        rcases HO2.out.1 with h | ⟨b, off, rfl, hc⟩
        · omega
        have ci := hc k hlt
        clear hc
        obtain ⟨s2, sb⟩ := ok_shape (HSH.out k hlt)
        obtain ⟨fX, fY⟩ := ok_far (HFA.out k hlt)
        have hnk := HMN.out k hlt
        have hpos := refRing_pos (X := X k) (Y := Y k) s2 sb
        have hrl := refRing_len (X k) (Y k) (K k) (n k)
        have HC := hide (refRing_any (A k) (n k) (C k) (X k) (Y k) (K k) wo (by omega) (by omega) fX fY (HO2.out.2 k hlt))
        clear sb fX fY
        have HSu := hide (allS_succ n X Y K k)
        obtain ⟨L2, hL2⟩ : ∃ L2, L2 = Num.refRing (X k) (Y k) (K k) (n k) := ⟨_, rfl⟩
        rw [← hL2] at HC HSu hpos hrl
        clear hL2
        obtain ⟨L, hL⟩ : ∃ L, L = allS n X Y K k := ⟨_, rfl⟩
        rw [← hL] at hown hlen HSu
        clear hL
        go_wp2_with fail
        refine HC.out.mono ?_
        rintro e w2 ⟨v2, rfl, hb2, hown2⟩
        have hs2 := hb2.size
        have hownA := owns_of_block hown (fun b hbb => hb2.block b (hown.lt b hbb).2)
        have hAlt : ∀ b, v.ownBlock = some b → b < wo.heap.size := fun b hbb => (hown.lt b hbb).2
        have hbw : Below w.heap.size w w2 := hb.trans (hb2.mono hsz)
        clear hb hb2 hown HC
        obtain ⟨g2, cap2, rfl, hg2, hgl2⟩ := hown2.form hpos
        have HW2 := hide hown2
        have HA := hide hownA
        have HAl := hide hAlt
        clear hown2 hownA hAlt
        obtain ⟨m2, hm2⟩ : ∃ m2, m2 = L2.length := ⟨_, rfl⟩
        rw [← hm2] at hpos hrl ⊢
        have HM2 := hide hm2
        clear hm2
        go_wp2_with fail
        go_loopw [7, 10] (fun v t wr => ∃ j : Nat, j ≤ m2 ∧ t = .int .i64 j ∧ w2.heap.size ≤ wr.heap.size ∧ Below w.heap.size w wr ∧ wr.ownsRow w.heap.size 44 9 v (L ++ L2.take j).length ((L ++ L2.take j).flatMap sgC) ∧ (v.ownBlock ≠ some g2) ∧ wr.heap[g2]? = w2.heap[g2]?) (fun _ t _ => m2 - (intOf t).toNat)
        case atStart =>
          refine ⟨0, by omega, rfl, Nat.le_refl _, hbw, by simpa using HA.out, fun e => ?_, rfl⟩
          have := HAl.out g2 e
          omega
        case round =>
          obtain ⟨va, rfl⟩ : ∃ va, va = u7 := ⟨_, rfl⟩
          obtain ⟨j, hj, rfl, hsj, hbj, hownj, hnej, hblk⟩ := hrel
          by_cases hltj : j < m2
          · have hd2 : decide ((j : Int) < (m2 : Int)) = true := by simp; omega
            have hjl : j < L2.length := by rw [← HM2.out]; exact hltj
            have hw2j := owns_of_block (w' := wr) HW2.out (fun b hbb => by simp [Value.ownBlock] at hbb; subst hbb; exact hblk)
            obtain ⟨q0, q1, q2, q3, q4, q5, q6, q7, q8⟩ := owns_seg hw2j j hjl
            have htk : L2.take (j + 1) = L2.take j ++ [L2[j]] := by rw [List.take_succ_eq_append_getElem hjl]
            obtain ⟨S, hS9⟩ : ∃ S, S = L2[j] := ⟨_, rfl⟩
            rw [← hS9] at q0 q1 q2 q3 q4 q5 q6 q7 q8 htk
            have HTK := hide htk
            have hl3 : (L ++ L2.take j).length ≤ 2 * 200 + 2 * 200 := by simp; omega
            obtain ⟨ln, hln⟩ : ∃ ln, ln = (L ++ L2.take j).length := ⟨_, rfl⟩
            obtain ⟨xs, hxs⟩ : ∃ xs, xs = (L ++ L2.take j).flatMap sgC := ⟨_, rfl⟩
            rw [← hln, ← hxs] at hownj
            rw [← hln] at hl3
            have HLN := hide hln
            have HXS := hide hxs
            have HNe := hide hnej
            have HBk := hide hblk
            clear hw2j htk hS9 hln hxs hnej hblk
            have g0 : (0 : Int) ≤ (j : Int) := by omega
            go_wp2_with (at_builtin; refine wpList_append_lies _ rfl _ _ 102 rfl w.heap.size 44 i0 (.agg #[.int .i64 0, .int .i64 0, .int .i64 0, .int .i64 0, .int .i64 0, .int .i64 0, .int .i64 0, .int .i64 0, .int .i64 0]) 9 72 Try.underlying102 hi0 hz0 hz1 hz2 rfl (by omega) va ln xs rfl (hownj.alloc _) ⟨wr.heap.size, 0, none⟩ 1 1 [.int .i64 S.k, .int .i64 S.x0, .int .i64 S.y0, .int .i64 S.x1, .int .i64 S.y1, .int .i64 S.x2, .int .i64 S.y2, .int .i64 S.x3, .int .i64 S.y3] rfl rfl ?c1 ?c2 (by omega) ?c3 ?c4 ?c5 (wr.heap.size + 1) (by simp) ?_)
            case c1 => exact news_new wr (sgC S) _ _ (by simp)
            case c2 => exact one_sg S
            case c3 => unfold maxLen; omega
            case c4 => omega
            case c5 => first | omega | (simp; omega)
            intro g cap w3 hown3 hgrow hat hlt3
            have hbs := hbj.size
            have hb3 : Below w.heap.size w w3 := (hbj.alloc (by omega) _).grown hgrow (by simp; omega) (fun q hq => (hownj.lt q hq).1)
            have HO3 : Hid (w3.ownsRow w.heap.size 44 9 (.slice (some ⟨g, 0, none⟩) (ln + 1) cap) (L ++ L2.take (j + 1)).length ((L ++ L2.take (j + 1)).flatMap sgC)) := by
              unfold Hid
              rw [HTK.out, ← List.append_assoc]
              exact push_sg (by rw [← HXS.out]; exact hown3) (by rw [HLN.out])
            have HNe2 : Hid ((Value.slice (some ⟨g, 0, none⟩) (ln + 1) cap).ownBlock ≠ some g2) := by
              unfold Hid
              intro e
              simp [Value.ownBlock] at e
              rcases hat with hat | hat
              · exact HNe.out (by rw [hat, e])
              · omega
            have HBk2 : Hid (w3.heap[g2]? = w2.heap[g2]?) := by
              unfold Hid
              rw [hgrow.block g2 (by rw [nblk_alloc]; omega) (fun e => HNe.out e.symm), blk_alloc_lt _ _ _ (by omega)]
              exact HBk.out
            have hs3 : w2.heap.size ≤ w3.heap.size := by have := hgrow.size; rw [nblk_alloc] at this; omega
            clear hown3 hgrow hat hownj hbj q0 q1 q2 q3 q4 q5 q6 q7 q8
            go_wp2
            go_roundw
            case rel => exact ⟨j + 1, by omega, by go_num, hs3, hb3, HO3.out, HNe2.out, HBk2.out⟩
            case measure => simp [intOf]; omega
          · have e : j = m2 := by omega
            have HO4 : Hid (wr.ownsRow w.heap.size 44 9 va (allS n X Y K (k + 1)).length ((allS n X Y K (k + 1)).flatMap sgC)) := by
              unfold Hid
              rw [HSu.out]
              rw [e, HM2.out, List.take_length] at hownj
              exact hownj
            have hd3 : decide ((j : Int) < (m2 : Int)) = false := by simp; omega
            clear hownj hnej hblk
            go_wp2
            go_roundw
            case rel => exact ⟨k + 1, by omega, by go_num, hbj, HO4.out⟩
            case measure => simp [intOf]; omega
      · have e : k = N := by omega
        have hd0 : decide ((k : Int) < (N : Int)) = false := by simp; omega
        have HO9 := hide hown
        clear hown
        go_wp2
        go_ret2
        refine ⟨v, rfl, hb, ?_⟩
        rw [HSV.out]
        have h := HO9.out
        rw [e] at h
        exact h
  · rw [if_neg h0] at hSV
    have HSV := hide hSV
    clear hSV
    obtain ⟨v0, v1, v2⟩ := V
    have hb0 : (v0 != 0) = true := by simpa using h0
    clear h0
    go_enter Try.func51, Try.ntmps51
    go_wp2_with fail
    refine (refCheck_any _ _ _ A C n X Y K _ hN HN.out hS HO.out).mono ?_
    rw [← HV.out]
    rintro e w1 ⟨rfl, hb1⟩
    go_wp2
    go_ret2
    refine ⟨_, rfl, hb1, ?_⟩
    rw [HSV.out]
    exact World.ownsRow_nil _ _ _ _
end Go.Proofs.Ytkhcjkmifddlbaa
