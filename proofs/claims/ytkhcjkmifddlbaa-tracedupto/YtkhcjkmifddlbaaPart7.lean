/- Joined: TrcR, HeldT, HeldR, HeldQ, LentB. -/
import Derived.Test.YtkhcjkmifddlbaaPart5
import Derived.Test.YtkhcjkmifddlbaaPart6
import Derived.Test.YtkhcjkmifddlbaaPart2
import Derived.Test.YtkhcjkmifddlbaaPart4
import Derived.Test.YtkhcjkmifddlbaaPart3
/- TrcR -/
namespace Go.Proofs.Ytkhcjkmifddlbaa
open Go.RowKit Go.Deep

theorem below_of_drew {w w' : World} (h : Below w.drew.heap.size w.drew w') : Below w.heap.size w w' := ⟨h.os, h.tape, h.output, h.size, h.block⟩
theorem set_otherR {w2 : World} {h q : Nat} {v : Value} {b : Nat} (hb : b ≠ h) : (w2.setCell ⟨h, q, none⟩ v).heap[b]? = w2.heap[b]? := blk_setCell_other _ _ _ _ (by simpa using hb)
/-- A segment of a list, and a map. -/
def P15 (w' : World) (g2 j mb : Nat) (S : Num.Sg) (a b c d x y : Int) : Prop := w'.cell? ⟨g2, j * 9, none⟩ = some (.int .i64 S.k) ∧ w'.cell? ⟨g2, j * 9 + 1, none⟩ = some (.int .i64 S.x0) ∧ w'.cell? ⟨g2, j * 9 + 2, none⟩ = some (.int .i64 S.y0) ∧ w'.cell? ⟨g2, j * 9 + 3, none⟩ = some (.int .i64 S.x1) ∧ w'.cell? ⟨g2, j * 9 + 4, none⟩ = some (.int .i64 S.y1) ∧ w'.cell? ⟨g2, j * 9 + 5, none⟩ = some (.int .i64 S.x2) ∧ w'.cell? ⟨g2, j * 9 + 6, none⟩ = some (.int .i64 S.y2) ∧ w'.cell? ⟨g2, j * 9 + 7, none⟩ = some (.int .i64 S.x3) ∧ w'.cell? ⟨g2, j * 9 + 8, none⟩ = some (.int .i64 S.y3) ∧ w'.cell? ⟨mb, 0, none⟩ = some (.int .i64 a) ∧ w'.cell? ⟨mb, 1, none⟩ = some (.int .i64 b) ∧ w'.cell? ⟨mb, 2, none⟩ = some (.int .i64 c) ∧ w'.cell? ⟨mb, 3, none⟩ = some (.int .i64 d) ∧ w'.cell? ⟨mb, 4, none⟩ = some (.int .i64 x) ∧ w'.cell? ⟨mb, 5, none⟩ = some (.int .i64 y)
theorem P15.below {w w' : World} {g2 j mb : Nat} {S : Num.Sg} {a b c d x y : Int} (h : P15 w g2 j mb S a b c d x y) (hb : Below w.heap.size w w') (h1 : g2 < w.heap.size) (h2 : mb < w.heap.size) : P15 w' g2 j mb S a b c d x y := by
  obtain ⟨c0, c1, c2, c3, c4, c5, c6, c7, c8, d0, d1, d2, d3, d4, d5⟩ := h
  have e1 : ∀ o v, w.cell? ⟨g2, o, none⟩ = some v → w'.cell? ⟨g2, o, none⟩ = some v := fun o v h => (hb.cell (p := ⟨g2, o, none⟩) h1).trans h
  have e2 : ∀ o v, w.cell? ⟨mb, o, none⟩ = some v → w'.cell? ⟨mb, o, none⟩ = some v := fun o v h => (hb.cell (p := ⟨mb, o, none⟩) h2).trans h
  exact ⟨e1 _ _ c0, e1 _ _ c1, e1 _ _ c2, e1 _ _ c3, e1 _ _ c4, e1 _ _ c5, e1 _ _ c6, e1 _ _ c7, e1 _ _ c8, e2 _ _ d0, e2 _ _ d1, e2 _ _ d2, e2 _ _ d3, e2 _ _ d4, e2 _ _ d5⟩
theorem P15.of_blocks {w w' : World} {g2 j mb X : Nat} {S : Num.Sg} {a b c d x y : Int} (h : P15 w g2 j mb S a b c d x y) (e : ∀ p, p ≠ X → w'.heap[p]? = w.heap[p]?) (h1 : g2 ≠ X) (h2 : mb ≠ X) : P15 w' g2 j mb S a b c d x y := by
  have c1 : ∀ p o v, p ≠ X → w.cell? ⟨p, o, none⟩ = some v → w'.cell? ⟨p, o, none⟩ = some v := fun p o v hp h => by
    rw [← h]
    unfold World.cell?
    rw [e p hp]
  obtain ⟨c0, c1', c2, c3, c4, c5, c6, c7, c8, d0, d1, d2, d3, d4, d5⟩ := h
  exact ⟨c1 _ _ _ h1 c0, c1 _ _ _ h1 c1', c1 _ _ _ h1 c2, c1 _ _ _ h1 c3, c1 _ _ _ h1 c4, c1 _ _ _ h1 c5, c1 _ _ _ h1 c6, c1 _ _ _ h1 c7, c1 _ _ _ h1 c8, c1 _ _ _ h2 d0, c1 _ _ _ h2 d1, c1 _ _ _ h2 d2, c1 _ _ _ h2 d3, c1 _ _ _ h2 d4, c1 _ _ _ h2 d5⟩
theorem drew_blk (w : World) (p : Nat) : w.drew.heap[p]? = w.heap[p]? := rfl
theorem P15.set9 {w : World} {g2 j mb X : Nat} {S : Num.Sg} {a b c d x y : Int} {u0 u1 u2 u3 u4 u5 u6 u7 u8 : Value} (h : P15 w g2 j mb S a b c d x y) (h1 : g2 ≠ X) (h2 : mb ≠ X) : P15 (((((((((w.setCell ⟨X, 0, none⟩ u0).setCell ⟨X, 1, none⟩ u1).setCell ⟨X, 2, none⟩ u2).setCell ⟨X, 3, none⟩ u3).setCell ⟨X, 4, none⟩ u4).setCell ⟨X, 5, none⟩ u5).setCell ⟨X, 6, none⟩ u6).setCell ⟨X, 7, none⟩ u7).setCell ⟨X, 8, none⟩ u8).drew g2 j mb S a b c d x y :=
  h.of_blocks (X := X) (fun p hp => by rw [drew_blk, set_otherR hp, set_otherR hp, set_otherR hp, set_otherR hp, set_otherR hp, set_otherR hp, set_otherR hp, set_otherR hp, set_otherR hp]) h1 h2
theorem cD (w : World) (p : Addr) : w.drew.cell? p = w.cell? p := rfl
theorem cA {w : World} {b : Nat} (h : b < w.heap.size) (o' : Obj) (o : Nat) : (w.alloc o').cell? ⟨b, o, none⟩ = w.cell? ⟨b, o, none⟩ := by
  have e : Below w.heap.size w (w.alloc o') := (Below.refl _ _).alloc (Nat.le_refl _) _
  exact e.cell (p := ⟨b, o, none⟩) h
theorem cS {b X : Nat} (h : b ≠ X) (w : World) (q : Nat) (u : Value) (o : Nat) : (w.setCell ⟨X, q, none⟩ u).cell? ⟨b, o, none⟩ = w.cell? ⟨b, o, none⟩ := by
  unfold World.cell?
  rw [show (w.setCell ⟨X, q, none⟩ u).heap[b]? = w.heap[b]? from set_otherR h]
theorem keep_al {w : World} {o1 : Obj} {b o : Nat} {v : Value} (hb : b < w.heap.size) (h : w.cell? ⟨b, o, none⟩ = some v) : (w.alloc o1).cell? ⟨b, o, none⟩ = some v := by
  have e : Below w.heap.size w (w.alloc o1) := (Below.refl _ _).alloc (Nat.le_refl _) _
  exact (e.cell (p := ⟨b, o, none⟩) hb).trans h
theorem keep_ald {w : World} {o1 : Obj} {b o : Nat} {v : Value} (hb : b < w.heap.size) (h : w.cell? ⟨b, o, none⟩ = some v) : (w.alloc o1).drew.cell? ⟨b, o, none⟩ = some v := keep_al hb h

set_option maxRecDepth 100000 in
set_option maxHeartbeats 4000000 in
theorem refTrace_any (ad : Option Addr) (N cc : Nat) (A : Nat → Option Addr) (C n : Nat → Nat) (X Y K : Nat → Nat → Int) (a b c d x y : Int) (w : World) (hN : N ≤ 4294967296) (hn : ∀ i, i < N → n i ≤ 4294967296) (hS : Num.sumN n N ≤ 1099511627776) (ho : OutAt w ad N A C n X Y K) :
    Calls Try.prog 64 #[.slice ad N cc, .agg #[.int .i64 a, .int .i64 b, .int .i64 c, .int .i64 d, .int .i64 x, .int .i64 y]] w fun e w' => ∃ v V, e = .returned (.tuple #[v, .int .i64 (traceE N n X Y K ⟨a, b, c, d, x, y⟩)]) ∧ Below w.heap.size w w' ∧ SpRings w' w.heap.size v (traceN N n X Y K ⟨a, b, c, d, x, y⟩) V (traceL n X Y K ⟨a, b, c, d, x, y⟩) := by
  obtain ⟨M, hM⟩ : ∃ M : Num.Mp, M = ⟨a, b, c, d, x, y⟩ := ⟨_, rfl⟩
  rw [← hM]
  have hFM : Num.fairB M.a M.b M.c M.d M.x M.y = Num.fairB a b c d x y := by rw [hM]
  have HPl := hide (fun (g : Num.Sg) (w : World) => put_any g.k g.x0 g.y0 g.x1 g.y1 g.x2 g.y2 g.x3 g.y3 a b c d x y w)
  rw [← hM] at HPl
  have hcs := Num.chk_cases N n X Y K
  obtain ⟨TE, hTE⟩ : ∃ TE, TE = traceE N n X Y K M := ⟨_, rfl⟩
  obtain ⟨TN, hTN⟩ : ∃ TN, TN = traceN N n X Y K M := ⟨_, rfl⟩
  have hTN2 : TN = if TE = 0 then N else 0 := by rw [hTN, hTE]; rfl
  rw [← hTE, ← hTN]
  unfold traceE at hTE
  rw [hFM] at hTE
  obtain ⟨V0, hV⟩ : ∃ V, V = Num.chkV N n X Y K := ⟨_, rfl⟩
  rw [← hV] at hcs hTE
  have HV := hide hV
  have HO := hide (ho.below ((Below.refl w.heap.size w).alloc (Nat.le_refl _) (.cells #[.int .i64 a, .int .i64 b, .int .i64 c, .int .i64 d, .int .i64 x, .int .i64 y] 39)))
  have HN := hide hn
  have HMr := hide (mp6_row a b c d x y w 39)
  clear hV hTN ho hn hM hFM
  rcases hcs with ⟨h0, hm, hsh, hfa⟩ | h0
  · rw [if_pos h0] at hTE
    obtain ⟨m16, m200, mn⟩ := ok_many hm
    have HSH := hide hsh
    have HFA := hide hfa
    have HMN := hide mn
    clear hsh hfa mn hm
    obtain ⟨v0, v1, v2⟩ := V0
    have h0 : v0 = 0 := h0
    subst h0
    cases hF : Num.fairB a b c d x y
    · rw [if_pos hF] at hTE
      subst hTE
      have hTN3 : TN = 0 := by rw [hTN2]; rfl
      subst hTN3
      clear hTN2
      go_enter Try.func64, Try.ntmps64
      go_wp2_with fail
      refine (refCheck_any _ _ _ A C n X Y K _ hN HN.out hS HO.out).mono ?_
      rw [← HV.out]
      rintro e w1 ⟨rfl, hb1⟩
      have hMr1 := row_below HMr.out hb1 HMr.out.lt
      obtain ⟨d0, d1, d2, d3, d4, d5⟩ := mp6_cells hMr1
      have hz1 := hMr1.lt
      have HB1 : Hid (Below w.heap.size w w1) := Below.trans (by (repeat (any_goals (first | exact Below.refl _ _ | assumption | refine Below.drew ?_ | refine below_drewN ?_ _ | refine Below.setCell ?_ ?_ _ | refine Below.alloc ?_ ?_ _ | omega | (simp; done) | (simp; omega))))) (hb1.mono (by simp))
      clear hb1 hMr1
      go_wp2_with fail
      refine (refFair_any _ _ _ _ _ _ _).mono ?_
      rw [hF]
      rintro e w2 ⟨rfl, hb2⟩
      have HB2 := hide (HB1.out.trans (hb2.mono (by omega)))
      clear hb2 d0 d1 d2 d3 d4 d5 hF
      go_wp2
      go_ret2
      exact ⟨_, fun _ => .slice none 0 0, rfl, HB2.out, SpRings.nil _ _ _ _⟩
    · rw [if_neg (by rw [hF]; decide)] at hTE
      have HNo : Hid (traceOk N n X Y K M = false → TE = 6 ∧ TN = 0) := fun h => by
        rw [if_pos h] at hTE; rw [hTN2, hTE]; exact ⟨rfl, rfl⟩
      have HYe : Hid (traceOk N n X Y K M = true → TE = 0 ∧ TN = N) := fun h => by
        rw [if_neg (by rw [h]; decide)] at hTE; rw [hTN2, hTE]; exact ⟨rfl, rfl⟩
      obtain ⟨i0, hi0, hz0, hz1, hz2⟩ := info_parts info_sps
      obtain ⟨j0, hj0, hy0, hy1, hy2⟩ := info_parts info_spot
      clear hTE hTN2
      go_enter Try.func64, Try.ntmps64
      go_wp2_with fail
      refine (refCheck_any _ _ _ A C n X Y K _ hN HN.out hS HO.out).mono ?_
      rw [← HV.out]
      rintro e w1 ⟨rfl, hb1⟩
      have hMr1 := row_below HMr.out hb1 HMr.out.lt
      obtain ⟨d0, d1, d2, d3, d4, d5⟩ := mp6_cells hMr1
      have hz1' := hMr1.lt
      have HMr1 := hide hMr1
      have HB1 : Hid (Below w.heap.size w w1) := Below.trans (by (repeat (any_goals (first | exact Below.refl _ _ | assumption | refine Below.drew ?_ | refine below_drewN ?_ _ | refine Below.setCell ?_ ?_ _ | refine Below.alloc ?_ ?_ _ | omega | (simp; done) | (simp; omega))))) (hb1.mono (by simp))
      have HO1 := hide (HO.out.below hb1)
      clear hb1 hMr1
      go_wp2_with fail
      refine (refFair_any _ _ _ _ _ _ _).mono ?_
      rw [hF]
      rintro e w2 ⟨rfl, hb2⟩
      have hs2 := hb2.size
      have HB2 := hide (HB1.out.trans (hb2.mono (by omega)))
      have HO2 := hide (HO1.out.below hb2)
      have HMr2 := hide (row_below HMr1.out hb2 hz1')
      have hz2' := HMr2.out.lt
      clear hb2 d0 d1 d2 d3 d4 d5 hF
      go_wp2_with fail
      go_loopw [10, 11] (fun v t wr => ∃ (k : Nat) (V : Nat → Value), k ≤ N ∧ t = .int .i64 k ∧ Below w2.heap.size w2 wr ∧ (∀ i, i < k → Num.ringOk M (ringL n X Y K i) = true) ∧ SpRings wr w2.heap.size v k V (traceL n X Y K M)) (fun _ t _ => N - (intOf t).toNat)
      case atStart => exact ⟨0, fun _ => .slice none 0 0, by omega, rfl, Below.refl _ _, fun i hi => by omega, SpRings.nil _ _ _ _⟩
      case round =>
        obtain ⟨vout, rfl⟩ : ∃ v, v = u10 := ⟨_, rfl⟩
        obtain ⟨wo, rfl⟩ : ∃ wo, wo = wr := ⟨wr, rfl⟩
        obtain ⟨k, V, hk, rfl, hb, hok, hSR⟩ := hrel
        have hsz := hb.size
        by_cases hlt : k < N
        · have hdk : decide ((k : Int) < (N : Int)) = true := by simp; omega
          have HOo := hide (HO2.out.below hb)
          rcases HOo.out.1 with h | ⟨bo, off, rfl, hc⟩
          · omega
          have ci := hc k hlt
          clear hc
          obtain ⟨s2, sb⟩ := ok_shape (HSH.out k hlt)
          obtain ⟨fX, fY⟩ := ok_far (HFA.out k hlt)
          have hnk := HMN.out k hlt
          have hrl : (ringL n X Y K k).length ≤ 4000 := by have := refRing_len (X k) (Y k) (K k) (n k); unfold ringL; omega
          have HKd := hide (ringL_kd (X := X) (Y := Y) s2 sb)
          have HC := hide (refRing_any (A k) (n k) (C k) (X k) (Y k) (K k) wo (by omega) (by omega) fX fY (HOo.out.2 k hlt))
          have HSR := hide hSR
          have HOk := hide hok
          have HB := hide hb
          have hk0 : (0 : Int) ≤ (k : Int) := by omega
          have hk1 : (k : Int) < (N : Int) := by omega
          clear sb fX fY hSR hok hb
          go_wp2_with fail
          refine HC.out.mono ?_
          rintro e w3 ⟨vl, rfl, hb3, hownL⟩
          have hs3 := hb3.size
          have HB3 := hide (HB.out.trans (hb3.mono hsz))
          have HSR3 := hide (HSR.out.below hb3)
          have HMr3 := hide (row_below HMr2.out HB3.out hz2')
          have hz3' := HMr3.out.lt
          obtain ⟨L, hL⟩ : ∃ L, L = ringL n X Y K k := ⟨_, rfl⟩
          have hownL2 : w3.ownsRow wo.heap.size 44 9 vl L.length (L.flatMap sgC) := by rw [hL]; exact hownL
          rw [← hL] at hrl HKd
          have HLe := hide hL
          have HOkN : Hid (Num.ringOk M L = false → TE = 6 ∧ TN = 0) := fun h => HNo.out (traceOk_no hlt (by rw [← hL]; exact h))
          obtain ⟨al, cl, rfl, hal⟩ := owns_formN hownL2
          have HOL := hide hownL2
          have HAl := hide hal
          have hbl : ∀ g2, al = some ⟨g2, 0, none⟩ → g2 < w3.heap.size := fun g2 e => (hownL2.lt g2 (by rw [e]; rfl)).2
          have HBl := hide hbl
          obtain ⟨nl, hnl⟩ : ∃ nl, nl = L.length := ⟨_, rfl⟩
          rw [← hnl] at hrl ⊢
          have HNl := hide hnl
          clear hb3 hownL ci hL hal hownL2 hbl hnl HC
          go_wp2_with fail
          go_loopw [12, 14] (fun v t wr => ∃ j : Nat, j ≤ nl ∧ t = .int .i64 j ∧ Below w3.heap.size w3 wr ∧ (∀ i (hi : i < L.length), i < j → Num.putOk M L[i] = true) ∧ wr.ownsRow w3.heap.size 41 2 v (Num.ringSp M (L.take j)).length ((Num.ringSp M (L.take j)).flatMap spC)) (fun _ t _ => nl - (intOf t).toNat)
          case atStart => exact ⟨0, by omega, rfl, Below.refl _ _, fun i hi h => by omega, by simpa [Num.ringSp] using World.ownsRow_nil _ _ _ _⟩
          case round =>
            obtain ⟨vo, rfl⟩ : ∃ vo, vo = u12 := ⟨_, rfl⟩
            obtain ⟨wp, rfl⟩ : ∃ wp, wp = wr := ⟨wr, rfl⟩
            obtain ⟨j, hj, rfl, hB, hokj, hown⟩ := hrel
            have hsB := hB.size
            by_cases hltj : j < nl
            · have hdj : decide ((j : Int) < (nl : Int)) = true := by simp; omega
              have hjl : j < L.length := by rw [← HNl.out]; exact hltj
              obtain ⟨g2, rfl⟩ := HAl.out (by rw [← HNl.out]; omega)
              have hg2 := HBl.out g2 rfl
              have hO2 := owns_of_block (w' := wp) HOL.out (fun q hq => by simp [Value.ownBlock] at hq; subst hq; exact hB.block _ hg2)
              obtain ⟨c0, c1, c2, c3, c4, c5, c6, c7, c8⟩ := owns_seg9 hO2 j hjl
              have HSu := hide (ringSp_take (m := M) hjl)
              have HKj := hide (HKd.out _ (List.getElem_mem hjl))
              have HOkN2 := hide (fun h => HOkN.out (Num.ringOk_no (m := M) hjl h))
              have hlen := Num.ringSp_le M (L.take j)
              have hlt2 : (L.take j).length ≤ 4000 := by rw [List.length_take]; omega
              have HStep : Hid (Num.putOk M L[j] = true → ∀ i (hi : i < L.length), i < j + 1 → Num.putOk M L[i] = true) := fun h i hi hij => by
                rcases (show i < j ∨ i = j by omega) with h1 | h1
                · exact hokj i hi h1
                · subst h1; exact h
              obtain ⟨S, hS9⟩ : ∃ S, S = L[j] := ⟨_, rfl⟩
              rw [← hS9] at c0 c1 c2 c3 c4 c5 c6 c7 c8 HSu HKj HOkN2 HStep
              have hMrp := row_below HMr3.out hB hz3'
              obtain ⟨d0, d1, d2, d3, d4, d5⟩ := mp6_cells hMrp
              have hMl := hMrp.lt
              have hg2w : g2 < wp.heap.size := by omega
              have HCall := hide (HPl.out S)
              obtain ⟨PG, hPG⟩ : ∃ PG, PG = Num.putG M S := ⟨_, rfl⟩
              obtain ⟨PE, hPE⟩ : ∃ PE, PE = Num.putE M S := ⟨_, rfl⟩
              rw [← hPG, ← hPE] at HCall
              have HPG := hide hPG
              have HPE := hide hPE
              have HOw := hide hown
              have HBp := hide hB
              have ij0 : (0 : Int) ≤ (j : Int) := by omega
              have ij1 : (j : Int) < (nl : Int) := by omega
              have hP15 : P15 wp g2 j w.heap.size S a b c d x y := ⟨c0, c1, c2, c3, c4, c5, c6, c7, c8, d0, d1, d2, d3, d4, d5⟩
              have HP15 := hide hP15
              have hn1 : g2 ≠ wp.heap.size := Nat.ne_of_lt hg2w
              have hn2 : w.heap.size ≠ wp.heap.size := Nat.ne_of_lt hMl
              clear hO2 hS9 hMrp hPG hPE hokj hown hB hP15
              go_wp2_with fail
              go_region_held3 (fun w' => w'.cell? ⟨g2, j * 9, none⟩ = some (.int .i64 S.k) ∧ w'.cell? ⟨g2, j * 9 + 1, none⟩ = some (.int .i64 S.x0) ∧ w'.cell? ⟨g2, j * 9 + 2, none⟩ = some (.int .i64 S.y0) ∧ w'.cell? ⟨g2, j * 9 + 3, none⟩ = some (.int .i64 S.x1) ∧ w'.cell? ⟨g2, j * 9 + 4, none⟩ = some (.int .i64 S.y1) ∧ w'.cell? ⟨g2, j * 9 + 5, none⟩ = some (.int .i64 S.x2) ∧ w'.cell? ⟨g2, j * 9 + 6, none⟩ = some (.int .i64 S.y2) ∧ w'.cell? ⟨g2, j * 9 + 7, none⟩ = some (.int .i64 S.x3) ∧ w'.cell? ⟨g2, j * 9 + 8, none⟩ = some (.int .i64 S.y3) ∧
                  w'.cell? ⟨w.heap.size, 0, none⟩ = some (.int .i64 a) ∧ w'.cell? ⟨w.heap.size, 1, none⟩ = some (.int .i64 b) ∧ w'.cell? ⟨w.heap.size, 2, none⟩ = some (.int .i64 c) ∧ w'.cell? ⟨w.heap.size, 3, none⟩ = some (.int .i64 d) ∧ w'.cell? ⟨w.heap.size, 4, none⟩ = some (.int .i64 x) ∧ w'.cell? ⟨w.heap.size, 5, none⟩ = some (.int .i64 y)) (first | (simp only [cD, cA hg2w, cA hMl, c0, c1, c2, c3, c4, c5, c6, c7, c8, d0, d1, d2, d3, d4, d5, and_self]; done) | (simp only [cS hn1, cS hn2, cA kg, cA km, k0, k1, k2, k3, k4, k5, k6, k7, k8, m0, m1, m2, m3, m4, m5, and_self]; done)) (first | (go_at_call 101; refine (HCall.out _).mono ?_; rintro e w5 ⟨rfl, hb5'⟩; have hb5 : Below wp.heap.size wp w5 := ⟨hb5'.os, hb5'.tape, hb5'.output, hb5'.size, hb5'.block⟩; have hs5 := hb5.size; have kg : g2 < w5.heap.size := Nat.lt_of_lt_of_le hg2w hs5; have km : w.heap.size < w5.heap.size := Nat.lt_of_lt_of_le hMl hs5; have kk := HP15.out.below hb5 hg2w hMl; obtain ⟨k0, k1, k2, k3, k4, k5, k6, k7, k8, m0, m1, m2, m3, m4, m5⟩ := kk) | (go_at_call 101; refine (HCall.out _).mono ?_; rintro e w5 ⟨rfl, hb5'⟩; have hb6 : Below (wp.alloc (.cells #[.int .i64 0, .int .i64 0, .int .i64 0, .int .i64 0, .int .i64 0, .int .i64 0, .int .i64 0, .int .i64 0, .int .i64 0] 44)).heap.size (wp.alloc (.cells #[.int .i64 0, .int .i64 0, .int .i64 0, .int .i64 0, .int .i64 0, .int .i64 0, .int .i64 0, .int .i64 0, .int .i64 0] 44)) w5 := ⟨hb5'.os, hb5'.tape, hb5'.output, hb5'.size, hb5'.block⟩; have hb5 : Below wp.heap.size wp w5 := ((Below.refl _ _).alloc (Nat.le_refl _) _).trans (hb6.mono (by rw [nblk_alloc]; exact Nat.le_succ _)); have hs5 := hb5.size; have kg : g2 < w5.heap.size := Nat.lt_of_lt_of_le hg2w hs5; have km : w.heap.size < w5.heap.size := Nat.lt_of_lt_of_le hMl hs5; have kk := HP15.out.below hb5 hg2w hMl; obtain ⟨k0, k1, k2, k3, k4, k5, k6, k7, k8, m0, m1, m2, m3, m4, m5⟩ := kk; have kz := row_below (sg9_row 0 0 0 0 0 0 0 0 0 wp 44) hb6 (by rw [nblk_alloc]; exact Nat.lt_succ_self _); have kzl := kz.lt; obtain ⟨r0, r1, r2, r3, r4, r5, r6, r7, r8⟩ := sg9_cells kz; obtain ⟨z0, z1, z2, z3, z4, z5, z6, z7, z8⟩ := zero_frozen kz))
              · obtain ⟨wG, hwG⟩ : ∃ wG, wG = w5.alloc (.cells #[.int .i64 PG.k, .int .i64 PG.x0, .int .i64 PG.y0, .int .i64 PG.x1, .int .i64 PG.y1, .int .i64 PG.x2, .int .i64 PG.y2, .int .i64 PG.x3, .int .i64 PG.y3] 44) := ⟨_, rfl⟩
                rw [← hwG]
                have hRG : wG.rowIs w5.heap.size 44 9 (sg9 PG.k PG.x0 PG.y0 PG.x1 PG.y1 PG.x2 PG.y2 PG.x3 PG.y3) := by rw [hwG]; exact sg9_row _ _ _ _ _ _ _ _ _ _ _
                have hBG : Below wp.heap.size wp wG := by rw [hwG]; exact hb5.alloc hs5 _
                obtain ⟨gB, hgB⟩ : ∃ gB, gB = w5.heap.size := ⟨_, rfl⟩
                rw [← hgB] at hRG ⊢
                have hgB1 : wp.heap.size ≤ gB := by omega
                clear hgB hwG hb5 hb5' kg km k0 k1 k2 k3 k4 k5 k6 k7 k8 m0 m1 m2 m3 m4 m5
                have hgB2 := hRG.lt
                have hsG := hBG.size
                have hown1 := owns_of_block HOw.out (fun q hq => hBG.block q (HOw.out.lt q hq).2)
                have hB1 : Below w3.heap.size w3 wG := HBp.out.trans (hBG.mono (by omega))
                have HBf := hide (HB2.out.trans ((HB3.out.trans (hB1.mono (by omega))).mono (by omega)))
                obtain ⟨e0, e1, e2, e3, e4, e5, e6, e7, e8⟩ := sg9_cells hRG
                clear hRG hBG hn1 hn2 c0 c1 c2 c3 c4 c5 c6 c7 c8 d0 d1 d2 d3 d4 d5
                cases hput : Num.putOk M S
                · have hPE6 : PE = 6 := by rw [HPE.out]; unfold Num.putE; rw [hput]; rfl
                  subst hPE6
                  obtain ⟨rfl, rfl⟩ := HOkN2.out hput
                  clear hput HNo HYe HOkN HOkN2 e0 e1 e2 e3 e4 e5 e6 e7 e8
                  go_wp2
                  go_ret2
                  exact ⟨_, fun _ => .slice none 0 0, rfl, HBf.out, SpRings.nil _ _ _ _⟩
                · have hPE0 : PE = 0 := by rw [HPE.out]; unfold Num.putE; rw [hput]; rfl
                  have hPGv : PG = Num.putV M S := by rw [HPG.out]; unfold Num.putG; rw [hput]; rfl
                  have hcE := Num.put_curve hput HKj.out
                  have hcl := Num.curveL_le (Num.putV M S)
                  have hcp := Num.curveL_pos hcE
                  have HSg : Hid (Num.segSp M S = (Num.curveL PG).dropLast) := by unfold Hid Num.segSp; rw [hPGv]
                  rw [← hPGv] at hcE hcl hcp
                  have HCv := hide (fun w => refCurve_any PG.k PG.x0 PG.y0 PG.x1 PG.y1 PG.x2 PG.y2 PG.x3 PG.y3 w)
                  have HSt2 := hide (HStep.out hput)
                  rw [hcE] at HCv
                  obtain ⟨CL, hCL⟩ : ∃ CL, CL = Num.curveL PG := ⟨_, rfl⟩
                  rw [← hCL] at HCv HSg hcl hcp
                  subst hPE0
                  clear hput hPGv hcE hCL HStep HOkN2
                  go_wp2_with fail
                  refine (HCv.out _).mono ?_
                  rintro e w6 ⟨vC, rfl, hb6, hownC⟩
                  have hs6 := hb6.size
                  have hown2 := owns_of_block hown1 (fun q hq => hb6.block q (hown1.lt q hq).2)
                  have hBB2 : Below w3.heap.size w3 w6 := hB1.trans (hb6.mono (by omega))
                  obtain ⟨gC, capC, rfl, hgC1, hgC2⟩ := hownC.form hcp
                  have hvlt : ∀ q, vo.ownBlock = some q → q < wG.heap.size := fun q hq => (hown1.lt q hq).2
                  have HOC := hide hownC
                  have HVl := hide hvlt
                  obtain ⟨RP, hRP⟩ : ∃ RP, RP = Num.ringSp M (L.take j) := ⟨_, rfl⟩
                  rw [← hRP] at hown2 HSu hlen
                  rw [HSg.out] at HSu
                  obtain ⟨mC, hmC⟩ : ∃ mC, mC = CL.length := ⟨_, rfl⟩
                  rw [← hmC] at hcl hcp ⊢
                  have HMC := hide hmC
                  have HO2' := hide hown2
                  have HBB2 := hide hBB2
                  clear hb6 hownC hvlt hRP hmC hown1 hB1 hown2 hBB2 e0 e1 e2 e3 e4 e5 e6 e7 e8
                  go_wp2_with fail
                  go_loopw [12, 19] (fun v t wr => ∃ i : Nat, i + 1 ≤ mC ∧ t = .int .i64 i ∧ Touch (fun q => vo.ownBlock = some q) w6 wr ∧ Below w3.heap.size w3 wr ∧ (v.ownBlock = vo.ownBlock ∨ ∃ q, v.ownBlock = some q ∧ w6.heap.size ≤ q) ∧ wr.ownsRow w3.heap.size 41 2 v (RP ++ CL.dropLast.take i).length ((RP ++ CL.dropLast.take i).flatMap spC)) (fun _ t _ => mC - (intOf t).toNat)
                  case atStart => exact ⟨0, by omega, rfl, Touch.refl _ _, HBB2.out, .inl rfl, by simpa using HO2'.out⟩
                  case round =>
                    obtain ⟨v, rfl⟩ : ∃ v, v = u12 := ⟨_, rfl⟩
                    obtain ⟨i, hi, rfl, hT, hBi, hvb, hown⟩ := hrel
                    have hsi := hT.size
                    by_cases hlti : i + 1 < mC
                    · have hil : i < CL.length := by rw [← HMC.out]; omega
                      have hneC : ¬ vo.ownBlock = some gC := fun e => by have := HVl.out _ e; omega
                      have hblkC : wr.heap[gC]? = w6.heap[gC]? := hT.block gC hgC2 hneC
                      have hOC := owns_of_block (w' := wr) HOC.out (fun q hq => by simp [Value.ownBlock] at hq; subst hq; exact hblkC)
                      obtain ⟨p0, p1⟩ := owns_sp hOC i hil
                      have htk := (Num.dropLast_take_succ CL i).1 (by rw [← HMC.out]; exact hlti) hil
                      have hlenI : (RP ++ CL.dropLast.take i).length ≤ 111 * 4000 + 112 := by rw [List.length_append, List.length_take]; omega
                      have hgCw : gC < wr.heap.size := by omega
                      have hdi : decide ((i : Int) < (mC : Int) - 1) = true := by simp; omega
                      have ia0 : (0 : Int) ≤ (i : Int) := by omega
                      have ia1 : (i : Int) < (mC : Int) := by omega
                      have HT := hide hT
                      have HVb := hide hvb
                      have HBi := hide hBi
                      obtain ⟨z, hz⟩ : ∃ z, z = CL[i] := ⟨_, rfl⟩
                      rw [← hz] at p0 p1 htk
                      obtain ⟨zx, zy⟩ := z
                      simp only at p0 p1
                      have HTk2 : Hid (RP ++ CL.dropLast.take (i + 1) = (RP ++ CL.dropLast.take i) ++ [(zx, zy)]) := by unfold Hid; rw [htk, List.append_assoc]
                      obtain ⟨xs2, hxs⟩ : ∃ xs2, xs2 = (RP ++ CL.dropLast.take i).flatMap spC := ⟨_, rfl⟩
                      obtain ⟨ln, hln⟩ : ∃ ln, ln = (RP ++ CL.dropLast.take i).length := ⟨_, rfl⟩
                      rw [← hxs, ← hln] at hown
                      rw [← hln] at hlenI
                      have HX2 := hide hxs
                      have HLn2 := hide hln
                      clear hz htk hxs hln hT hvb hBi hneC hblkC hOC
                      go_wp2_with (at_builtin; refine wpList_append_lies _ rfl _ _ 48 rfl w3.heap.size 41 j0 (.agg #[.int .i64 0, .int .i64 0]) 2 16 Try.underlying48 hj0 hy0 hy1 hy2 rfl (by omega) v ln xs2 rfl (hown.alloc _) ⟨wr.heap.size, 0, none⟩ 1 1 [.int .i64 zx, .int .i64 zy] rfl rfl ?la1 ?la2 (by omega) ?la3 ?la4 ?la5 (wr.heap.size + 1) (by simp) ?_)
                      try (case la1 => exact news_sp wr [.int .i64 zx, .int .i64 zy] _ _ rfl)
                      case la2 => first | exact one_two _ _ | exact ⟨rfl, rfl⟩
                      case la3 => unfold maxLen; omega
                      case la4 => omega
                      case la5 => first | omega | (simp; omega)
                      intro g cap w7 hown7 hgrow hat hlt7
                      have hb7 : Below w3.heap.size w3 w7 := (HBi.out.alloc (by omega) _).grown hgrow (by simp; omega) (fun q hq => (hown.lt q hq).1)
                      have hT7 : Touch (fun q => vo.ownBlock = some q) w6 w7 := (HT.out.alloc _).grown hgrow (fun q hq => by
                        rcases HVb.out with h | ⟨g', h1, h2⟩
                        · exact .inl (h ▸ hq)
                        · rw [h1] at hq; simp at hq; subst hq; exact .inr h2)
                      have HVb7 : Hid ((Value.slice (some ⟨g, 0, none⟩) (ln + 1) cap).ownBlock = vo.ownBlock ∨ ∃ g', (Value.slice (some ⟨g, 0, none⟩) (ln + 1) cap).ownBlock = some g' ∧ w6.heap.size ≤ g') := by
                        unfold Hid
                        rcases hat with hat | hat
                        · rcases HVb.out with h | ⟨g', h1, h2⟩
                          · left; rw [← h, hat]; rfl
                          · right; rw [hat] at h1; exact ⟨g', by simpa [Value.ownBlock] using h1, h2⟩
                        · right; exact ⟨g, rfl, by omega⟩
                      have HO7 : Hid (w7.ownsRow w3.heap.size 41 2 (.slice (some ⟨g, 0, none⟩) (ln + 1) cap) (RP ++ CL.dropLast.take (i + 1)).length ((RP ++ CL.dropLast.take (i + 1)).flatMap spC)) := by
                        unfold Hid
                        exact push_sp (l := RP ++ CL.dropLast.take i) (p := (zx, zy)) (m := ln + 1) (by rw [← HX2.out]; exact hown7) HTk2.out (by rw [HLn2.out])
                      have HT7 := hide hT7
                      clear hown7 hgrow hat hown hT7 p0 p1
                      go_wp2
                      go_roundw
                      case rel => exact ⟨i + 1, by omega, by go_num, HT7.out, hb7, HVb7.out, HO7.out⟩
                      case measure => simp [intOf]; omega
                    · have hdi : decide ((i : Int) < (mC : Int) - 1) = false := by simp; omega
                      have htk : CL.dropLast.take i = CL.dropLast := List.take_of_length_le (by rw [List.length_dropLast, ← HMC.out]; omega)
                      rw [htk, ← HSu.out] at hown
                      have HOw2 := hide hown
                      clear hT hvb htk hown
                      go_wp2
                      go_roundw
                      case rel => exact ⟨j + 1, by omega, by go_num, hBi, HSt2.out, HOw2.out⟩
                      case measure => simp [intOf]; omega
              · obtain ⟨wG, hwG⟩ : ∃ wG, wG = (((((((((w5.setCell ⟨wp.heap.size, 0, none⟩ (.int .i64 PG.k)).setCell ⟨wp.heap.size, 1, none⟩ (.int .i64 PG.x0)).setCell ⟨wp.heap.size, 2, none⟩ (.int .i64 PG.y0)).setCell ⟨wp.heap.size, 3, none⟩ (.int .i64 PG.x1)).setCell ⟨wp.heap.size, 4, none⟩ (.int .i64 PG.y1)).setCell ⟨wp.heap.size, 5, none⟩ (.int .i64 PG.x2)).setCell ⟨wp.heap.size, 6, none⟩ (.int .i64 PG.y2)).setCell ⟨wp.heap.size, 7, none⟩ (.int .i64 PG.x3)).setCell ⟨wp.heap.size, 8, none⟩ (.int .i64 PG.y3)) := ⟨_, rfl⟩
                rw [← hwG]
                have hRG : wG.rowIs wp.heap.size 44 9 (sg9 PG.k PG.x0 PG.y0 PG.x1 PG.y1 PG.x2 PG.y2 PG.x3 PG.y3) := by rw [hwG]; exact set9sg kz PG.k PG.x0 PG.y0 PG.x1 PG.y1 PG.x2 PG.y2 PG.x3 PG.y3
                have hBG : Below wp.heap.size wp wG := by rw [hwG]; exact (((((((((hb5.setCell (p := ⟨wp.heap.size, 0, none⟩) (Nat.le_refl _) _).setCell (p := ⟨wp.heap.size, 1, none⟩) (Nat.le_refl _) _).setCell (p := ⟨wp.heap.size, 2, none⟩) (Nat.le_refl _) _).setCell (p := ⟨wp.heap.size, 3, none⟩) (Nat.le_refl _) _).setCell (p := ⟨wp.heap.size, 4, none⟩) (Nat.le_refl _) _).setCell (p := ⟨wp.heap.size, 5, none⟩) (Nat.le_refl _) _).setCell (p := ⟨wp.heap.size, 6, none⟩) (Nat.le_refl _) _).setCell (p := ⟨wp.heap.size, 7, none⟩) (Nat.le_refl _) _).setCell (p := ⟨wp.heap.size, 8, none⟩) (Nat.le_refl _) _)
                obtain ⟨gB, hgB⟩ : ∃ gB, gB = wp.heap.size := ⟨_, rfl⟩
                rw [← hgB] at hRG ⊢
                have hgB1 : wp.heap.size ≤ gB := by omega
                clear hgB hwG hb5 hb5' hb6 kg km k0 k1 k2 k3 k4 k5 k6 k7 k8 m0 m1 m2 m3 m4 m5 kz kzl r0 r1 r2 r3 r4 r5 r6 r7 r8 z0 z1 z2 z3 z4 z5 z6 z7 z8
                have hgB2 := hRG.lt
                have hsG := hBG.size
                have hown1 := owns_of_block HOw.out (fun q hq => hBG.block q (HOw.out.lt q hq).2)
                have hB1 : Below w3.heap.size w3 wG := HBp.out.trans (hBG.mono (by omega))
                have HBf := hide (HB2.out.trans ((HB3.out.trans (hB1.mono (by omega))).mono (by omega)))
                obtain ⟨e0, e1, e2, e3, e4, e5, e6, e7, e8⟩ := sg9_cells hRG
                clear hRG hBG hn1 hn2 c0 c1 c2 c3 c4 c5 c6 c7 c8 d0 d1 d2 d3 d4 d5
                cases hput : Num.putOk M S
                · have hPE6 : PE = 6 := by rw [HPE.out]; unfold Num.putE; rw [hput]; rfl
                  subst hPE6
                  obtain ⟨rfl, rfl⟩ := HOkN2.out hput
                  clear hput HNo HYe HOkN HOkN2 e0 e1 e2 e3 e4 e5 e6 e7 e8
                  go_wp2
                  go_ret2
                  exact ⟨_, fun _ => .slice none 0 0, rfl, HBf.out, SpRings.nil _ _ _ _⟩
                · have hPE0 : PE = 0 := by rw [HPE.out]; unfold Num.putE; rw [hput]; rfl
                  have hPGv : PG = Num.putV M S := by rw [HPG.out]; unfold Num.putG; rw [hput]; rfl
                  have hcE := Num.put_curve hput HKj.out
                  have hcl := Num.curveL_le (Num.putV M S)
                  have hcp := Num.curveL_pos hcE
                  have HSg : Hid (Num.segSp M S = (Num.curveL PG).dropLast) := by unfold Hid Num.segSp; rw [hPGv]
                  rw [← hPGv] at hcE hcl hcp
                  have HCv := hide (fun w => refCurve_any PG.k PG.x0 PG.y0 PG.x1 PG.y1 PG.x2 PG.y2 PG.x3 PG.y3 w)
                  have HSt2 := hide (HStep.out hput)
                  rw [hcE] at HCv
                  obtain ⟨CL, hCL⟩ : ∃ CL, CL = Num.curveL PG := ⟨_, rfl⟩
                  rw [← hCL] at HCv HSg hcl hcp
                  subst hPE0
                  clear hput hPGv hcE hCL HStep HOkN2
                  go_wp2_with fail
                  refine (HCv.out _).mono ?_
                  rintro e w6 ⟨vC, rfl, hb6, hownC⟩
                  have hs6 := hb6.size
                  have hown2 := owns_of_block hown1 (fun q hq => hb6.block q (hown1.lt q hq).2)
                  have hBB2 : Below w3.heap.size w3 w6 := hB1.trans (hb6.mono (by omega))
                  obtain ⟨gC, capC, rfl, hgC1, hgC2⟩ := hownC.form hcp
                  have hvlt : ∀ q, vo.ownBlock = some q → q < wG.heap.size := fun q hq => (hown1.lt q hq).2
                  have HOC := hide hownC
                  have HVl := hide hvlt
                  obtain ⟨RP, hRP⟩ : ∃ RP, RP = Num.ringSp M (L.take j) := ⟨_, rfl⟩
                  rw [← hRP] at hown2 HSu hlen
                  rw [HSg.out] at HSu
                  obtain ⟨mC, hmC⟩ : ∃ mC, mC = CL.length := ⟨_, rfl⟩
                  rw [← hmC] at hcl hcp ⊢
                  have HMC := hide hmC
                  have HO2' := hide hown2
                  have HBB2 := hide hBB2
                  clear hb6 hownC hvlt hRP hmC hown1 hB1 hown2 hBB2 e0 e1 e2 e3 e4 e5 e6 e7 e8
                  go_wp2_with fail
                  go_loopw [12, 19] (fun v t wr => ∃ i : Nat, i + 1 ≤ mC ∧ t = .int .i64 i ∧ Touch (fun q => vo.ownBlock = some q) w6 wr ∧ Below w3.heap.size w3 wr ∧ (v.ownBlock = vo.ownBlock ∨ ∃ q, v.ownBlock = some q ∧ w6.heap.size ≤ q) ∧ wr.ownsRow w3.heap.size 41 2 v (RP ++ CL.dropLast.take i).length ((RP ++ CL.dropLast.take i).flatMap spC)) (fun _ t _ => mC - (intOf t).toNat)
                  case atStart => exact ⟨0, by omega, rfl, Touch.refl _ _, HBB2.out, .inl rfl, by simpa using HO2'.out⟩
                  case round =>
                    obtain ⟨v, rfl⟩ : ∃ v, v = u12 := ⟨_, rfl⟩
                    obtain ⟨i, hi, rfl, hT, hBi, hvb, hown⟩ := hrel
                    have hsi := hT.size
                    by_cases hlti : i + 1 < mC
                    · have hil : i < CL.length := by rw [← HMC.out]; omega
                      have hneC : ¬ vo.ownBlock = some gC := fun e => by have := HVl.out _ e; omega
                      have hblkC : wr.heap[gC]? = w6.heap[gC]? := hT.block gC hgC2 hneC
                      have hOC := owns_of_block (w' := wr) HOC.out (fun q hq => by simp [Value.ownBlock] at hq; subst hq; exact hblkC)
                      obtain ⟨p0, p1⟩ := owns_sp hOC i hil
                      have htk := (Num.dropLast_take_succ CL i).1 (by rw [← HMC.out]; exact hlti) hil
                      have hlenI : (RP ++ CL.dropLast.take i).length ≤ 111 * 4000 + 112 := by rw [List.length_append, List.length_take]; omega
                      have hgCw : gC < wr.heap.size := by omega
                      have hdi : decide ((i : Int) < (mC : Int) - 1) = true := by simp; omega
                      have ia0 : (0 : Int) ≤ (i : Int) := by omega
                      have ia1 : (i : Int) < (mC : Int) := by omega
                      have HT := hide hT
                      have HVb := hide hvb
                      have HBi := hide hBi
                      obtain ⟨z, hz⟩ : ∃ z, z = CL[i] := ⟨_, rfl⟩
                      rw [← hz] at p0 p1 htk
                      obtain ⟨zx, zy⟩ := z
                      simp only at p0 p1
                      have HTk2 : Hid (RP ++ CL.dropLast.take (i + 1) = (RP ++ CL.dropLast.take i) ++ [(zx, zy)]) := by unfold Hid; rw [htk, List.append_assoc]
                      obtain ⟨xs2, hxs⟩ : ∃ xs2, xs2 = (RP ++ CL.dropLast.take i).flatMap spC := ⟨_, rfl⟩
                      obtain ⟨ln, hln⟩ : ∃ ln, ln = (RP ++ CL.dropLast.take i).length := ⟨_, rfl⟩
                      rw [← hxs, ← hln] at hown
                      rw [← hln] at hlenI
                      have HX2 := hide hxs
                      have HLn2 := hide hln
                      clear hz htk hxs hln hT hvb hBi hneC hblkC hOC
                      go_wp2_with (at_builtin; refine wpList_append_lies _ rfl _ _ 48 rfl w3.heap.size 41 j0 (.agg #[.int .i64 0, .int .i64 0]) 2 16 Try.underlying48 hj0 hy0 hy1 hy2 rfl (by omega) v ln xs2 rfl (hown.alloc _) ⟨wr.heap.size, 0, none⟩ 1 1 [.int .i64 zx, .int .i64 zy] rfl rfl ?lb1 ?lb2 (by omega) ?lb3 ?lb4 ?lb5 (wr.heap.size + 1) (by simp) ?_)
                      try (case lb1 => exact news_sp wr [.int .i64 zx, .int .i64 zy] _ _ rfl)
                      case lb2 => first | exact one_two _ _ | exact ⟨rfl, rfl⟩
                      case lb3 => unfold maxLen; omega
                      case lb4 => omega
                      case lb5 => first | omega | (simp; omega)
                      intro g cap w7 hown7 hgrow hat hlt7
                      have hb7 : Below w3.heap.size w3 w7 := (HBi.out.alloc (by omega) _).grown hgrow (by simp; omega) (fun q hq => (hown.lt q hq).1)
                      have hT7 : Touch (fun q => vo.ownBlock = some q) w6 w7 := (HT.out.alloc _).grown hgrow (fun q hq => by
                        rcases HVb.out with h | ⟨g', h1, h2⟩
                        · exact .inl (h ▸ hq)
                        · rw [h1] at hq; simp at hq; subst hq; exact .inr h2)
                      have HVb7 : Hid ((Value.slice (some ⟨g, 0, none⟩) (ln + 1) cap).ownBlock = vo.ownBlock ∨ ∃ g', (Value.slice (some ⟨g, 0, none⟩) (ln + 1) cap).ownBlock = some g' ∧ w6.heap.size ≤ g') := by
                        unfold Hid
                        rcases hat with hat | hat
                        · rcases HVb.out with h | ⟨g', h1, h2⟩
                          · left; rw [← h, hat]; rfl
                          · right; rw [hat] at h1; exact ⟨g', by simpa [Value.ownBlock] using h1, h2⟩
                        · right; exact ⟨g, rfl, by omega⟩
                      have HO7 : Hid (w7.ownsRow w3.heap.size 41 2 (.slice (some ⟨g, 0, none⟩) (ln + 1) cap) (RP ++ CL.dropLast.take (i + 1)).length ((RP ++ CL.dropLast.take (i + 1)).flatMap spC)) := by
                        unfold Hid
                        exact push_sp (l := RP ++ CL.dropLast.take i) (p := (zx, zy)) (m := ln + 1) (by rw [← HX2.out]; exact hown7) HTk2.out (by rw [HLn2.out])
                      have HT7 := hide hT7
                      clear hown7 hgrow hat hown hT7 p0 p1
                      go_wp2
                      go_roundw
                      case rel => exact ⟨i + 1, by omega, by go_num, HT7.out, hb7, HVb7.out, HO7.out⟩
                      case measure => simp [intOf]; omega
                    · have hdi : decide ((i : Int) < (mC : Int) - 1) = false := by simp; omega
                      have htk : CL.dropLast.take i = CL.dropLast := List.take_of_length_le (by rw [List.length_dropLast, ← HMC.out]; omega)
                      rw [htk, ← HSu.out] at hown
                      have HOw2 := hide hown
                      clear hT hvb htk hown
                      go_wp2
                      go_roundw
                      case rel => exact ⟨j + 1, by omega, by go_num, hBi, HSt2.out, HOw2.out⟩
                      case measure => simp [intOf]; omega
            · have hdj : decide ((j : Int) < (nl : Int)) = false := by simp; omega
              have e : j = nl := by omega
              have htk : L.take j = L := List.take_of_length_le (by rw [← HNl.out]; omega)
              rw [htk] at hown
              have hRok : Num.ringOk M L = true := by
                unfold Num.ringOk
                rw [List.all_eq_true]
                intro g hg
                obtain ⟨i, hi, rfl⟩ := List.mem_iff_getElem.1 hg
                exact hokj i hi (by rw [e, HNl.out]; exact hi)
              have HOk2 : Hid (∀ i, i < k + 1 → Num.ringOk M (ringL n X Y K i) = true) := fun i hi => by
                rcases (show i < k ∨ i = k by omega) with h1 | h1
                · exact HOk.out i h1
                · rw [h1, ← HLe.out]; exact hRok
              have hTL : traceL n X Y K M k = Num.ringSp M L := by unfold traceL; rw [HLe.out]
              rw [← hTL] at hown
              obtain ⟨an, cn, hvn, _⟩ := owns_formN hown
              subst hvn
              have HNew : Hid (∀ q, (Value.slice an (traceL n X Y K M k).length cn).ownBlock = some q → ∀ i, i < k → (V i).ownBlock ≠ some q) := fun q hq i hi e => by
                have h1 := (hown.lt q hq).1
                have h2 := ((HSR.out.inner i hi).lt q e).2
                omega
              have HIn := hide (owns_mono (base' := w2.heap.size) hown (by omega))
              have HSRw := hide (HSR3.out.below hB)
              have hout := HSRw.out.outer
              have HBw3 := hide (HB3.out.trans (hB.mono (by omega)))
              obtain ⟨xs, hxs⟩ : ∃ xs, xs = (List.range k).map V := ⟨_, rfl⟩
              rw [← hxs] at hout
              have HX := hide hxs
              obtain ⟨ml, hml⟩ : ∃ ml, ml = (traceL n X Y K M k).length := ⟨_, rfl⟩
              rw [← hml] at HNew HIn ⊢
              have HML := hide hml
              clear hown hokj hRok hxs hml hTL htk hB
              go_wp2_with (at_builtin; refine wpList_append_lies _ rfl _ _ 76 rfl w2.heap.size 48 i0 (.slice none 0 0) 1 24 Try.underlying76 hi0 hz0 hz1 hz2 rfl (by omega) vout k xs rfl (hout.alloc _) ⟨wp.heap.size, 0, none⟩ 1 1 [.slice an ml cn] rfl rfl ?n1 ?n2 (by omega) ?n3 ?n4 ?n5 (wp.heap.size + 1) (by simp) ?_)
              try (case n1 => exact news_sp wp [.slice an ml cn] _ _ rfl)
              case n2 => first | rfl | exact one_slice _ _ _
              case n3 => unfold maxLen; omega
              case n4 => omega
              case n5 => first | omega | (simp; omega)
              intro g cap w8 hown8 hgrow hat hlt8
              rw [HX.out] at hown8
              have HS8 := hide (HSRw.out.push (by rw [← HML.out]; exact HIn.out) HNew.out hown8 hgrow)
              have hb8 : Below w2.heap.size w2 w8 := (HBw3.out.alloc (by omega) _).grown hgrow (by simp; omega) (fun q hq => (HSRw.out.outer.lt q hq).1)
              clear hown8 hgrow hat hout
              go_wp2
              go_roundw
              case rel => exact ⟨k + 1, _, by omega, by go_num, hb8, HOk2.out, HS8.out⟩
              case measure => simp [intOf]; omega
        · have e : k = N := by omega
          obtain ⟨rfl, rfl⟩ := HYe.out (traceOk_yes (fun i hi => hok i (by omega)))
          have HSR := hide hSR
          have HBf := hide (HB2.out.trans (hb.mono (by omega)))
          have hd0 : decide ((k : Int) < (TN : Int)) = false := by simp; omega
          clear hSR hok hb HNo HYe
          go_wp2
          go_ret2
          refine ⟨vout, V, rfl, HBf.out, ?_⟩
          rw [← e]
          exact HSR.out.mono (by omega)
  · rw [if_neg h0] at hTE
    subst hTE
    have hTN3 : TN = 0 := by rw [hTN2, if_neg h0]
    subst hTN3
    obtain ⟨v0, v1, v2⟩ := V0
    have hb0 : (v0 != 0) = true := by simpa using h0
    clear h0 hTN2
    go_enter Try.func64, Try.ntmps64
    go_wp2_with fail
    refine (refCheck_any _ _ _ A C n X Y K _ hN HN.out hS HO.out).mono ?_
    rw [← HV.out]
    rintro e w1 ⟨rfl, hb1⟩
    have HB1 : Hid (Below w.heap.size w w1) := Below.trans (by (repeat (any_goals (first | exact Below.refl _ _ | assumption | refine Below.drew ?_ | refine below_drewN ?_ _ | refine Below.setCell ?_ ?_ _ | refine Below.alloc ?_ ?_ _ | omega | (simp; done) | (simp; omega))))) (hb1.mono (by simp))
    clear hb1
    go_wp2
    go_ret2
    exact ⟨_, fun _ => .slice none 0 0, rfl, HB1.out, SpRings.nil _ _ _ _⟩
end Go.Proofs.Ytkhcjkmifddlbaa

/- HeldT -/
namespace Go.Proofs.Ytkhcjkmifddlbaa
open Go.RowKit Go.Deep

set_option maxRecDepth 100000 in
set_option maxHeartbeats 1000000 in
theorem sameSpots_any (v v' : Value) (base base' : Nat) (l : List (Int × Int)) (w : World) (hl : l.length ≤ 4294967296) (h1 : w.ownsRow base 41 2 v l.length (l.flatMap spC)) (h2 : w.ownsRow base' 41 2 v' l.length (l.flatMap spC)) :
    Calls Try.prog 61 #[v, v'] w fun e w' => e = .returned (.bool true) ∧ ∃ nd, w' = w.drewN nd := by
  obtain ⟨ao, cap, rfl, ha⟩ := owns_formN h1
  obtain ⟨ao', cap', rfl, ha'⟩ := owns_formN h2
  have H1 := hide h1
  have H2 := hide h2
  have HA := hide ha
  have HA' := hide ha'
  clear h1 h2 ha ha'
  obtain ⟨n, hn⟩ : ∃ n, n = l.length := ⟨_, rfl⟩
  rw [← hn] at hl ⊢
  have HN := hide hn
  clear hn
  go_enter Try.func61, Try.ntmps61
  go_wp2_with fail
  go_loopw [5] (fun i wr => ∃ k nd : Nat, k ≤ n ∧ i = .int .i64 k ∧ wr = w.drewN nd) (fun i _ => n - (intOf i).toNat)
  case atStart => exact ⟨0, 0, by omega, rfl, rfl⟩
  case round =>
    obtain ⟨k, nd, hk, rfl, rfl⟩ := hrel
    by_cases hlt : k < n
    · obtain ⟨b, rfl⟩ := HA.out (by rw [← HN.out]; omega)
      obtain ⟨b', rfl⟩ := HA'.out (by rw [← HN.out]; omega)
      have hkl : k < l.length := by rw [← HN.out]; exact hlt
      obtain ⟨q0, q1⟩ := owns_sp H1.out k hkl
      obtain ⟨r0, r1⟩ := owns_sp H2.out k hkl
      obtain ⟨S, hS⟩ : ∃ S, S = l[k] := ⟨_, rfl⟩
      rw [← hS] at q0 q1 r0 r1
      clear hS
      have g0 : (0 : Int) ≤ (k : Int) := by omega
      have g1 : (k : Int) < (n : Int) := by omega
      have hd1 : decide ((k : Int) < (n : Int)) = true := by simp; omega
      go_wp2
      go_quiet (fail)
      go_wp2
      go_roundw
      case rel => exact ⟨k + 1, nd + nq, by omega, by go_num, rfl⟩
      case measure => simp [intOf]; omega
    · go_wp2
      go_ret
      exact ⟨rfl, nd, rfl⟩

theorem info_ht : (Try.prog.info? 164).map (fun i => (i.zero, i.size, i.bytes)) = some (some (.agg #[.slice none 0 0, .int .i64 0]), 2, 32) := by kernel_rfl

theorem markT_step {wr : World} {b m i : Nat} {t : TypeId} {f : Nat → Value} {mk : Int} (h : wr.rowIs b t (m * 2) f) (hf : ∀ q, q < i * 2 → f q = mkT mk q) (wr2 : World) (hb : wr2.heap[b]? = wr.heap[b]?) :
    ∃ f', ((wr2.setCell ⟨b, i * 2, none⟩ (.int .i64 (2199023255552 + mk))).setCell ⟨b, i * 2 + 1, none⟩ (.int .i64 (-7))).rowIs b t (m * 2) f' ∧ ∀ q, q < (i + 1) * 2 → f' q = mkT mk q := by
  refine ⟨_, (((h.of_block hb).set (i * 2) _).set (i * 2 + 1) _), fun q hq => ?_⟩
  by_cases e1 : q = i * 2 + 1
  · subst e1; rw [if_pos rfl]; unfold mkT; rw [if_neg (by omega)]
  rw [if_neg e1]
  by_cases e0 : q = i * 2
  · subst e0; rw [if_pos rfl]; unfold mkT; rw [if_pos (by omega)]
  rw [if_neg e0]
  exact hf q (by omega)

theorem markSpot_b (n : Int) (w : World) (h0 : 0 ≤ n) (h1 : n ≤ 1099511627776) :
    Calls Try.prog 91 #[.int .i64 n] w fun e w' => e = .returned (.agg #[.int .i64 (2199023255552 + n), .int .i64 (-7)]) ∧ Below w.heap.size w w' :=
  (markSpot_any n w h0 h1).mono fun e w' ⟨he, hw⟩ => ⟨he, by rw [hw]; (repeat (any_goals (first | exact Below.refl _ _ | assumption | refine Below.drew ?_ | refine below_drewN ?_ _ | refine Below.setCell ?_ ?_ _ | refine Below.alloc ?_ ?_ _ | omega | (simp; done) | (simp; omega))))⟩

/-- What spots may write. -/
def spotS (h : Nat) (s : HS) (x : Value) (b : Nat) : Prop := b = h ∨ s.vT.ownBlock = some b ∨ x.ownBlock = some b

/-- No spots that are held lie at block b. -/
def HS.Free (s : HS) (b : Nat) : Prop := (∀ e ∈ s.T, e.1 ≠ some b) ∧ ∀ e ∈ s.R, ∀ i, i < e.2.1 → e.2.2.1 i ≠ b

/-- What stays as it was, and what is new among the spots. -/
structure SpotsKept (w : World) (s s' : HS) (x : Value) : Prop where
  n : s'.n = s.n + 1
  cs : s'.cs = s.cs
  rs : s'.rs = s.rs
  P : s'.P = s.P
  O : s'.O = s.O
  S : s'.S = s.S
  R : s'.R = s.R
  vR : s'.vR = s.vR
  T : ∀ e ∈ s'.T, e ∈ s.T ∨ e.1 = x.ownBlock
  vT : s'.vT.ownBlock = s.vT.ownBlock ∨ ∃ g, s'.vT.ownBlock = some g ∧ w.heap.size ≤ g

set_option maxRecDepth 100000 in
set_option maxHeartbeats 4000000 in
theorem heldSpots_any (h n base : Nat) (x : Value) (xs : List Value) (s : HS) (w : World) (H : HeldInv w h s) (hx : w.ownsRow base 41 2 x n xs) (hne : ∀ b, x.ownBlock = some b → s.Free b) (hn : s.n + 1 ≤ 1099511627776) :
    Calls Try.prog 62 #[.pointer (some ⟨h, 2, none⟩), x] w fun e w' => e = .returned (.tuple #[]) ∧ Touch (spotS h s x) w w' ∧ ∃ s', HeldInv w' h s' ∧ SpotsKept w s s' x := by
  have l0 : 0 ≤ s.n := by have := H.lo; omega
  have HH := hide H
  have HNe := hide hne
  have hform : ∃ (ao : Option Nat) (cap : Nat), x = .slice (ao.map fun b => ⟨b, 0, none⟩) n cap ∧ n ≤ cap ∧ (cap : Int) ≤ 9223372036854775807 ∧ x.ownBlock = ao ∧ (ao = none → cap = 0) ∧ ∀ b, ao = some b → ∃ f, w.rowIs b 41 (cap * 2) f := by
    rcases hx.2 with ⟨rfl, h0⟩ | ⟨g, cap, cur, rfl, _, hg, hle, hcap, hsz, _⟩
    · exact ⟨none, 0, by rw [h0]; rfl, by omega, by omega, rfl, fun _ => rfl, fun b hb => by cases hb⟩
    · refine ⟨some g, cap, rfl, hle, by unfold maxLen at hcap; omega, rfl, (fun e => by cases e), fun b hb => ?_⟩
      simp at hb; subst hb
      exact ⟨fun q => cur[q]?.getD undef, cur, hg, hsz, fun i hi => by simp [show i < cur.size by omega]⟩
  obtain ⟨ao, cap, rfl, hle, hcap, hob, hnil, hrow⟩ := hform
  have HRow := hide hrow
  have HNil := hide hnil
  have HOB := hide hob
  clear H hx hne hrow hob
  obtain ⟨ad, had⟩ : ∃ ad, ad = ao.map (fun b => (⟨b, 0, none⟩ : Addr)) := ⟨_, rfl⟩
  rw [← had]
  have HAD := hide had
  clear had
  have hcapn : ad = none → cap = 0 := fun e => by
    have := HAD.out
    rw [e] at this
    cases ao with
    | none => exact hnil rfl
    | some b => simp at this
  clear hnil
  go_enter Try.func62, Try.ntmps62
  go_wp2_with fail
  refine (mark_any h _ _ HH.out hn).mono ?_
  rintro e w1 ⟨rfl, hw1⟩
  have hT1 : Touch (fun b => b = h) w w1 := by rw [hw1]; exact Touch.setCell (S := fun b => b = h) (Touch.refl _ _) (.inl (by rfl)) _
  have hI1 : HeldInv w1 h { s with n := s.n + 1 } := by rw [hw1]; exact HH.out.marked hn
  have hR1 : ∀ b, ao = some b → ∃ f, w1.rowIs b 41 (cap * 2) f := fun b hb => by
    obtain ⟨f, hf⟩ := HRow.out b hb
    exact ⟨f, hT1.row hf (row_ne hf HH.out.wd (by decide))⟩
  have HT1 := hide hT1
  have HI1 := hide hI1
  have HR1 := hide hR1
  clear hw1 hT1 hI1 hR1
  obtain ⟨mk, hmk⟩ : ∃ mk, mk = s.n + 1 := ⟨_, rfl⟩
  rw [← hmk]
  have m0 : 0 ≤ mk := by omega
  have m1 : mk ≤ 1099511627776 := by omega
  have HM := hide hmk
  clear hmk
  go_wp2_with fail
  go_loopw [6] (fun t wr => ∃ i : Nat, i ≤ cap ∧ t = .int .i64 i ∧ Touch (fun b => ao = some b) w1 wr ∧ ∀ b, ao = some b → ∃ f, wr.rowIs b 41 (cap * 2) f ∧ ∀ q, q < i * 2 → f q = mkT mk q) (fun t _ => cap - (intOf t).toNat)
  case atStart =>
    refine ⟨0, by omega, rfl, Touch.refl _ _, fun b hb => ?_⟩
    obtain ⟨f, hf⟩ := HR1.out b hb
    exact ⟨f, hf, by omega⟩
  case round =>
    obtain ⟨i, hi, rfl, hq, hrows⟩ := hrel
    by_cases hlt : i < cap
    · have hd1 : decide ((i : Int) < (cap : Int)) = true := by simp; omega
      have hex : ∃ b, ao = some b := by
        cases hao : ao with
        | none =>
          exfalso
          have := hcapn (by rw [HAD.out, hao]; rfl)
          omega
        | some b => exact ⟨b, rfl⟩
      obtain ⟨b, hao⟩ := hex
      obtain ⟨f, hr, hf⟩ := hrows b hao
      have had : ad = some ⟨b, 0, none⟩ := by rw [HAD.out, hao]; rfl
      subst had
      have hbl := hr.lt
      have HQ := hide hq
      have HRw := hide (And.intro hr hf)
      clear hq hrows hr hf
      have g0 : (0 : Int) ≤ (i : Int) := by omega
      have g1 : (i : Int) < (cap : Int) := by omega
      go_wp2_with fail
      refine (markSpot_b _ _ m0 m1).mono ?_
      rintro e w2 ⟨rfl, hb2⟩
      have hr2 := row_below HRw.out.1 hb2 hbl
      have c0 := hr2.cell (i := i * 2) (by omega)
      have z0 := hr2.frozen (i * 2)
      have c1 := hr2.cell (i := i * 2 + 1) (by omega)
      have z1 := hr2.frozen (i * 2 + 1)
      have hbl2 := hr2.lt
      have HSt := hide (markT_step HRw.out.1 HRw.out.2 w2 (hb2.block b hbl))
      have HT2 := hide (HQ.out.of_below hb2)
      have HAo := hide hao
      clear hr2 hb2 hao
      go_wp2
      go_roundw
      case rel =>
        obtain ⟨f', hf1, hf2⟩ := HSt.out
        refine ⟨i + 1, by omega, by go_num, ?_, fun b' hb' => ?_⟩
        · have hSb : (fun b => ao = some b) b ∨ w1.heap.size ≤ b := .inl HAo.out
          exact (HT2.out.setCell (p := ⟨b, i * 2, none⟩) hSb _).setCell (p := ⟨b, i * 2 + 1, none⟩) hSb _
        · have e : b' = b := (Option.some.inj (HAo.out.symm.trans hb')).symm
          subst e
          exact ⟨f', hf1, hf2⟩
      case measure => simp [intOf]; omega
    · have e : i = cap := by omega
      have hd0 : decide ((i : Int) < (cap : Int)) = false := by simp; omega
      have hfull : ∀ b, ao = some b → wr.rowIs b 41 (cap * 2) (mkT mk) := fun b hb => by
        obtain ⟨f, hr, hf⟩ := hrows b hb
        exact hr.congr (fun q hq => hf q (by omega))
      have hIw : HeldInv wr h { s with n := s.n + 1 } := HI1.out.of_blocks fun b u => hq.block b (HI1.out.used_lt u) (fun e => by
        obtain ⟨f, hr⟩ := HR1.out b e
        have hF := HNe.out b (by rw [HOB.out]; exact e)
        rcases HI1.out.used_spot u (row_ty hr) with ⟨x, hx, hxb⟩ | ⟨x, hx, j, hj, hxb⟩
        · exact hF.1 x hx hxb
        · exact hF.2 x hx j hj hxb)
      have HFull := hide hfull
      have HIw := hide hIw
      have HQ := hide hq
      clear hfull hIw hq hrows
      have c5 : wr.cell? ⟨h, 2 + 4, none⟩ = some s.vT := by rw [HIw.out.wd.cell (by omega)]; rfl
      have z5 := HIw.out.wd.frozen 6
      have hhl := HIw.out.wd.lt
      obtain ⟨i0, hi0, hz0, hz1, hz2⟩ := info_parts info_ht
      obtain ⟨ys, hys⟩ : ∃ ys, ys = s.T.flatMap seC := ⟨_, rfl⟩
      have hoS : wr.ownsRow h 164 2 s.vT s.T.length ys := by
        rw [hys]; exact HIw.out.oT
      have HX2 := hide hys
      clear hys
      have hplen : (s.T.length : Int) ≤ 1099511627776 := by
        have hlo := HIw.out.lo
        simp at hlo; omega
      go_wp2_with (at_builtin; refine wpList_append_lies _ rfl _ _ 29 rfl h 164 i0 (.agg #[.slice none 0 0, .int .i64 0]) 2 32 Try.underlying29 hi0 hz0 hz1 hz2 rfl (by omega) s.vT s.T.length ys rfl (hoS.alloc _) ⟨wr.heap.size, 0, none⟩ 1 1 [.slice ad cap cap, .int .i64 mk] rfl rfl ?d1 ?d2 (by omega) ?d3 ?d4 ?d5 (wr.heap.size + 1) (by simp) ?_)
      try (case d1 => exact news_sp wr [.slice ad cap cap, .int .i64 mk] _ _ rfl)
      case d2 => first | exact ⟨rfl, rfl⟩ | (intro u hu; simp at hu; rcases hu with rfl | rfl <;> rfl)
      case d3 => unfold maxLen; omega
      case d4 => omega
      case d5 => first | omega | (simp; omega)
      intro g1 cap1 w2 hown2 hgrow hat hlt2
      rw [HM.out, HX2.out, HAD.out] at hown2
      have hty : some h ≠ s.vT.ownBlock := fun e => by
        have := owns_ty hoS e.symm
        rw [row_ty HIw.out.wd] at this
        simp at this
      have hI2 : HeldInv (w2.setCell ⟨h, 6, none⟩ (.slice (some ⟨g1, 0, none⟩) (s.T.length + 1) cap1)) h { ({ s with n := s.n + 1 } : HS) with vT := .slice (some ⟨g1, 0, none⟩) (s.T.length + 1) cap1, T := s.T ++ [(ao, cap, s.n + 1)] } :=
        HeldInv.pushT (b := ao) (m := cap) (g := g1) (cap := cap1) HIw.out (fun b hb => by show wr.rowIs b _ (cap * 2) (mkT (s.n + 1)); rw [← HM.out]; exact HFull.out b hb) HNil.out hcap (by have := HH.out.lo; simp at this ⊢; omega) hown2 hgrow hat
      have hT2 : Touch (spotS h s (.slice (ao.map fun b => ⟨b, 0, none⟩) n cap)) w (w2.setCell ⟨h, 6, none⟩ (.slice (some ⟨g1, 0, none⟩) (s.T.length + 1) cap1)) := by
        have t0 : Touch (spotS h s (.slice (ao.map fun b => ⟨b, 0, none⟩) n cap)) w w := Touch.refl _ _
        have t1 := t0.trans' HT1.out (fun x hx => .inl (.inl hx))
        have t2 := t1.trans' HQ.out (fun x hx => .inl (.inr (.inr (by rw [HOB.out]; exact hx))))
        have t3 := (t2.alloc _).grown hgrow (fun b hb => .inl (.inr (.inl hb)))
        exact t3.setCell (.inl (.inl (by rfl))) _
      have hsw : w.heap.size ≤ wr.heap.size := Nat.le_trans HT1.out.size HQ.out.size
      have hK : SpotsKept w s { ({ s with n := s.n + 1 } : HS) with vT := .slice (some ⟨g1, 0, none⟩) (s.T.length + 1) cap1, T := s.T ++ [(ao, cap, s.n + 1)] } (.slice (ao.map fun b => ⟨b, 0, none⟩) n cap) := by
        refine ⟨rfl, rfl, rfl, rfl, rfl, rfl, rfl, rfl, fun e he => ?_, ?_⟩
        · rcases List.mem_append.1 he with he | he
          · exact .inl he
          · simp at he; subst he; exact .inr HOB.out.symm
        · rcases hat with hat | hat
          · exact .inl (by rw [hat]; rfl)
          · exact .inr ⟨g1, rfl, by omega⟩
      have HK := hide hK
      have HI2 := hide hI2
      have HT2 := hide hT2
      have c5' := (hgrow.cell_far ⟨h, 2 + 4, none⟩ (by simp; omega) hty).trans (by go_simp : _ = some s.vT)
      have z5' := (hgrow.frozen_far ⟨h, 6, none⟩ (by simp; omega) hty).trans (by go_simp : _ = false)
      clear hown2 hgrow hat hty hoS hI2 hT2 hK
      go_wp2
      go_end0
      exact ⟨rfl, by rw [HAD.out]; exact HT2.out, _, HI2.out, by rw [HAD.out]; exact HK.out⟩
end Go.Proofs.Ytkhcjkmifddlbaa

/- HeldR -/
namespace Go.Proofs.Ytkhcjkmifddlbaa
open Go.RowKit Go.Deep

set_option maxRecDepth 100000 in
set_option maxHeartbeats 1000000 in
theorem sameRings_any (v v' : Value) (base base' m : Nat) (V V' : Nat → Value) (L : Nat → List (Int × Int)) (w : World) (hm : m ≤ 4294967296) (hl : ∀ i, i < m → (L i).length ≤ 4294967296) (h1 : SpRings w base v m V L) (h2 : SpRings w base' v' m V' L) :
    Calls Try.prog 65 #[v, v'] w fun e w' => e = .returned (.bool true) ∧ Below w.heap.size w w' ∧ w'.heap = w.heap := by
  obtain ⟨ao, cap, rfl, ha⟩ := owns_formN h1.outer
  obtain ⟨ao', cap', rfl, ha'⟩ := owns_formN h2.outer
  have H1 := hide h1
  have H2 := hide h2
  have HL := hide hl
  have HA := hide ha
  have HA' := hide ha'
  clear h1 h2 ha ha' hl
  go_enter Try.func65, Try.ntmps65
  go_wp2_with fail
  go_loopw [5] (fun i wr => ∃ k : Nat, k ≤ m ∧ i = .int .i64 k ∧ Below w.heap.size w wr ∧ wr.heap = w.heap) (fun i _ => m - (intOf i).toNat)
  case atStart => exact ⟨0, by omega, rfl, Below.refl _ _, rfl⟩
  case round =>
    obtain ⟨k, hk, rfl, hb, hheap⟩ := hrel
    by_cases hlt : k < m
    · obtain ⟨b, rfl⟩ := HA.out (by omega)
      obtain ⟨b', rfl⟩ := HA'.out (by omega)
      have q0 := H1.out.outer.cellAt k (by omega)
      have r0 := H2.out.outer.cellAt k (by omega)
      rw [List.getElem?_map, List.getElem?_range hlt] at q0 r0
      simp only [Option.map_some] at q0 r0
      have HCq := hide (fun (W : World) (hW : W.heap = w.heap) => sameSpots_any (V k) (V' k) base base' (L k) W (HL.out k hlt) (owns_of_block (H1.out.inner k hlt) (fun b _ => by rw [hW])) (owns_of_block (H2.out.inner k hlt) (fun b _ => by rw [hW])))
      obtain ⟨a1, c1, hv1, _⟩ := owns_formN (H1.out.inner k hlt)
      obtain ⟨a2, c2, hv2, _⟩ := owns_formN (H2.out.inner k hlt)
      rw [hv1] at q0 HCq
      rw [hv2] at r0 HCq
      clear hv1 hv2
      have q1 : wr.cell? ⟨b, k, none⟩ = some (.slice a1 (L k).length c1) := by rw [← q0]; unfold World.cell?; rw [hheap]
      have r1 : wr.cell? ⟨b', k, none⟩ = some (.slice a2 (L k).length c2) := by rw [← r0]; unfold World.cell?; rw [hheap]
      have HHp := hide hheap
      have HB := hide hb
      clear q0 r0 hheap hb
      have g0 : (0 : Int) ≤ (k : Int) := by omega
      have g1 : (k : Int) < (m : Int) := by omega
      have hd1 : decide ((k : Int) < (m : Int)) = true := by simp; omega
      go_wp2_with fail
      go_region_held3 (fun w' => w'.cell? ⟨b, k, none⟩ = some (.slice a1 (L k).length c1) ∧ w'.cell? ⟨b', k, none⟩ = some (.slice a2 (L k).length c2)) (first | exact ⟨q1, r1⟩ | go_keep) ((go_at_call 61; refine (HCq.out wr.drew HHp.out).mono ?_; rintro e w' ⟨rfl, n5, rfl⟩))
      all_goals
        go_wp2
        go_roundw
        case rel => exact ⟨k + 1, by omega, by go_num, by have := HB.out; (repeat (any_goals (first | exact Below.refl _ _ | assumption | refine Below.drew ?_ | refine below_drewN ?_ _ | refine Below.setCell ?_ ?_ _ | refine Below.alloc ?_ ?_ _ | omega | (simp; done) | (simp; omega)))), HHp.out⟩
        case measure => simp [intOf]; omega
    · go_wp2
      go_ret
      exact ⟨rfl, hb, hheap⟩

theorem info_hr : (Try.prog.info? 166).map (fun i => (i.zero, i.size, i.bytes)) = some (some (.agg #[.slice none 0 0, .int .i64 0]), 2, 32) := by kernel_rfl
theorem mkT_cells (n : Int) (w : World) (t : TypeId) : (w.alloc (.cells #[.int .i64 (2199023255552 + n), .int .i64 (-7)] t)).rowIs w.heap.size t 2 (mkT n) := by
  refine World.rowIs_alloc w #[.int .i64 (2199023255552 + n), .int .i64 (-7)] t (mkT n) (fun i hi => ?_)
  have hi : i < 2 := hi
  rcases (show i = 0 ∨ i = 1 by omega) with rfl | rfl <;> rfl

/-- One ring of the list becomes a list of one mark. -/
theorem ring_step {w1 wr : World} {ob M k : Nat} {F : Nat → Nat} {f0 : Nat → Value} {n : Int} {o : Obj} (hT : Touch (fun b => b = ob) w1 wr)
    (hrow : wr.rowIs ob 48 M (fun j => if j < k then .slice (some ⟨F j, 0, none⟩) 1 1 else f0 j))
    (hF : ∀ j, j < k → w1.heap.size ≤ F j ∧ wr.rowIs (F j) 41 2 (mkT n)) :
    Touch (fun b => b = ob) w1 (((wr.setCell ⟨ob, k, none⟩ (.slice (some ⟨wr.heap.size + 1, 0, none⟩) 1 1)).alloc o).alloc (.cells #[.int .i64 (2199023255552 + n), .int .i64 (-7)] 41)) ∧
    ∃ F' : Nat → Nat, (((wr.setCell ⟨ob, k, none⟩ (.slice (some ⟨wr.heap.size + 1, 0, none⟩) 1 1)).alloc o).alloc (.cells #[.int .i64 (2199023255552 + n), .int .i64 (-7)] 41)).rowIs ob 48 M (fun j => if j < k + 1 then .slice (some ⟨F' j, 0, none⟩) 1 1 else f0 j) ∧
      ∀ j, j < k + 1 → w1.heap.size ≤ F' j ∧ (((wr.setCell ⟨ob, k, none⟩ (.slice (some ⟨wr.heap.size + 1, 0, none⟩) 1 1)).alloc o).alloc (.cells #[.int .i64 (2199023255552 + n), .int .i64 (-7)] 41)).rowIs (F' j) 41 2 (mkT n) := by
  have hs := hT.size
  refine ⟨((hT.setCell (.inl (by rfl)) _).alloc _).alloc _, fun j => if j = k then wr.heap.size + 1 else F j, ?_, ?_⟩
  · refine (((hrow.set k _).alloc _).alloc _).congr fun j hj => ?_
    by_cases e : j = k
    · subst e; simp
    · by_cases e2 : j < k
      · simp [e, e2, show j < k + 1 by omega]
      · simp [e, e2, show ¬ j < k + 1 by omega]
  · intro j hj
    by_cases e : j = k
    · subst e
      simp only [if_pos]
      refine ⟨by omega, ?_⟩
      have := mkT_cells n ((wr.setCell ⟨ob, j, none⟩ (.slice (some ⟨wr.heap.size + 1, 0, none⟩) 1 1)).alloc o) 41
      rw [nblk_alloc, nblk_setCell] at this
      exact this
    · simp only [if_neg e]
      obtain ⟨h1, h2⟩ := hF j (by omega)
      exact ⟨h1, ((h2.setOther (by simpa using row_ne h2 hrow (by decide)) _).alloc _).alloc _⟩

/-- What rings may write. -/
def ringS (h m : Nat) (s : HS) (x : Value) (V : Nat → Value) (b : Nat) : Prop := b = h ∨ s.vT.ownBlock = some b ∨ s.vR.ownBlock = some b ∨ x.ownBlock = some b ∨ ∃ i, i < m ∧ (V i).ownBlock = some b
/-- All spots and rings that are held lie below block B. -/
def HS.UnderR (s : HS) (B : Nat) : Prop := (∀ e ∈ s.T, ∀ b, e.1 = some b → b < B) ∧ ∀ e ∈ s.R, (∀ b, e.1 = some b → b < B) ∧ ∀ i, i < e.2.1 → e.2.2.1 i < B
theorem HeldInv.underR {w : World} {h : Nat} {s : HS} (H : HeldInv w h s) : s.UnderR w.heap.size :=
  ⟨fun e he b hb => (H.eT e he b hb).lt, fun e he => ⟨fun b hb => (H.eR e he b hb).lt, fun i hi => (H.eJ e he i hi).lt⟩⟩

/-- The state while the rings are marked, one by one. -/
structure RingSt (w wr : World) (h base k m : Nat) (s s' : HS) (x : Value) (V : Nat → Value) (L : Nat → List (Int × Int)) : Prop where
  inv : HeldInv wr h s'
  n : s'.n = s.n + k
  cs : s'.cs = s.cs
  rs : s'.rs = s.rs
  R : s'.R = s.R
  vR : s'.vR = s.vR
  T : ∀ e ∈ s'.T, e ∈ s.T ∨ ∃ i, i < k ∧ e.1 = (V i).ownBlock
  vT : s'.vT.ownBlock = s.vT.ownBlock ∨ ∃ g, s'.vT.ownBlock = some g ∧ w.heap.size ≤ g
  touch : Touch (ringS h m s x V) w wr
  outer : wr.ownsRow base 48 1 x m ((List.range m).map V)
  inner : ∀ i, k ≤ i → i < m → wr.ownsRow base 41 2 (V i) (L i).length ((L i).flatMap spC)

theorem RingSt.free {w wr : World} {h base k m : Nat} {s s' : HS} {x : Value} {V : Nat → Value} {L : Nat → List (Int × Int)} (H : RingSt w wr h base k m s s' x V L) (hx : SpRings w base x m V L) (hu : s.UnderR base) (hk : k < m) : ∀ b, (V k).ownBlock = some b → s'.Free b := by
  intro b hb
  have hge := ((hx.inner k hk).lt b hb).1
  refine ⟨fun e he e1 => ?_, fun e he i hi e1 => ?_⟩
  · rcases H.T e he with h1 | ⟨i, hi, h1⟩
    · have := hu.1 e h1 b e1; omega
    · exact hx.inj i k (by omega) hk (by omega) b (by rw [← h1]; exact e1) hb
  · rw [H.R] at he
    have := (hu.2 e he).2 i hi
    omega

theorem RingSt.step {w wr w' : World} {h base k m : Nat} {s s' s'' : HS} {x : Value} {V : Nat → Value} {L : Nat → List (Int × Int)} (H : RingSt w wr h base k m s s' x V L) (hx : SpRings w base x m V L) (hk : k < m) (hT : Touch (spotS h s' (V k)) wr w') (hI : HeldInv w' h s'') (hK : SpotsKept wr s' s'' (V k)) : RingSt w w' h base (k + 1) m s s'' x V L := by
  have hsz := H.touch.size
  have tyH := row_ty H.inv.wd
  have notS : ∀ b t, tyOf wr b = some t → t ≠ 35 → t ≠ 164 → (V k).ownBlock ≠ some b → ¬ spotS h s' (V k) b := by
    rintro b t ht h1 h2 h3 (rfl | h4 | h4)
    · rw [tyH] at ht; simp at ht; exact h1 ht.symm
    · rw [owns_ty H.inv.oT h4] at ht; simp at ht; exact h2 ht.symm
    · exact h3 h4
  refine { inv := hI, n := by rw [hK.n, H.n]; omega, cs := hK.cs.trans H.cs, rs := hK.rs.trans H.rs, R := hK.R.trans H.R, vR := hK.vR.trans H.vR, T := ?T, vT := ?vT, touch := ?touch, outer := ?outer, inner := ?inner }
  case T =>
    intro e he
    rcases hK.T e he with h1 | h1
    · rcases H.T e h1 with h2 | ⟨i, hi, h2⟩
      · exact .inl h2
      · exact .inr ⟨i, by omega, h2⟩
    · exact .inr ⟨k, by omega, h1⟩
  case vT =>
    rcases hK.vT with h1 | ⟨g, h1, h2⟩
    · rcases H.vT with h3 | ⟨g, h3, h4⟩
      · exact .inl (h1.trans h3)
      · exact .inr ⟨g, h1.trans h3, h4⟩
    · exact .inr ⟨g, h1, by omega⟩
  case touch =>
    refine H.touch.trans' hT (fun b hb => ?_)
    rcases hb with rfl | hb | hb
    · exact .inl (.inl rfl)
    · rcases H.vT with h3 | ⟨g, h3, h4⟩
      · exact .inl (.inr (.inl (h3 ▸ hb)))
      · rw [h3] at hb; simp at hb; subst hb; exact .inr h4
    · exact .inl (.inr (.inr (.inr (.inr ⟨k, hk, hb⟩))))
  case outer =>
    refine owns_of_block H.outer (fun b hb => hT.block b (H.outer.lt b hb).2 (notS b _ (owns_ty H.outer hb) (by decide) (by decide) (fun e => ?_)))
    have h1 := owns_ty H.outer hb
    rw [owns_ty (H.inner k (Nat.le_refl _) hk) e] at h1
    simp at h1
  case inner =>
    intro i hi hm
    refine owns_of_block (H.inner i (by omega) hm) (fun b hb => hT.block b ((H.inner i (by omega) hm).lt b hb).2 (notS b _ (owns_ty (H.inner i (by omega) hm) hb) (by decide) (by decide) (fun e => ?_)))
    exact hx.inj k i hk hm (by omega) b e hb
end Go.Proofs.Ytkhcjkmifddlbaa

/- HeldQ -/
namespace Go.Proofs.Ytkhcjkmifddlbaa
open Go.RowKit Go.Deep

set_option maxRecDepth 100000 in
set_option maxHeartbeats 4000000 in
theorem heldRings_any (h m base : Nat) (x : Value) (V : Nat → Value) (L : Nat → List (Int × Int)) (s : HS) (w : World) (hm : m ≤ 65536) (H : HeldInv w h s) (hx : SpRings w base x m V L) (hu : s.UnderR base) (hn : s.n + m + 1 ≤ 1099511627776) :
    Calls Try.prog 66 #[.pointer (some ⟨h, 2, none⟩), x] w fun e w' => e = .returned (.tuple #[]) ∧ Touch (ringS h m s x V) w w' ∧ ∃ s', HeldInv w' h s' ∧ s'.n = s.n + m + 1 ∧ s'.cs = s.cs ∧ s'.rs = s.rs := by
  have l0 : 0 ≤ s.n := by have := H.lo; omega
  have HX := hide hx
  have HU := hide hu
  have hst : RingSt w w h base 0 m s s x V L := ⟨H, by simp, rfl, rfl, rfl, rfl, fun e he => .inl he, .inl rfl, Touch.refl _ _, hx.outer, fun i _ hi => hx.inner i hi⟩
  have HSt := hide hst
  have hform : ∃ (ao : Option Nat) (cap : Nat), x = .slice (ao.map fun b => ⟨b, 0, none⟩) m cap ∧ m ≤ cap ∧ (cap : Int) ≤ 9223372036854775807 ∧ x.ownBlock = ao ∧ (ao = none → cap = 0) := by
    rcases hx.outer.2 with ⟨rfl, h0⟩ | ⟨g, cap, cur, rfl, _, hg, hle, hcap, hsz, _⟩
    · exact ⟨none, 0, by rw [h0]; rfl, by omega, by omega, rfl, fun _ => rfl⟩
    · exact ⟨some g, cap, rfl, hle, by unfold maxLen at hcap; omega, rfl, (fun e => by cases e)⟩
  obtain ⟨ao, cap, rfl, hle, hcap, hob, hnil⟩ := hform
  have HNil := hide hnil
  have HOB := hide hob
  obtain ⟨ad, had⟩ : ∃ ad, ad = ao.map (fun b => (⟨b, 0, none⟩ : Addr)) := ⟨_, rfl⟩
  rw [← had] at HX HSt ⊢
  have HAD := hide had
  have hcapn : ad = none → cap = 0 := fun e => by
    rw [had] at e
    cases ao with
    | none => exact hnil rfl
    | some b => simp at e
  clear H hx hu hst hnil hob had
  go_enter Try.func66, Try.ntmps66
  go_wp2_with fail
  go_loopw [4] (fun t wr => ∃ (k : Nat) (s' : HS), k ≤ m ∧ t = .int .i64 k ∧ RingSt w wr h base k m s s' (.slice ad m cap) V L) (fun t _ => m - (intOf t).toNat)
  case atStart => exact ⟨0, s, by omega, rfl, HSt.out⟩
  case round =>
    obtain ⟨k, s1, hk, rfl, hR⟩ := hrel
    by_cases hlt : k < m
    · have hd1 : decide ((k : Int) < (m : Int)) = true := by simp; omega
      have hexb : ∃ b, ad = some ⟨b, 0, none⟩ := by
        rw [HAD.out]
        cases hao : ao with
        | none => have := HNil.out hao; omega
        | some b => exact ⟨b, rfl⟩
      obtain ⟨b, rfl⟩ := hexb
      have ci := hR.outer.cellAt k (by omega)
      rw [List.getElem?_map, List.getElem?_range hlt] at ci
      simp only [Option.map_some] at ci
      have hs1n : s1.n + 1 ≤ 1099511627776 := by rw [hR.n]; omega
      have HC := hide (heldSpots_any h _ base (V k) _ s1 wr hR.inv (hR.inner k (Nat.le_refl _) hlt) (hR.free HX.out HU.out hlt) hs1n)
      have HRs := hide hR
      have g0 : (0 : Int) ≤ (k : Int) := by omega
      have g1 : (k : Int) < (m : Int) := by omega
      clear hR
      go_wp2_with fail
      refine HC.out.mono ?_
      rintro e w2 ⟨rfl, hT2, s2, hI2, hK2⟩
      have HR2 := hide (HRs.out.step HX.out hlt hT2 hI2 hK2)
      clear hT2 hI2 hK2 ci
      go_wp2
      go_roundw
      case rel => exact ⟨k + 1, s2, by omega, by go_num, HR2.out⟩
      case measure => simp [intOf]; omega
    · have e : k = m := by omega
      subst e
      have hd0 : decide ((k : Int) < (k : Int)) = false := by simp
      have HRs := hide hR
      have hs1n : s1.n + 1 ≤ 1099511627776 := by rw [hR.n]; omega
      have hs1l : 0 ≤ s1.n := by rw [hR.n]; omega
      have hrow0 : ∀ b, ao = some b → ∃ f, wr.rowIs b 48 cap f := fun b hb => by
        rcases hR.outer.2 with ⟨e1, _⟩ | ⟨g, cap', cur, e1, _, hg, hle', hcap', hsz', _⟩
        · rw [HAD.out, hb] at e1; simp at e1
        · rw [HAD.out, hb] at e1
          simp at e1
          obtain ⟨rfl, rfl⟩ := e1
          exact ⟨fun q => cur[q]?.getD undef, cur, hg, by rw [hsz', Nat.mul_one], fun i hi => by simp [show i < cur.size by omega]⟩
      have HRow := hide hrow0
      clear hR hrow0
      go_wp2_with fail
      refine (mark_any h _ _ HRs.out.inv hs1n).mono ?_
      rintro e w1 ⟨rfl, hw1⟩
      have hT1 : Touch (fun b => b = h) wr w1 := by rw [hw1]; exact Touch.setCell (S := fun b => b = h) (Touch.refl _ _) (.inl (by rfl)) _
      have hI1 : HeldInv w1 h { s1 with n := s1.n + 1 } := by rw [hw1]; exact HRs.out.inv.marked hs1n
      have hR1 : ∀ b, ao = some b → ∃ f, w1.rowIs b 48 cap f := fun b hb => by
        obtain ⟨f, hf⟩ := HRow.out b hb
        exact ⟨f, hT1.row hf (row_ne hf HRs.out.inv.wd (by decide))⟩
      have HT1 := hide hT1
      have HI1 := hide hI1
      have HR1 := hide hR1
      clear hw1 hT1 hI1 hR1
      obtain ⟨mk, hmk⟩ : ∃ mk, mk = s1.n + 1 := ⟨_, rfl⟩
      rw [← hmk]
      have m0 : 0 ≤ mk := by omega
      have m1 : mk ≤ 1099511627776 := by omega
      have HM := hide hmk
      clear hmk
      go_wp2_with fail
      go_loopw [7] (fun t wq => ∃ (i : Nat) (F : Nat → Nat), i ≤ cap ∧ t = .int .i64 i ∧ Touch (fun b => ao = some b) w1 wq ∧ (∀ b, ao = some b → ∃ f0 : Nat → Value, wq.rowIs b 48 cap (fun j => if j < i then .slice (some ⟨F j, 0, none⟩) 1 1 else f0 j)) ∧ ∀ j, j < i → w1.heap.size ≤ F j ∧ wq.rowIs (F j) 41 2 (mkT mk)) (fun t _ => cap - (intOf t).toNat)
      case atStart =>
        refine ⟨0, fun _ => 0, by omega, rfl, Touch.refl _ _, fun b hb => ?_, by omega⟩
        obtain ⟨f, hf⟩ := HR1.out b hb
        exact ⟨f, hf.congr (fun j _ => by simp)⟩
      case round =>
        obtain ⟨wq, rfl⟩ : ∃ wq, wq = wr := ⟨_, rfl⟩
        obtain ⟨i, F, hi, rfl, hq, hrows, hF⟩ := hrel
        by_cases hlti : i < cap
        · have hdi : decide ((i : Int) < (cap : Int)) = true := by simp; omega
          have hex : ∃ b, ao = some b := by
            cases hao : ao with
            | none =>
              exfalso
              have := HNil.out hao
              omega
            | some b => exact ⟨b, rfl⟩
          obtain ⟨b, hao⟩ := hex
          obtain ⟨f0, hr⟩ := hrows b hao
          have had : ad = some ⟨b, 0, none⟩ := by rw [HAD.out, hao]; rfl
          subst had
          have hbl := hr.lt
          have c0 := hr.cell (i := i) hlti
          have z0 := hr.frozen i
          have g0 : (0 : Int) ≤ (i : Int) := by omega
          have g1 : (i : Int) < (cap : Int) := by omega
          have hq' : Touch (fun q => q = b) w1 wq := ⟨hq.os, hq.tape, hq.output, hq.size, fun q h1 h2 => hq.block q h1 (fun e => h2 (by rw [hao] at e; exact (Option.some.inj e).symm))⟩
          have HS := hide (ring_step (o := .cells #[.int .i64 (2199023255552 + mk), .int .i64 (-7)] 41) hq' hr hF)
          have HAo := hide hao
          clear hr hq hq' hF hrows hao
          go_wp2_with fail
          refine (markSpot_any _ _ m0 m1).mono ?_
          rintro e w2 ⟨rfl, rfl⟩
          go_wp2
          go_roundw
          case rel =>
            obtain ⟨t1, F', r1, f1⟩ := HS.out
            refine ⟨i + 1, F', by omega, by go_num, ⟨t1.os, t1.tape, t1.output, t1.size, fun q h1 h2 => t1.block q h1 (fun e => h2 (by rw [e]; exact HAo.out))⟩, fun b' hb' => ?_, f1⟩
            have e : b' = b := (Option.some.inj (HAo.out.symm.trans hb')).symm
            subst e
            exact ⟨f0, r1⟩
          case measure => simp [intOf]; omega
        · have e : i = cap := by omega
          subst e
          have hdi : decide ((i : Int) < (i : Int)) = false := by simp
          have hfull : ∀ b, ao = some b → wq.rowIs b 48 i (fun j => .slice (some ⟨F j, 0, none⟩) 1 1) := fun b hb => by
            obtain ⟨f0, hr⟩ := hrows b hb
            exact hr.congr (fun j hj => by simp [hj])
          have hIw : HeldInv wq h { s1 with n := s1.n + 1 } := HI1.out.of_blocks fun b u => hq.block b (HI1.out.used_lt u) (fun e => by
            obtain ⟨f, hr⟩ := HR1.out b e
            obtain ⟨y, hy, hyb⟩ := HI1.out.used_ring u (row_ty hr)
            have hy' : y ∈ s.R := by rw [← HRs.out.R]; exact hy
            have h1 := (HU.out.2 y hy').1 b hyb
            have h2 := (HX.out.outer.lt b (by rw [HAD.out, ← HOB.out] at *; rw [HOB.out, e])).1
            omega)
          have HFull := hide hfull
          have HIw := hide hIw
          have HQ := hide hq
          have HF := hide hF
          clear hfull hIw hq hrows hF
          have c5 : wq.cell? ⟨h, 2 + 5, none⟩ = some s1.vR := by rw [HIw.out.wd.cell (by omega)]; rfl
          have z5 := HIw.out.wd.frozen 7
          have hhl := HIw.out.wd.lt
          obtain ⟨i0, hi0, hz0, hz1, hz2⟩ := info_parts info_hr
          obtain ⟨ys, hys⟩ : ∃ ys, ys = s1.R.flatMap reC := ⟨_, rfl⟩
          have hoS : wq.ownsRow h 166 2 s1.vR s1.R.length ys := by
            rw [hys]; exact HIw.out.oR
          have HX2 := hide hys
          clear hys
          have hplen : (s1.R.length : Int) ≤ 1099511627776 := by
            have hlo := HIw.out.lo
            simp at hlo; omega
          go_wp2_with (at_builtin; refine wpList_append_lies _ rfl _ _ 30 rfl h 166 i0 (.agg #[.slice none 0 0, .int .i64 0]) 2 32 Try.underlying30 hi0 hz0 hz1 hz2 rfl (by omega) s1.vR s1.R.length ys rfl (hoS.alloc _) ⟨wq.heap.size, 0, none⟩ 1 1 [.slice ad i i, .int .i64 mk] rfl rfl ?d1 ?d2 (by omega) ?d3 ?d4 ?d5 (wq.heap.size + 1) (by simp) ?_)
          try (case d1 => exact news_sp wq [.slice ad i i, .int .i64 mk] _ _ rfl)
          case d2 => first | exact ⟨rfl, rfl⟩ | (intro u hu; simp at hu; rcases hu with rfl | rfl <;> rfl)
          case d3 => unfold maxLen; omega
          case d4 => omega
          case d5 => first | omega | (simp; omega)
          intro g1 cap1 w2 hown2 hgrow hat hlt2
          rw [HM.out, HX2.out, HAD.out] at hown2
          have hty : some h ≠ s1.vR.ownBlock := fun e => by
            have := owns_ty hoS e.symm
            rw [row_ty HIw.out.wd] at this
            simp at this
          have hI2 : HeldInv (w2.setCell ⟨h, 7, none⟩ (.slice (some ⟨g1, 0, none⟩) (s1.R.length + 1) cap1)) h { ({ s1 with n := s1.n + 1 } : HS) with vR := .slice (some ⟨g1, 0, none⟩) (s1.R.length + 1) cap1, R := s1.R ++ [(ao, i, F, s1.n + 1)] } :=
            HeldInv.pushR (b := ao) (m := i) (g := g1) (cap := cap1) (F := F) HIw.out HFull.out (fun j hj => by show wq.rowIs (F j) _ 2 (mkT (s1.n + 1)); rw [← HM.out]; exact (HF.out j hj).2) HNil.out hcap (by have := HRs.out.inv.lo; simp at this ⊢; omega) hown2 hgrow hat
          have hT2 : Touch (ringS h k s (.slice ad k i) V) w (w2.setCell ⟨h, 7, none⟩ (.slice (some ⟨g1, 0, none⟩) (s1.R.length + 1) cap1)) := by
            have t1 := HRs.out.touch.trans' HT1.out (fun q hq => .inl (.inl hq))
            have t2 := t1.trans' HQ.out (fun q hq => .inl (.inr (.inr (.inr (.inl (by rw [HAD.out, HOB.out]; exact hq))))))
            have t3 := (t2.alloc _).grown hgrow (fun b hb => .inl (.inr (.inr (.inl (by rw [← HRs.out.vR]; exact hb)))))
            exact t3.setCell (.inl (.inl (by rfl))) _
          have HI2 := hide hI2
          have HT2 := hide hT2
          have HNn : Hid (s1.n + 1 = s.n + k + 1 ∧ s1.cs = s.cs ∧ s1.rs = s.rs) := ⟨by rw [HRs.out.n], HRs.out.cs, HRs.out.rs⟩
          have c5' := (hgrow.cell_far ⟨h, 2 + 5, none⟩ (by simp; omega) hty).trans (by go_simp : _ = some s1.vR)
          have z5' := (hgrow.frozen_far ⟨h, 7, none⟩ (by simp; omega) hty).trans (by go_simp : _ = false)
          clear hown2 hgrow hat hty hoS hI2 hT2
          go_wp2
          go_end0
          exact ⟨rfl, HT2.out, _, HI2.out, HNn.out.1, HNn.out.2.1, HNn.out.2.2⟩
end Go.Proofs.Ytkhcjkmifddlbaa

/- LentB -/
namespace Go.Proofs.Ytkhcjkmifddlbaa
open Go.RowKit Go.Deep

set_option maxHeartbeats 400000 in
theorem samePoints_any (a a' : Option Addr) (n c c' : Nat) (X Y K : Nat → Int) (w : World) (hn : n ≤ 4294967296) (hr : RingAt w a n X Y K) (hr' : RingAt w a' n X Y K) :
    Calls Try.prog 86 #[.slice a n c, .slice a' n c'] w fun e w' => e = .returned (.bool true) ∧ ∃ nd, w' = w.drewN nd := by
  have HR := hide hr
  have HR' := hide hr'
  clear hr hr'
  go_enter Try.func86, Try.ntmps86
  go_wp2_with fail
  go_loopw [5] (fun i wr => ∃ k nd : Nat, k ≤ n ∧ i = .int .i64 k ∧ wr = w.drewN nd) (fun i _ => n - (intOf i).toNat)
  case atStart => exact ⟨0, 0, by omega, rfl, rfl⟩
  case round =>
    obtain ⟨k, nd, hk, rfl, rfl⟩ := hrel
    by_cases hlt : k < n
    · rcases HR.out with h | ⟨b, off, rfl, hc⟩
      · omega
      rcases HR'.out with h | ⟨b', off', rfl, hc'⟩
      · omega
      obtain ⟨c0, c1, c2⟩ := hc k hlt
      obtain ⟨d0, d1, d2⟩ := hc' k hlt
      clear hc hc'
      have g0 : (0 : Int) ≤ (k : Int) := by omega
      have g1 : (k : Int) < (n : Int) := by omega
      go_wp2
      go_quiet (fail)
      go_wp2
      go_roundw
      case rel => exact ⟨k + 1, nd + nq, by omega, by go_num, rfl⟩
      case measure => simp [intOf]; omega
    · go_wp2
      go_ret
      exact ⟨rfl, nd, rfl⟩

set_option maxHeartbeats 400000 in
theorem ink_exact (w : World) :
    Calls Try.prog 82 #[] w fun e w' => e = .returned (.agg #[.int .i64 1099511627776, .int .i64 (-7), .int .i64 9]) ∧ w' = w.alloc (.cells #[.int .i64 1099511627776, .int .i64 (-7), .int .i64 9] 133) := by
  go_enter Try.func82, Try.ntmps82
  go_wp2
  exact bodyPost_ret (v := .agg #[.int .i64 1099511627776, .int .i64 (-7), .int .i64 9]) (by simp [results, Try.results82, go_sem]) rfl ⟨rfl, rfl⟩

set_option maxHeartbeats 1000000 in
theorem lent_any (a : Option Addr) (N c base ob : Nat) (A : Nat → Option Addr) (C n B : Nat → Nat) (X Y K : Nat → Nat → Int) (w : World) (hN : N ≤ 4294967295) (hn : ∀ i, i < N → n i ≤ 4294967295)
    (hl : Lent w base ob N B n X Y K) (ho : OutAt w a N A C n X Y K) :
    Calls Try.prog 47 #[.slice (some ⟨ob, 0, none⟩) N (N + 2), .slice a N c] w fun e w' => e = .returned (.bool true) ∧ Below w.heap.size w w' := by
  have HN := hide hn
  have HO := hide ho
  have HL := hide hl
  clear hn ho hl
  go_enter Try.func47, Try.ntmps47
  go_wp2_with fail
  go_loopw [6] (fun i wr => ∃ k : Nat, k ≤ N + 2 ∧ i = .int .i64 k ∧ Below w.heap.size w wr) (fun i _ => N + 2 - (intOf i).toNat)
  case atStart => exact ⟨0, by omega, rfl, Below.refl _ _⟩
  case round =>
    obtain ⟨wo, rfl⟩ : ∃ wo, wo = wr := ⟨wr, rfl⟩
    obtain ⟨i, hi, rfl, hb⟩ := hrel
    have hsz := hb.size
    by_cases hlt : i < N + 2
    · have hd1 : decide ((i : Int) < (N : Int) + 2) = true := by simp; omega
      have HL2 := hide (HL.out.below hb)
      have oi := HL2.out.outer.cell (i := i) hlt
      by_cases hiN : i < N
      · have hln : ln N n i = n i := by unfold ln; rw [if_pos hiN]
        have HO2 := hide (HO.out.below hb)
        rcases HO2.out.1 with h | ⟨b, off, rfl, hc⟩
        · omega
        have ci := hc i hiN
        clear hc
        have hni := HN.out i hiN
        have HLN := hide hln
        rw [hln] at oi
        clear hln
        have g0 : (0 : Int) ≤ (i : Int) := by omega
        have g1 : (i : Int) < (N : Int) := by omega
        have g2 : (i : Int) < (N : Int) + 2 := by omega
        go_wp2_with fail
        have R1 := hide (HL2.out.out.2 i hiN)
        have R2 := hide (HO2.out.2 i hiN)
        go_region_held3 (fun w' => w'.cell? ⟨ob, i, none⟩ = some (.slice (some ⟨B i, 0, none⟩) (n i) (n i + 2)) ∧ w'.cell? ⟨b, off + i, none⟩ = some (.slice (A i) (n i) (C i))) (go_keep) ((go_at_call 86; refine (samePoints_any _ _ _ _ _ (X i) (Y i) (K i) _ (by omega) (by exact R1.out.below (by (repeat (any_goals (first | exact Below.refl _ _ | assumption | refine Below.drew ?_ | refine below_drewN ?_ _ | refine Below.setCell ?_ ?_ _ | refine Below.alloc ?_ ?_ _ | omega | (simp; done) | (simp; omega)))))) (by exact R2.out.below (by (repeat (any_goals (first | exact Below.refl _ _ | assumption | refine Below.drew ?_ | refine below_drewN ?_ _ | refine Below.setCell ?_ ?_ _ | refine Below.alloc ?_ ?_ _ | omega | (simp; done) | (simp; omega))))))).mono ?_; rintro e w' ⟨rfl, nd, rfl⟩))
        go_wp2_with fail
        go_loopw [10] (fun q wr => ∃ k : Nat, n i ≤ k ∧ k ≤ n i + 2 ∧ q = .int .i64 k ∧ Below w.heap.size w wr) (fun q _ => n i + 2 - (intOf q).toNat)
        case atStart => exact ⟨n i, by omega, by omega, rfl, by (repeat (any_goals (first | exact Below.refl _ _ | assumption | refine Below.drew ?_ | refine below_drewN ?_ _ | refine Below.setCell ?_ ?_ _ | refine Below.alloc ?_ ?_ _ | omega | (simp; done) | (simp; omega))))⟩
        case round =>
          obtain ⟨k, hk0, hk, rfl, hbr⟩ := hrel
          have hszr := hbr.size
          by_cases hk2 : k < n i + 2
          · have hd2 : decide ((k : Int) < ((n i : Int) + 2)) = true := by simp; omega
            obtain ⟨q0, q1, q2⟩ := row_cells ((HL.out.below hbr).inner i hlt) k (by rw [HLN.out]; omega)
            have hnl : ¬ k < ln N n i := by rw [HLN.out]; omega
            simp only [lx, ly, lk, if_neg hnl] at q0 q1 q2
            have g3 : (0 : Int) ≤ (k : Int) := by omega
            have g4 : (k : Int) < (n i : Int) + 2 := by omega
            clear hnl
            go_wp2_with fail
            go_region_held3 (fun w' => w'.cell? ⟨B i, k * 3, none⟩ = some (.int .i64 1099511627776) ∧ w'.cell? ⟨B i, k * 3 + 1, none⟩ = some (.int .i64 (-7)) ∧ w'.cell? ⟨B i, k * 3 + 2, none⟩ = some (.int .i64 9)) (go_keep) ((go_at_call 82; refine (ink_exact _).mono ?_; rintro e w' ⟨rfl, rfl⟩))
            all_goals
              go_wp2
              go_roundw
              case rel => exact ⟨k + 1, by omega, by omega, by go_num, by (repeat (any_goals (first | exact Below.refl _ _ | assumption | refine Below.drew ?_ | refine below_drewN ?_ _ | refine Below.setCell ?_ ?_ _ | refine Below.alloc ?_ ?_ _ | omega | (simp; done) | (simp; omega))))⟩
              case measure => simp [intOf]; omega
          · go_wp2
            go_roundw
            case rel => exact ⟨i + 1, by omega, by go_num, by (repeat (any_goals (first | exact Below.refl _ _ | assumption | refine Below.drew ?_ | refine below_drewN ?_ _ | refine Below.setCell ?_ ?_ _ | refine Below.alloc ?_ ?_ _ | omega | (simp; done) | (simp; omega))))⟩
            case measure => simp [intOf]; omega
      · have hln : ln N n i = 0 := by unfold ln; rw [if_neg hiN]
        have HLN := hide hln
        rw [hln] at oi
        clear hln
        have hd3 : decide ((i : Int) < (N : Int)) = false := by simp; omega
        go_wp2_with fail
        go_loopw [10] (fun q wr => ∃ k : Nat, 0 ≤ k ∧ k ≤ 2 ∧ q = .int .i64 k ∧ Below w.heap.size w wr) (fun q _ => 2 - (intOf q).toNat)
        case atStart => exact ⟨0, by omega, by omega, rfl, by (repeat (any_goals (first | exact Below.refl _ _ | assumption | refine Below.drew ?_ | refine below_drewN ?_ _ | refine Below.setCell ?_ ?_ _ | refine Below.alloc ?_ ?_ _ | omega | (simp; done) | (simp; omega))))⟩
        case round =>
          obtain ⟨k, hk0, hk, rfl, hbr⟩ := hrel
          have hszr := hbr.size
          by_cases hk2 : k < 2
          · have hd2 : decide ((k : Int) < (2)) = true := by simp; omega
            obtain ⟨q0, q1, q2⟩ := row_cells ((HL.out.below hbr).inner i hlt) k (by rw [HLN.out]; omega)
            have hnl : ¬ k < ln N n i := by rw [HLN.out]; omega
            simp only [lx, ly, lk, if_neg hnl] at q0 q1 q2
            have g3 : (0 : Int) ≤ (k : Int) := by omega
            have g4 : (k : Int) < 2 := by omega
            clear hnl
            go_wp2_with fail
            go_region_held3 (fun w' => w'.cell? ⟨B i, k * 3, none⟩ = some (.int .i64 1099511627776) ∧ w'.cell? ⟨B i, k * 3 + 1, none⟩ = some (.int .i64 (-7)) ∧ w'.cell? ⟨B i, k * 3 + 2, none⟩ = some (.int .i64 9)) (go_keep) ((go_at_call 82; refine (ink_exact _).mono ?_; rintro e w' ⟨rfl, rfl⟩))
            all_goals
              go_wp2
              go_roundw
              case rel => exact ⟨k + 1, by omega, by omega, by go_num, by (repeat (any_goals (first | exact Below.refl _ _ | assumption | refine Below.drew ?_ | refine below_drewN ?_ _ | refine Below.setCell ?_ ?_ _ | refine Below.alloc ?_ ?_ _ | omega | (simp; done) | (simp; omega))))⟩
              case measure => simp [intOf]; omega
          · go_wp2
            go_roundw
            case rel => exact ⟨i + 1, by omega, by go_num, by (repeat (any_goals (first | exact Below.refl _ _ | assumption | refine Below.drew ?_ | refine below_drewN ?_ _ | refine Below.setCell ?_ ?_ _ | refine Below.alloc ?_ ?_ _ | omega | (simp; done) | (simp; omega))))⟩
            case measure => simp [intOf]; omega
    · go_wp2
      go_ret
      exact ⟨rfl, hb⟩
end Go.Proofs.Ytkhcjkmifddlbaa
