/- Trace: the document's. -/
import Derived.Test.YthpdbbplpmmjlaaTrcC
import Derived.Test.YthpdbbplpmmjlaaCrvS
import Derived.Test.YthpdbbplpmmjlaaRefChkB
namespace Go.Proofs.Ythpdbbplpmmjlaa
open Go.RowKit Go.Deep

theorem below_of_drew {w w' : World} (h : Below w.drew.heap.size w.drew w') : Below w.heap.size w w' := ⟨h.os, h.tape, h.output, h.size, h.block⟩
theorem set_otherR {w2 : World} {h q : Nat} {v : Value} {b : Nat} (hb : b ≠ h) : (w2.setCell ⟨h, q, none⟩ v).heap[b]? = w2.heap[b]? := blk_setCell_other _ _ _ _ (by simpa using hb)
/-- A segment of a list, and a map. -/
def P15 (w' : World) (g2 j mb : Nat) (S : Num.Sg) (a b c d x y : Int) : Prop := w'.cell? ⟨g2, j * 9, none⟩ = some (.int .i64 S.k) ∧ w'.cell? ⟨g2, j * 9 + 1, none⟩ = some (.int .i64 S.x0) ∧ w'.cell? ⟨g2, j * 9 + 2, none⟩ = some (.int .i64 S.y0) ∧ w'.cell? ⟨g2, j * 9 + 3, none⟩ = some (.int .i64 S.x1) ∧ w'.cell? ⟨g2, j * 9 + 4, none⟩ = some (.int .i64 S.y1) ∧ w'.cell? ⟨g2, j * 9 + 5, none⟩ = some (.int .i64 S.x2) ∧ w'.cell? ⟨g2, j * 9 + 6, none⟩ = some (.int .i64 S.y2) ∧ w'.cell? ⟨g2, j * 9 + 7, none⟩ = some (.int .i64 S.x3) ∧ w'.cell? ⟨g2, j * 9 + 8, none⟩ = some (.int .i64 S.y3) ∧ w'.cell? ⟨mb, 0, none⟩ = some (.int .i64 a) ∧ w'.cell? ⟨mb, 1, none⟩ = some (.int .i64 b) ∧ w'.cell? ⟨mb, 2, none⟩ = some (.int .i64 c) ∧ w'.cell? ⟨mb, 3, none⟩ = some (.int .i64 d) ∧ w'.cell? ⟨mb, 4, none⟩ = some (.int .i64 x) ∧ w'.cell? ⟨mb, 5, none⟩ = some (.int .i64 y)
theorem P15.below {w w' : World} {g2 j mb : Nat} {S : Num.Sg} {a b c d x y : Int} (h : P15 w g2 j mb S a b c d x y) (hb : Below w.heap.size w w') (h1 : g2 < w.heap.size) (h2 : mb < w.heap.size) : P15 w' g2 j mb S a b c d x y := by
  obtain ⟨c0, c1, c2, c3, c4, c5, c6, c7, c8, d0, d1, d2, d3, d4, d5⟩ := h
  have e1 : ∀ o v, w.cell? ⟨g2, o, none⟩ = some v → w'.cell? ⟨g2, o, none⟩ = some v := fun o v h => (hb.cell (p := ⟨g2, o, none⟩) h1).trans h
  have e2 : ∀ o v, w.cell? ⟨mb, o, none⟩ = some v → w'.cell? ⟨mb, o, none⟩ = some v := fun o v h => (hb.cell (p := ⟨mb, o, none⟩) h2).trans h
  exact ⟨e1 _ _ c0, e1 _ _ c1, e1 _ _ c2, e1 _ _ c3, e1 _ _ c4, e1 _ _ c5, e1 _ _ c6, e1 _ _ c7, e1 _ _ c8, e2 _ _ d0, e2 _ _ d1, e2 _ _ d2, e2 _ _ d3, e2 _ _ d4, e2 _ _ d5⟩
theorem P15.of_blocks {w w' : World} {g2 j mb X : Nat} {S : Num.Sg} {a b c d x y : Int} (h : P15 w g2 j mb S a b c d x y) (e : ∀ p, p ≠ X → w'.heap[p]? = w.heap[p]?) (h1 : g2 ≠ X) (h2 : mb ≠ X) : P15 w' g2 j mb S a b c d x y := by
  have c1 : ∀ p o v, p ≠ X → w.cell? ⟨p, o, none⟩ = some v → w'.cell? ⟨p, o, none⟩ = some v := fun p o v hp h => by
    rw [← h]
    unfold World.cell?
    rw [e p hp]
  obtain ⟨c0, c1', c2, c3, c4, c5, c6, c7, c8, d0, d1, d2, d3, d4, d5⟩ := h
  exact ⟨c1 _ _ _ h1 c0, c1 _ _ _ h1 c1', c1 _ _ _ h1 c2, c1 _ _ _ h1 c3, c1 _ _ _ h1 c4, c1 _ _ _ h1 c5, c1 _ _ _ h1 c6, c1 _ _ _ h1 c7, c1 _ _ _ h1 c8, c1 _ _ _ h2 d0, c1 _ _ _ h2 d1, c1 _ _ _ h2 d2, c1 _ _ _ h2 d3, c1 _ _ _ h2 d4, c1 _ _ _ h2 d5⟩
theorem drew_blk (w : World) (p : Nat) : w.drew.heap[p]? = w.heap[p]? := rfl
theorem P15.set9 {w : World} {g2 j mb X : Nat} {S : Num.Sg} {a b c d x y : Int} {u0 u1 u2 u3 u4 u5 u6 u7 u8 : Value} (h : P15 w g2 j mb S a b c d x y) (h1 : g2 ≠ X) (h2 : mb ≠ X) : P15 (((((((((w.setCell ⟨X, 0, none⟩ u0).setCell ⟨X, 1, none⟩ u1).setCell ⟨X, 2, none⟩ u2).setCell ⟨X, 3, none⟩ u3).setCell ⟨X, 4, none⟩ u4).setCell ⟨X, 5, none⟩ u5).setCell ⟨X, 6, none⟩ u6).setCell ⟨X, 7, none⟩ u7).setCell ⟨X, 8, none⟩ u8).drew g2 j mb S a b c d x y :=
  h.of_blocks (X := X) (fun p hp => by rw [drew_blk, set_otherR hp, set_otherR hp, set_otherR hp, set_otherR hp, set_otherR hp, set_otherR hp, set_otherR hp, set_otherR hp, set_otherR hp]) h1 h2
theorem cD (w : World) (p : Addr) : w.drew.cell? p = w.cell? p := rfl
theorem cA {w : World} {b : Nat} (h : b < w.heap.size) (o' : Obj) (o : Nat) : (w.alloc o').cell? ⟨b, o, none⟩ = w.cell? ⟨b, o, none⟩ := by
  have e : Below w.heap.size w (w.alloc o') := (Below.refl _ _).alloc (Nat.le_refl _) _
  exact e.cell (p := ⟨b, o, none⟩) h
theorem cS {b X : Nat} (h : b ≠ X) (w : World) (q : Nat) (u : Value) (o : Nat) : (w.setCell ⟨X, q, none⟩ u).cell? ⟨b, o, none⟩ = w.cell? ⟨b, o, none⟩ := by
  unfold World.cell?
  rw [show (w.setCell ⟨X, q, none⟩ u).heap[b]? = w.heap[b]? from set_otherR h]
theorem keep_al {w : World} {o1 : Obj} {b o : Nat} {v : Value} (hb : b < w.heap.size) (h : w.cell? ⟨b, o, none⟩ = some v) : (w.alloc o1).cell? ⟨b, o, none⟩ = some v := by
  have e : Below w.heap.size w (w.alloc o1) := (Below.refl _ _).alloc (Nat.le_refl _) _
  exact (e.cell (p := ⟨b, o, none⟩) hb).trans h
theorem keep_ald {w : World} {o1 : Obj} {b o : Nat} {v : Value} (hb : b < w.heap.size) (h : w.cell? ⟨b, o, none⟩ = some v) : (w.alloc o1).drew.cell? ⟨b, o, none⟩ = some v := keep_al hb h

set_option maxRecDepth 100000 in
set_option maxHeartbeats 4000000 in
theorem refTrace_any (ad : Option Addr) (N cc : Nat) (A : Nat → Option Addr) (C n : Nat → Nat) (X Y K : Nat → Nat → Int) (a b c d x y : Int) (w : World) (hN : N ≤ 4294967296) (hn : ∀ i, i < N → n i ≤ 4294967296) (hS : Num.sumN n N ≤ 1099511627776) (ho : OutAt w ad N A C n X Y K) :
    Calls Try.prog 41 #[.slice ad N cc, .agg #[.int .i64 a, .int .i64 b, .int .i64 c, .int .i64 d, .int .i64 x, .int .i64 y]] w fun e w' => ∃ v V, e = .returned (.tuple #[v, .int .i64 (traceE N n X Y K ⟨a, b, c, d, x, y⟩)]) ∧ Below w.heap.size w w' ∧ SpRings w' w.heap.size v (traceN N n X Y K ⟨a, b, c, d, x, y⟩) V (traceL n X Y K ⟨a, b, c, d, x, y⟩) := by
  obtain ⟨M, hM⟩ : ∃ M : Num.Mp, M = ⟨a, b, c, d, x, y⟩ := ⟨_, rfl⟩
  rw [← hM]
  have hFM : Num.fairB M.a M.b M.c M.d M.x M.y = Num.fairB a b c d x y := by rw [hM]
  have HPl := hide (fun (g : Num.Sg) (w : World) => put_any g.k g.x0 g.y0 g.x1 g.y1 g.x2 g.y2 g.x3 g.y3 a b c d x y w)
  rw [← hM] at HPl
  have hcs := Num.chk_cases N n X Y K
  obtain ⟨TE, hTE⟩ : ∃ TE, TE = traceE N n X Y K M := ⟨_, rfl⟩
  obtain ⟨TN, hTN⟩ : ∃ TN, TN = traceN N n X Y K M := ⟨_, rfl⟩
  have hTN2 : TN = if TE = 0 then N else 0 := by rw [hTN, hTE]; rfl
  rw [← hTE, ← hTN]
  unfold traceE at hTE
  rw [hFM] at hTE
  obtain ⟨V0, hV⟩ : ∃ V, V = Num.chkV N n X Y K := ⟨_, rfl⟩
  rw [← hV] at hcs hTE
  have HV := hide hV
  have HO := hide (ho.below ((Below.refl w.heap.size w).alloc (Nat.le_refl _) (.cells #[.int .i64 a, .int .i64 b, .int .i64 c, .int .i64 d, .int .i64 x, .int .i64 y] 39)))
  have HN := hide hn
  have HMr := hide (mp6_row a b c d x y w 39)
  clear hV hTN ho hn hM hFM
  rcases hcs with ⟨h0, hm, hsh, hfa⟩ | h0
  · rw [if_pos h0] at hTE
    obtain ⟨m16, m200, mn⟩ := ok_many hm
    have HSH := hide hsh
    have HFA := hide hfa
    have HMN := hide mn
    clear hsh hfa mn hm
    obtain ⟨v0, v1, v2⟩ := V0
    have h0 : v0 = 0 := h0
    subst h0
    cases hF : Num.fairB a b c d x y
    · rw [if_pos hF] at hTE
      subst hTE
      have hTN3 : TN = 0 := by rw [hTN2]; rfl
      subst hTN3
      clear hTN2
      go_enter Try.func41, Try.ntmps41
      go_wp2_with fail
      refine (refCheck_any _ _ _ A C n X Y K _ hN HN.out hS HO.out).mono ?_
      rw [← HV.out]
      rintro e w1 ⟨rfl, hb1⟩
      have hMr1 := row_below HMr.out hb1 HMr.out.lt
      obtain ⟨d0, d1, d2, d3, d4, d5⟩ := mp6_cells hMr1
      have hz1 := hMr1.lt
      have HB1 : Hid (Below w.heap.size w w1) := Below.trans (by (repeat (any_goals (first | exact Below.refl _ _ | assumption | refine Below.drew ?_ | refine below_drewN ?_ _ | refine Below.setCell ?_ ?_ _ | refine Below.alloc ?_ ?_ _ | omega | (simp; done) | (simp; omega))))) (hb1.mono (by simp))
      clear hb1 hMr1
      go_wp2_with fail
      refine (refFair_any _ _ _ _ _ _ _).mono ?_
      rw [hF]
      rintro e w2 ⟨rfl, hb2⟩
      have HB2 := hide (HB1.out.trans (hb2.mono (by omega)))
      clear hb2 d0 d1 d2 d3 d4 d5 hF
      go_wp2
      go_ret2
      exact ⟨_, fun _ => .slice none 0 0, rfl, HB2.out, SpRings.nil _ _ _ _⟩
    · rw [if_neg (by rw [hF]; decide)] at hTE
      have HNo : Hid (traceOk N n X Y K M = false → TE = 6 ∧ TN = 0) := fun h => by
        rw [if_pos h] at hTE; rw [hTN2, hTE]; exact ⟨rfl, rfl⟩
      have HYe : Hid (traceOk N n X Y K M = true → TE = 0 ∧ TN = N) := fun h => by
        rw [if_neg (by rw [h]; decide)] at hTE; rw [hTN2, hTE]; exact ⟨rfl, rfl⟩
      obtain ⟨i0, hi0, hz0, hz1, hz2⟩ := info_parts info_sps
      obtain ⟨j0, hj0, hy0, hy1, hy2⟩ := info_parts info_spot
      clear hTE hTN2
      go_enter Try.func41, Try.ntmps41
      go_wp2_with fail
      refine (refCheck_any _ _ _ A C n X Y K _ hN HN.out hS HO.out).mono ?_
      rw [← HV.out]
      rintro e w1 ⟨rfl, hb1⟩
      have hMr1 := row_below HMr.out hb1 HMr.out.lt
      obtain ⟨d0, d1, d2, d3, d4, d5⟩ := mp6_cells hMr1
      have hz1' := hMr1.lt
      have HMr1 := hide hMr1
      have HB1 : Hid (Below w.heap.size w w1) := Below.trans (by (repeat (any_goals (first | exact Below.refl _ _ | assumption | refine Below.drew ?_ | refine below_drewN ?_ _ | refine Below.setCell ?_ ?_ _ | refine Below.alloc ?_ ?_ _ | omega | (simp; done) | (simp; omega))))) (hb1.mono (by simp))
      have HO1 := hide (HO.out.below hb1)
      clear hb1 hMr1
      go_wp2_with fail
      refine (refFair_any _ _ _ _ _ _ _).mono ?_
      rw [hF]
      rintro e w2 ⟨rfl, hb2⟩
      have hs2 := hb2.size
      have HB2 := hide (HB1.out.trans (hb2.mono (by omega)))
      have HO2 := hide (HO1.out.below hb2)
      have HMr2 := hide (row_below HMr1.out hb2 hz1')
      have hz2' := HMr2.out.lt
      clear hb2 d0 d1 d2 d3 d4 d5 hF
      go_wp2_with fail
      go_loopw [10, 11] (fun v t wr => ∃ (k : Nat) (V : Nat → Value), k ≤ N ∧ t = .int .i64 k ∧ Below w2.heap.size w2 wr ∧ (∀ i, i < k → Num.ringOk M (ringL n X Y K i) = true) ∧ SpRings wr w2.heap.size v k V (traceL n X Y K M)) (fun _ t _ => N - (intOf t).toNat)
      case atStart => exact ⟨0, fun _ => .slice none 0 0, by omega, rfl, Below.refl _ _, fun i hi => by omega, SpRings.nil _ _ _ _⟩
      case round =>
        obtain ⟨vout, rfl⟩ : ∃ v, v = u10 := ⟨_, rfl⟩
        obtain ⟨wo, rfl⟩ : ∃ wo, wo = wr := ⟨wr, rfl⟩
        obtain ⟨k, V, hk, rfl, hb, hok, hSR⟩ := hrel
        have hsz := hb.size
        by_cases hlt : k < N
        · have hdk : decide ((k : Int) < (N : Int)) = true := by simp; omega
          have HOo := hide (HO2.out.below hb)
          rcases HOo.out.1 with h | ⟨bo, off, rfl, hc⟩
          · omega
          have ci := hc k hlt
          clear hc
          obtain ⟨s2, sb⟩ := ok_shape (HSH.out k hlt)
          obtain ⟨fX, fY⟩ := ok_far (HFA.out k hlt)
          have hnk := HMN.out k hlt
          have hrl : (ringL n X Y K k).length ≤ 4000 := by have := refRing_len (X k) (Y k) (K k) (n k); unfold ringL; omega
          have HKd := hide (ringL_kd (X := X) (Y := Y) s2 sb)
          have HC := hide (refRing_any (A k) (n k) (C k) (X k) (Y k) (K k) wo (by omega) (by omega) fX fY (HOo.out.2 k hlt))
          have HSR := hide hSR
          have HOk := hide hok
          have HB := hide hb
          have hk0 : (0 : Int) ≤ (k : Int) := by omega
          have hk1 : (k : Int) < (N : Int) := by omega
          clear sb fX fY hSR hok hb
          go_wp2_with fail
          refine HC.out.mono ?_
          rintro e w3 ⟨vl, rfl, hb3, hownL⟩
          have hs3 := hb3.size
          have HB3 := hide (HB.out.trans (hb3.mono hsz))
          have HSR3 := hide (HSR.out.below hb3)
          have HMr3 := hide (row_below HMr2.out HB3.out hz2')
          have hz3' := HMr3.out.lt
          obtain ⟨L, hL⟩ : ∃ L, L = ringL n X Y K k := ⟨_, rfl⟩
          have hownL2 : w3.ownsRow wo.heap.size 44 9 vl L.length (L.flatMap sgC) := by rw [hL]; exact hownL
          rw [← hL] at hrl HKd
          have HLe := hide hL
          have HOkN : Hid (Num.ringOk M L = false → TE = 6 ∧ TN = 0) := fun h => HNo.out (traceOk_no hlt (by rw [← hL]; exact h))
          obtain ⟨al, cl, rfl, hal⟩ := owns_formN hownL2
          have HOL := hide hownL2
          have HAl := hide hal
          have hbl : ∀ g2, al = some ⟨g2, 0, none⟩ → g2 < w3.heap.size := fun g2 e => (hownL2.lt g2 (by rw [e]; rfl)).2
          have HBl := hide hbl
          obtain ⟨nl, hnl⟩ : ∃ nl, nl = L.length := ⟨_, rfl⟩
          rw [← hnl] at hrl ⊢
          have HNl := hide hnl
          clear hb3 hownL ci hL hal hownL2 hbl hnl HC
          go_wp2_with fail
          go_loopw [12, 14] (fun v t wr => ∃ j : Nat, j ≤ nl ∧ t = .int .i64 j ∧ Below w3.heap.size w3 wr ∧ (∀ i (hi : i < L.length), i < j → Num.putOk M L[i] = true) ∧ wr.ownsRow w3.heap.size 41 2 v (Num.ringSp M (L.take j)).length ((Num.ringSp M (L.take j)).flatMap spC)) (fun _ t _ => nl - (intOf t).toNat)
          case atStart => exact ⟨0, by omega, rfl, Below.refl _ _, fun i hi h => by omega, by simpa [Num.ringSp] using World.ownsRow_nil _ _ _ _⟩
          case round =>
            obtain ⟨vo, rfl⟩ : ∃ vo, vo = u12 := ⟨_, rfl⟩
            obtain ⟨wp, rfl⟩ : ∃ wp, wp = wr := ⟨wr, rfl⟩
            obtain ⟨j, hj, rfl, hB, hokj, hown⟩ := hrel
            have hsB := hB.size
            by_cases hltj : j < nl
            · have hdj : decide ((j : Int) < (nl : Int)) = true := by simp; omega
              have hjl : j < L.length := by rw [← HNl.out]; exact hltj
              obtain ⟨g2, rfl⟩ := HAl.out (by rw [← HNl.out]; omega)
              have hg2 := HBl.out g2 rfl
              have hO2 := owns_of_block (w' := wp) HOL.out (fun q hq => by simp [Value.ownBlock] at hq; subst hq; exact hB.block _ hg2)
              obtain ⟨c0, c1, c2, c3, c4, c5, c6, c7, c8⟩ := owns_seg9 hO2 j hjl
              have HSu := hide (ringSp_take (m := M) hjl)
              have HKj := hide (HKd.out _ (List.getElem_mem hjl))
              have HOkN2 := hide (fun h => HOkN.out (Num.ringOk_no (m := M) hjl h))
              have hlen := Num.ringSp_le M (L.take j)
              have hlt2 : (L.take j).length ≤ 4000 := by rw [List.length_take]; omega
              have HStep : Hid (Num.putOk M L[j] = true → ∀ i (hi : i < L.length), i < j + 1 → Num.putOk M L[i] = true) := fun h i hi hij => by
                rcases (show i < j ∨ i = j by omega) with h1 | h1
                · exact hokj i hi h1
                · subst h1; exact h
              obtain ⟨S, hS9⟩ : ∃ S, S = L[j] := ⟨_, rfl⟩
              rw [← hS9] at c0 c1 c2 c3 c4 c5 c6 c7 c8 HSu HKj HOkN2 HStep
              have hMrp := row_below HMr3.out hB hz3'
              obtain ⟨d0, d1, d2, d3, d4, d5⟩ := mp6_cells hMrp
              have hMl := hMrp.lt
              have hg2w : g2 < wp.heap.size := by omega
              have HCall := hide (HPl.out S)
              obtain ⟨PG, hPG⟩ : ∃ PG, PG = Num.putG M S := ⟨_, rfl⟩
              obtain ⟨PE, hPE⟩ : ∃ PE, PE = Num.putE M S := ⟨_, rfl⟩
              rw [← hPG, ← hPE] at HCall
              have HPG := hide hPG
              have HPE := hide hPE
              have HOw := hide hown
              have HBp := hide hB
              have ij0 : (0 : Int) ≤ (j : Int) := by omega
              have ij1 : (j : Int) < (nl : Int) := by omega
              have hP15 : P15 wp g2 j w.heap.size S a b c d x y := ⟨c0, c1, c2, c3, c4, c5, c6, c7, c8, d0, d1, d2, d3, d4, d5⟩
              have HP15 := hide hP15
              have hn1 : g2 ≠ wp.heap.size := Nat.ne_of_lt hg2w
              have hn2 : w.heap.size ≠ wp.heap.size := Nat.ne_of_lt hMl
              clear hO2 hS9 hMrp hPG hPE hokj hown hB hP15
              go_wp2_with fail
              go_region_held3 (fun w' => w'.cell? ⟨g2, j * 9, none⟩ = some (.int .i64 S.k) ∧ w'.cell? ⟨g2, j * 9 + 1, none⟩ = some (.int .i64 S.x0) ∧ w'.cell? ⟨g2, j * 9 + 2, none⟩ = some (.int .i64 S.y0) ∧ w'.cell? ⟨g2, j * 9 + 3, none⟩ = some (.int .i64 S.x1) ∧ w'.cell? ⟨g2, j * 9 + 4, none⟩ = some (.int .i64 S.y1) ∧ w'.cell? ⟨g2, j * 9 + 5, none⟩ = some (.int .i64 S.x2) ∧ w'.cell? ⟨g2, j * 9 + 6, none⟩ = some (.int .i64 S.y2) ∧ w'.cell? ⟨g2, j * 9 + 7, none⟩ = some (.int .i64 S.x3) ∧ w'.cell? ⟨g2, j * 9 + 8, none⟩ = some (.int .i64 S.y3) ∧
                  w'.cell? ⟨w.heap.size, 0, none⟩ = some (.int .i64 a) ∧ w'.cell? ⟨w.heap.size, 1, none⟩ = some (.int .i64 b) ∧ w'.cell? ⟨w.heap.size, 2, none⟩ = some (.int .i64 c) ∧ w'.cell? ⟨w.heap.size, 3, none⟩ = some (.int .i64 d) ∧ w'.cell? ⟨w.heap.size, 4, none⟩ = some (.int .i64 x) ∧ w'.cell? ⟨w.heap.size, 5, none⟩ = some (.int .i64 y)) (first | (simp only [cD, cA hg2w, cA hMl, c0, c1, c2, c3, c4, c5, c6, c7, c8, d0, d1, d2, d3, d4, d5, and_self]; done) | (simp only [cS hn1, cS hn2, cA kg, cA km, k0, k1, k2, k3, k4, k5, k6, k7, k8, m0, m1, m2, m3, m4, m5, and_self]; done)) (first | (go_at_call 67; refine (HCall.out _).mono ?_; rintro e w5 ⟨rfl, hb5'⟩; have hb5 : Below wp.heap.size wp w5 := ⟨hb5'.os, hb5'.tape, hb5'.output, hb5'.size, hb5'.block⟩; have hs5 := hb5.size; have kg : g2 < w5.heap.size := Nat.lt_of_lt_of_le hg2w hs5; have km : w.heap.size < w5.heap.size := Nat.lt_of_lt_of_le hMl hs5; have kk := HP15.out.below hb5 hg2w hMl; obtain ⟨k0, k1, k2, k3, k4, k5, k6, k7, k8, m0, m1, m2, m3, m4, m5⟩ := kk) | (go_at_call 67; refine (HCall.out _).mono ?_; rintro e w5 ⟨rfl, hb5'⟩; have hb6 : Below (wp.alloc (.cells #[.int .i64 0, .int .i64 0, .int .i64 0, .int .i64 0, .int .i64 0, .int .i64 0, .int .i64 0, .int .i64 0, .int .i64 0] 44)).heap.size (wp.alloc (.cells #[.int .i64 0, .int .i64 0, .int .i64 0, .int .i64 0, .int .i64 0, .int .i64 0, .int .i64 0, .int .i64 0, .int .i64 0] 44)) w5 := ⟨hb5'.os, hb5'.tape, hb5'.output, hb5'.size, hb5'.block⟩; have hb5 : Below wp.heap.size wp w5 := ((Below.refl _ _).alloc (Nat.le_refl _) _).trans (hb6.mono (by rw [nblk_alloc]; exact Nat.le_succ _)); have hs5 := hb5.size; have kg : g2 < w5.heap.size := Nat.lt_of_lt_of_le hg2w hs5; have km : w.heap.size < w5.heap.size := Nat.lt_of_lt_of_le hMl hs5; have kk := HP15.out.below hb5 hg2w hMl; obtain ⟨k0, k1, k2, k3, k4, k5, k6, k7, k8, m0, m1, m2, m3, m4, m5⟩ := kk; have kz := row_below (sg9_row 0 0 0 0 0 0 0 0 0 wp 44) hb6 (by rw [nblk_alloc]; exact Nat.lt_succ_self _); have kzl := kz.lt; obtain ⟨r0, r1, r2, r3, r4, r5, r6, r7, r8⟩ := sg9_cells kz; obtain ⟨z0, z1, z2, z3, z4, z5, z6, z7, z8⟩ := zero_frozen kz))
              · obtain ⟨wG, hwG⟩ : ∃ wG, wG = w5.alloc (.cells #[.int .i64 PG.k, .int .i64 PG.x0, .int .i64 PG.y0, .int .i64 PG.x1, .int .i64 PG.y1, .int .i64 PG.x2, .int .i64 PG.y2, .int .i64 PG.x3, .int .i64 PG.y3] 44) := ⟨_, rfl⟩
                rw [← hwG]
                have hRG : wG.rowIs w5.heap.size 44 9 (sg9 PG.k PG.x0 PG.y0 PG.x1 PG.y1 PG.x2 PG.y2 PG.x3 PG.y3) := by rw [hwG]; exact sg9_row _ _ _ _ _ _ _ _ _ _ _
                have hBG : Below wp.heap.size wp wG := by rw [hwG]; exact hb5.alloc hs5 _
                obtain ⟨gB, hgB⟩ : ∃ gB, gB = w5.heap.size := ⟨_, rfl⟩
                rw [← hgB] at hRG ⊢
                have hgB1 : wp.heap.size ≤ gB := by omega
                clear hgB hwG hb5 hb5' kg km k0 k1 k2 k3 k4 k5 k6 k7 k8 m0 m1 m2 m3 m4 m5
                have hgB2 := hRG.lt
                have hsG := hBG.size
                have hown1 := owns_of_block HOw.out (fun q hq => hBG.block q (HOw.out.lt q hq).2)
                have hB1 : Below w3.heap.size w3 wG := HBp.out.trans (hBG.mono (by omega))
                have HBf := hide (HB2.out.trans ((HB3.out.trans (hB1.mono (by omega))).mono (by omega)))
                obtain ⟨e0, e1, e2, e3, e4, e5, e6, e7, e8⟩ := sg9_cells hRG
                clear hRG hBG hn1 hn2 c0 c1 c2 c3 c4 c5 c6 c7 c8 d0 d1 d2 d3 d4 d5
                cases hput : Num.putOk M S
                · have hPE6 : PE = 6 := by rw [HPE.out]; unfold Num.putE; rw [hput]; rfl
                  subst hPE6
                  obtain ⟨rfl, rfl⟩ := HOkN2.out hput
                  clear hput HNo HYe HOkN HOkN2 e0 e1 e2 e3 e4 e5 e6 e7 e8
                  go_wp2
                  go_ret2
                  exact ⟨_, fun _ => .slice none 0 0, rfl, HBf.out, SpRings.nil _ _ _ _⟩
                · have hPE0 : PE = 0 := by rw [HPE.out]; unfold Num.putE; rw [hput]; rfl
                  have hPGv : PG = Num.putV M S := by rw [HPG.out]; unfold Num.putG; rw [hput]; rfl
                  have hcE := Num.put_curve hput HKj.out
                  have hcl := Num.curveL_le (Num.putV M S)
                  have hcp := Num.curveL_pos hcE
                  have HSg : Hid (Num.segSp M S = (Num.curveL PG).dropLast) := by unfold Hid Num.segSp; rw [hPGv]
                  rw [← hPGv] at hcE hcl hcp
                  have HCv := hide (fun w => refCurve_any PG.k PG.x0 PG.y0 PG.x1 PG.y1 PG.x2 PG.y2 PG.x3 PG.y3 w)
                  have HSt2 := hide (HStep.out hput)
                  rw [hcE] at HCv
                  obtain ⟨CL, hCL⟩ : ∃ CL, CL = Num.curveL PG := ⟨_, rfl⟩
                  rw [← hCL] at HCv HSg hcl hcp
                  subst hPE0
                  clear hput hPGv hcE hCL HStep HOkN2
                  go_wp2_with fail
                  refine (HCv.out _).mono ?_
                  rintro e w6 ⟨vC, rfl, hb6, hownC⟩
                  have hs6 := hb6.size
                  have hown2 := owns_of_block hown1 (fun q hq => hb6.block q (hown1.lt q hq).2)
                  have hBB2 : Below w3.heap.size w3 w6 := hB1.trans (hb6.mono (by omega))
                  obtain ⟨gC, capC, rfl, hgC1, hgC2⟩ := hownC.form hcp
                  have hvlt : ∀ q, vo.ownBlock = some q → q < wG.heap.size := fun q hq => (hown1.lt q hq).2
                  have HOC := hide hownC
                  have HVl := hide hvlt
                  obtain ⟨RP, hRP⟩ : ∃ RP, RP = Num.ringSp M (L.take j) := ⟨_, rfl⟩
                  rw [← hRP] at hown2 HSu hlen
                  rw [HSg.out] at HSu
                  obtain ⟨mC, hmC⟩ : ∃ mC, mC = CL.length := ⟨_, rfl⟩
                  rw [← hmC] at hcl hcp ⊢
                  have HMC := hide hmC
                  have HO2' := hide hown2
                  have HBB2 := hide hBB2
                  clear hb6 hownC hvlt hRP hmC hown1 hB1 hown2 hBB2 e0 e1 e2 e3 e4 e5 e6 e7 e8
                  go_wp2_with fail
                  go_loopw [12, 19] (fun v t wr => ∃ i : Nat, i + 1 ≤ mC ∧ t = .int .i64 i ∧ Touch (fun q => vo.ownBlock = some q) w6 wr ∧ Below w3.heap.size w3 wr ∧ (v.ownBlock = vo.ownBlock ∨ ∃ q, v.ownBlock = some q ∧ w6.heap.size ≤ q) ∧ wr.ownsRow w3.heap.size 41 2 v (RP ++ CL.dropLast.take i).length ((RP ++ CL.dropLast.take i).flatMap spC)) (fun _ t _ => mC - (intOf t).toNat)
                  case atStart => exact ⟨0, by omega, rfl, Touch.refl _ _, HBB2.out, .inl rfl, by simpa using HO2'.out⟩
                  case round =>
                    obtain ⟨v, rfl⟩ : ∃ v, v = u12 := ⟨_, rfl⟩
                    obtain ⟨i, hi, rfl, hT, hBi, hvb, hown⟩ := hrel
                    have hsi := hT.size
                    by_cases hlti : i + 1 < mC
                    · have hil : i < CL.length := by rw [← HMC.out]; omega
                      have hneC : ¬ vo.ownBlock = some gC := fun e => by have := HVl.out _ e; omega
                      have hblkC : wr.heap[gC]? = w6.heap[gC]? := hT.block gC hgC2 hneC
                      have hOC := owns_of_block (w' := wr) HOC.out (fun q hq => by simp [Value.ownBlock] at hq; subst hq; exact hblkC)
                      obtain ⟨p0, p1⟩ := owns_sp hOC i hil
                      have htk := (Num.dropLast_take_succ CL i).1 (by rw [← HMC.out]; exact hlti) hil
                      have hlenI : (RP ++ CL.dropLast.take i).length ≤ 111 * 4000 + 112 := by rw [List.length_append, List.length_take]; omega
                      have hgCw : gC < wr.heap.size := by omega
                      have hdi : decide ((i : Int) < (mC : Int) - 1) = true := by simp; omega
                      have ia0 : (0 : Int) ≤ (i : Int) := by omega
                      have ia1 : (i : Int) < (mC : Int) := by omega
                      have HT := hide hT
                      have HVb := hide hvb
                      have HBi := hide hBi
                      obtain ⟨z, hz⟩ : ∃ z, z = CL[i] := ⟨_, rfl⟩
                      rw [← hz] at p0 p1 htk
                      obtain ⟨zx, zy⟩ := z
                      simp only at p0 p1
                      have HTk2 : Hid (RP ++ CL.dropLast.take (i + 1) = (RP ++ CL.dropLast.take i) ++ [(zx, zy)]) := by unfold Hid; rw [htk, List.append_assoc]
                      obtain ⟨xs2, hxs⟩ : ∃ xs2, xs2 = (RP ++ CL.dropLast.take i).flatMap spC := ⟨_, rfl⟩
                      obtain ⟨ln, hln⟩ : ∃ ln, ln = (RP ++ CL.dropLast.take i).length := ⟨_, rfl⟩
                      rw [← hxs, ← hln] at hown
                      rw [← hln] at hlenI
                      have HX2 := hide hxs
                      have HLn2 := hide hln
                      clear hz htk hxs hln hT hvb hBi hneC hblkC hOC
                      go_wp2_with (at_builtin; refine wpList_append_lies _ rfl _ _ 48 rfl w3.heap.size 41 j0 (.agg #[.int .i64 0, .int .i64 0]) 2 16 Try.underlying48 hj0 hy0 hy1 hy2 rfl (by omega) v ln xs2 rfl (hown.alloc _) ⟨wr.heap.size, 0, none⟩ 1 1 [.int .i64 zx, .int .i64 zy] rfl rfl ?la1 ?la2 (by omega) ?la3 ?la4 ?la5 (wr.heap.size + 1) (by simp) ?_)
                      try (case la1 => exact news_sp wr [.int .i64 zx, .int .i64 zy] _ _ rfl)
                      case la2 => first | exact one_two _ _ | exact ⟨rfl, rfl⟩
                      case la3 => unfold maxLen; omega
                      case la4 => omega
                      case la5 => first | omega | (simp; omega)
                      intro g cap w7 hown7 hgrow hat hlt7
                      have hb7 : Below w3.heap.size w3 w7 := (HBi.out.alloc (by omega) _).grown hgrow (by simp; omega) (fun q hq => (hown.lt q hq).1)
                      have hT7 : Touch (fun q => vo.ownBlock = some q) w6 w7 := (HT.out.alloc _).grown hgrow (fun q hq => by
                        rcases HVb.out with h | ⟨g', h1, h2⟩
                        · exact .inl (h ▸ hq)
                        · rw [h1] at hq; simp at hq; subst hq; exact .inr h2)
                      have HVb7 : Hid ((Value.slice (some ⟨g, 0, none⟩) (ln + 1) cap).ownBlock = vo.ownBlock ∨ ∃ g', (Value.slice (some ⟨g, 0, none⟩) (ln + 1) cap).ownBlock = some g' ∧ w6.heap.size ≤ g') := by
                        unfold Hid
                        rcases hat with hat | hat
                        · rcases HVb.out with h | ⟨g', h1, h2⟩
                          · left; rw [← h, hat]; rfl
                          · right; rw [hat] at h1; exact ⟨g', by simpa [Value.ownBlock] using h1, h2⟩
                        · right; exact ⟨g, rfl, by omega⟩
                      have HO7 : Hid (w7.ownsRow w3.heap.size 41 2 (.slice (some ⟨g, 0, none⟩) (ln + 1) cap) (RP ++ CL.dropLast.take (i + 1)).length ((RP ++ CL.dropLast.take (i + 1)).flatMap spC)) := by
                        unfold Hid
                        exact push_sp (l := RP ++ CL.dropLast.take i) (p := (zx, zy)) (m := ln + 1) (by rw [← HX2.out]; exact hown7) HTk2.out (by rw [HLn2.out])
                      have HT7 := hide hT7
                      clear hown7 hgrow hat hown hT7 p0 p1
                      go_wp2
                      go_roundw
                      case rel => exact ⟨i + 1, by omega, by go_num, HT7.out, hb7, HVb7.out, HO7.out⟩
                      case measure => simp [intOf]; omega
                    · have hdi : decide ((i : Int) < (mC : Int) - 1) = false := by simp; omega
                      have htk : CL.dropLast.take i = CL.dropLast := List.take_of_length_le (by rw [List.length_dropLast, ← HMC.out]; omega)
                      rw [htk, ← HSu.out] at hown
                      have HOw2 := hide hown
                      clear hT hvb htk hown
                      go_wp2
                      go_roundw
                      case rel => exact ⟨j + 1, by omega, by go_num, hBi, HSt2.out, HOw2.out⟩
                      case measure => simp [intOf]; omega
              · obtain ⟨wG, hwG⟩ : ∃ wG, wG = (((((((((w5.setCell ⟨wp.heap.size, 0, none⟩ (.int .i64 PG.k)).setCell ⟨wp.heap.size, 1, none⟩ (.int .i64 PG.x0)).setCell ⟨wp.heap.size, 2, none⟩ (.int .i64 PG.y0)).setCell ⟨wp.heap.size, 3, none⟩ (.int .i64 PG.x1)).setCell ⟨wp.heap.size, 4, none⟩ (.int .i64 PG.y1)).setCell ⟨wp.heap.size, 5, none⟩ (.int .i64 PG.x2)).setCell ⟨wp.heap.size, 6, none⟩ (.int .i64 PG.y2)).setCell ⟨wp.heap.size, 7, none⟩ (.int .i64 PG.x3)).setCell ⟨wp.heap.size, 8, none⟩ (.int .i64 PG.y3)) := ⟨_, rfl⟩
                rw [← hwG]
                have hRG : wG.rowIs wp.heap.size 44 9 (sg9 PG.k PG.x0 PG.y0 PG.x1 PG.y1 PG.x2 PG.y2 PG.x3 PG.y3) := by rw [hwG]; exact set9sg kz PG.k PG.x0 PG.y0 PG.x1 PG.y1 PG.x2 PG.y2 PG.x3 PG.y3
                have hBG : Below wp.heap.size wp wG := by rw [hwG]; exact (((((((((hb5.setCell (p := ⟨wp.heap.size, 0, none⟩) (Nat.le_refl _) _).setCell (p := ⟨wp.heap.size, 1, none⟩) (Nat.le_refl _) _).setCell (p := ⟨wp.heap.size, 2, none⟩) (Nat.le_refl _) _).setCell (p := ⟨wp.heap.size, 3, none⟩) (Nat.le_refl _) _).setCell (p := ⟨wp.heap.size, 4, none⟩) (Nat.le_refl _) _).setCell (p := ⟨wp.heap.size, 5, none⟩) (Nat.le_refl _) _).setCell (p := ⟨wp.heap.size, 6, none⟩) (Nat.le_refl _) _).setCell (p := ⟨wp.heap.size, 7, none⟩) (Nat.le_refl _) _).setCell (p := ⟨wp.heap.size, 8, none⟩) (Nat.le_refl _) _)
                obtain ⟨gB, hgB⟩ : ∃ gB, gB = wp.heap.size := ⟨_, rfl⟩
                rw [← hgB] at hRG ⊢
                have hgB1 : wp.heap.size ≤ gB := by omega
                clear hgB hwG hb5 hb5' hb6 kg km k0 k1 k2 k3 k4 k5 k6 k7 k8 m0 m1 m2 m3 m4 m5 kz kzl r0 r1 r2 r3 r4 r5 r6 r7 r8 z0 z1 z2 z3 z4 z5 z6 z7 z8
                have hgB2 := hRG.lt
                have hsG := hBG.size
                have hown1 := owns_of_block HOw.out (fun q hq => hBG.block q (HOw.out.lt q hq).2)
                have hB1 : Below w3.heap.size w3 wG := HBp.out.trans (hBG.mono (by omega))
                have HBf := hide (HB2.out.trans ((HB3.out.trans (hB1.mono (by omega))).mono (by omega)))
                obtain ⟨e0, e1, e2, e3, e4, e5, e6, e7, e8⟩ := sg9_cells hRG
                clear hRG hBG hn1 hn2 c0 c1 c2 c3 c4 c5 c6 c7 c8 d0 d1 d2 d3 d4 d5
                cases hput : Num.putOk M S
                · have hPE6 : PE = 6 := by rw [HPE.out]; unfold Num.putE; rw [hput]; rfl
                  subst hPE6
                  obtain ⟨rfl, rfl⟩ := HOkN2.out hput
                  clear hput HNo HYe HOkN HOkN2 e0 e1 e2 e3 e4 e5 e6 e7 e8
                  go_wp2
                  go_ret2
                  exact ⟨_, fun _ => .slice none 0 0, rfl, HBf.out, SpRings.nil _ _ _ _⟩
                · have hPE0 : PE = 0 := by rw [HPE.out]; unfold Num.putE; rw [hput]; rfl
                  have hPGv : PG = Num.putV M S := by rw [HPG.out]; unfold Num.putG; rw [hput]; rfl
                  have hcE := Num.put_curve hput HKj.out
                  have hcl := Num.curveL_le (Num.putV M S)
                  have hcp := Num.curveL_pos hcE
                  have HSg : Hid (Num.segSp M S = (Num.curveL PG).dropLast) := by unfold Hid Num.segSp; rw [hPGv]
                  rw [← hPGv] at hcE hcl hcp
                  have HCv := hide (fun w => refCurve_any PG.k PG.x0 PG.y0 PG.x1 PG.y1 PG.x2 PG.y2 PG.x3 PG.y3 w)
                  have HSt2 := hide (HStep.out hput)
                  rw [hcE] at HCv
                  obtain ⟨CL, hCL⟩ : ∃ CL, CL = Num.curveL PG := ⟨_, rfl⟩
                  rw [← hCL] at HCv HSg hcl hcp
                  subst hPE0
                  clear hput hPGv hcE hCL HStep HOkN2
                  go_wp2_with fail
                  refine (HCv.out _).mono ?_
                  rintro e w6 ⟨vC, rfl, hb6, hownC⟩
                  have hs6 := hb6.size
                  have hown2 := owns_of_block hown1 (fun q hq => hb6.block q (hown1.lt q hq).2)
                  have hBB2 : Below w3.heap.size w3 w6 := hB1.trans (hb6.mono (by omega))
                  obtain ⟨gC, capC, rfl, hgC1, hgC2⟩ := hownC.form hcp
                  have hvlt : ∀ q, vo.ownBlock = some q → q < wG.heap.size := fun q hq => (hown1.lt q hq).2
                  have HOC := hide hownC
                  have HVl := hide hvlt
                  obtain ⟨RP, hRP⟩ : ∃ RP, RP = Num.ringSp M (L.take j) := ⟨_, rfl⟩
                  rw [← hRP] at hown2 HSu hlen
                  rw [HSg.out] at HSu
                  obtain ⟨mC, hmC⟩ : ∃ mC, mC = CL.length := ⟨_, rfl⟩
                  rw [← hmC] at hcl hcp ⊢
                  have HMC := hide hmC
                  have HO2' := hide hown2
                  have HBB2 := hide hBB2
                  clear hb6 hownC hvlt hRP hmC hown1 hB1 hown2 hBB2 e0 e1 e2 e3 e4 e5 e6 e7 e8
                  go_wp2_with fail
                  go_loopw [12, 19] (fun v t wr => ∃ i : Nat, i + 1 ≤ mC ∧ t = .int .i64 i ∧ Touch (fun q => vo.ownBlock = some q) w6 wr ∧ Below w3.heap.size w3 wr ∧ (v.ownBlock = vo.ownBlock ∨ ∃ q, v.ownBlock = some q ∧ w6.heap.size ≤ q) ∧ wr.ownsRow w3.heap.size 41 2 v (RP ++ CL.dropLast.take i).length ((RP ++ CL.dropLast.take i).flatMap spC)) (fun _ t _ => mC - (intOf t).toNat)
                  case atStart => exact ⟨0, by omega, rfl, Touch.refl _ _, HBB2.out, .inl rfl, by simpa using HO2'.out⟩
                  case round =>
                    obtain ⟨v, rfl⟩ : ∃ v, v = u12 := ⟨_, rfl⟩
                    obtain ⟨i, hi, rfl, hT, hBi, hvb, hown⟩ := hrel
                    have hsi := hT.size
                    by_cases hlti : i + 1 < mC
                    · have hil : i < CL.length := by rw [← HMC.out]; omega
                      have hneC : ¬ vo.ownBlock = some gC := fun e => by have := HVl.out _ e; omega
                      have hblkC : wr.heap[gC]? = w6.heap[gC]? := hT.block gC hgC2 hneC
                      have hOC := owns_of_block (w' := wr) HOC.out (fun q hq => by simp [Value.ownBlock] at hq; subst hq; exact hblkC)
                      obtain ⟨p0, p1⟩ := owns_sp hOC i hil
                      have htk := (Num.dropLast_take_succ CL i).1 (by rw [← HMC.out]; exact hlti) hil
                      have hlenI : (RP ++ CL.dropLast.take i).length ≤ 111 * 4000 + 112 := by rw [List.length_append, List.length_take]; omega
                      have hgCw : gC < wr.heap.size := by omega
                      have hdi : decide ((i : Int) < (mC : Int) - 1) = true := by simp; omega
                      have ia0 : (0 : Int) ≤ (i : Int) := by omega
                      have ia1 : (i : Int) < (mC : Int) := by omega
                      have HT := hide hT
                      have HVb := hide hvb
                      have HBi := hide hBi
                      obtain ⟨z, hz⟩ : ∃ z, z = CL[i] := ⟨_, rfl⟩
                      rw [← hz] at p0 p1 htk
                      obtain ⟨zx, zy⟩ := z
                      simp only at p0 p1
                      have HTk2 : Hid (RP ++ CL.dropLast.take (i + 1) = (RP ++ CL.dropLast.take i) ++ [(zx, zy)]) := by unfold Hid; rw [htk, List.append_assoc]
                      obtain ⟨xs2, hxs⟩ : ∃ xs2, xs2 = (RP ++ CL.dropLast.take i).flatMap spC := ⟨_, rfl⟩
                      obtain ⟨ln, hln⟩ : ∃ ln, ln = (RP ++ CL.dropLast.take i).length := ⟨_, rfl⟩
                      rw [← hxs, ← hln] at hown
                      rw [← hln] at hlenI
                      have HX2 := hide hxs
                      have HLn2 := hide hln
                      clear hz htk hxs hln hT hvb hBi hneC hblkC hOC
                      go_wp2_with (at_builtin; refine wpList_append_lies _ rfl _ _ 48 rfl w3.heap.size 41 j0 (.agg #[.int .i64 0, .int .i64 0]) 2 16 Try.underlying48 hj0 hy0 hy1 hy2 rfl (by omega) v ln xs2 rfl (hown.alloc _) ⟨wr.heap.size, 0, none⟩ 1 1 [.int .i64 zx, .int .i64 zy] rfl rfl ?lb1 ?lb2 (by omega) ?lb3 ?lb4 ?lb5 (wr.heap.size + 1) (by simp) ?_)
                      try (case lb1 => exact news_sp wr [.int .i64 zx, .int .i64 zy] _ _ rfl)
                      case lb2 => first | exact one_two _ _ | exact ⟨rfl, rfl⟩
                      case lb3 => unfold maxLen; omega
                      case lb4 => omega
                      case lb5 => first | omega | (simp; omega)
                      intro g cap w7 hown7 hgrow hat hlt7
                      have hb7 : Below w3.heap.size w3 w7 := (HBi.out.alloc (by omega) _).grown hgrow (by simp; omega) (fun q hq => (hown.lt q hq).1)
                      have hT7 : Touch (fun q => vo.ownBlock = some q) w6 w7 := (HT.out.alloc _).grown hgrow (fun q hq => by
                        rcases HVb.out with h | ⟨g', h1, h2⟩
                        · exact .inl (h ▸ hq)
                        · rw [h1] at hq; simp at hq; subst hq; exact .inr h2)
                      have HVb7 : Hid ((Value.slice (some ⟨g, 0, none⟩) (ln + 1) cap).ownBlock = vo.ownBlock ∨ ∃ g', (Value.slice (some ⟨g, 0, none⟩) (ln + 1) cap).ownBlock = some g' ∧ w6.heap.size ≤ g') := by
                        unfold Hid
                        rcases hat with hat | hat
                        · rcases HVb.out with h | ⟨g', h1, h2⟩
                          · left; rw [← h, hat]; rfl
                          · right; rw [hat] at h1; exact ⟨g', by simpa [Value.ownBlock] using h1, h2⟩
                        · right; exact ⟨g, rfl, by omega⟩
                      have HO7 : Hid (w7.ownsRow w3.heap.size 41 2 (.slice (some ⟨g, 0, none⟩) (ln + 1) cap) (RP ++ CL.dropLast.take (i + 1)).length ((RP ++ CL.dropLast.take (i + 1)).flatMap spC)) := by
                        unfold Hid
                        exact push_sp (l := RP ++ CL.dropLast.take i) (p := (zx, zy)) (m := ln + 1) (by rw [← HX2.out]; exact hown7) HTk2.out (by rw [HLn2.out])
                      have HT7 := hide hT7
                      clear hown7 hgrow hat hown hT7 p0 p1
                      go_wp2
                      go_roundw
                      case rel => exact ⟨i + 1, by omega, by go_num, HT7.out, hb7, HVb7.out, HO7.out⟩
                      case measure => simp [intOf]; omega
                    · have hdi : decide ((i : Int) < (mC : Int) - 1) = false := by simp; omega
                      have htk : CL.dropLast.take i = CL.dropLast := List.take_of_length_le (by rw [List.length_dropLast, ← HMC.out]; omega)
                      rw [htk, ← HSu.out] at hown
                      have HOw2 := hide hown
                      clear hT hvb htk hown
                      go_wp2
                      go_roundw
                      case rel => exact ⟨j + 1, by omega, by go_num, hBi, HSt2.out, HOw2.out⟩
                      case measure => simp [intOf]; omega
            · have hdj : decide ((j : Int) < (nl : Int)) = false := by simp; omega
              have e : j = nl := by omega
              have htk : L.take j = L := List.take_of_length_le (by rw [← HNl.out]; omega)
              rw [htk] at hown
              have hRok : Num.ringOk M L = true := by
                unfold Num.ringOk
                rw [List.all_eq_true]
                intro g hg
                obtain ⟨i, hi, rfl⟩ := List.mem_iff_getElem.1 hg
                exact hokj i hi (by rw [e, HNl.out]; exact hi)
              have HOk2 : Hid (∀ i, i < k + 1 → Num.ringOk M (ringL n X Y K i) = true) := fun i hi => by
                rcases (show i < k ∨ i = k by omega) with h1 | h1
                · exact HOk.out i h1
                · rw [h1, ← HLe.out]; exact hRok
              have hTL : traceL n X Y K M k = Num.ringSp M L := by unfold traceL; rw [HLe.out]
              rw [← hTL] at hown
              obtain ⟨an, cn, hvn, _⟩ := owns_formN hown
              subst hvn
              have HNew : Hid (∀ q, (Value.slice an (traceL n X Y K M k).length cn).ownBlock = some q → ∀ i, i < k → (V i).ownBlock ≠ some q) := fun q hq i hi e => by
                have h1 := (hown.lt q hq).1
                have h2 := ((HSR.out.inner i hi).lt q e).2
                omega
              have HIn := hide (owns_mono (base' := w2.heap.size) hown (by omega))
              have HSRw := hide (HSR3.out.below hB)
              have hout := HSRw.out.outer
              have HBw3 := hide (HB3.out.trans (hB.mono (by omega)))
              obtain ⟨xs, hxs⟩ : ∃ xs, xs = (List.range k).map V := ⟨_, rfl⟩
              rw [← hxs] at hout
              have HX := hide hxs
              obtain ⟨ml, hml⟩ : ∃ ml, ml = (traceL n X Y K M k).length := ⟨_, rfl⟩
              rw [← hml] at HNew HIn ⊢
              have HML := hide hml
              clear hown hokj hRok hxs hml hTL htk hB
              go_wp2_with (at_builtin; refine wpList_append_lies _ rfl _ _ 88 rfl w2.heap.size 48 i0 (.slice none 0 0) 1 24 Try.underlying88 hi0 hz0 hz1 hz2 rfl (by omega) vout k xs rfl (hout.alloc _) ⟨wp.heap.size, 0, none⟩ 1 1 [.slice an ml cn] rfl rfl ?n1 ?n2 (by omega) ?n3 ?n4 ?n5 (wp.heap.size + 1) (by simp) ?_)
              try (case n1 => exact news_sp wp [.slice an ml cn] _ _ rfl)
              case n2 => first | rfl | exact one_slice _ _ _
              case n3 => unfold maxLen; omega
              case n4 => omega
              case n5 => first | omega | (simp; omega)
              intro g cap w8 hown8 hgrow hat hlt8
              rw [HX.out] at hown8
              have HS8 := hide (HSRw.out.push (by rw [← HML.out]; exact HIn.out) HNew.out hown8 hgrow)
              have hb8 : Below w2.heap.size w2 w8 := (HBw3.out.alloc (by omega) _).grown hgrow (by simp; omega) (fun q hq => (HSRw.out.outer.lt q hq).1)
              clear hown8 hgrow hat hout
              go_wp2
              go_roundw
              case rel => exact ⟨k + 1, _, by omega, by go_num, hb8, HOk2.out, HS8.out⟩
              case measure => simp [intOf]; omega
        · have e : k = N := by omega
          obtain ⟨rfl, rfl⟩ := HYe.out (traceOk_yes (fun i hi => hok i (by omega)))
          have HSR := hide hSR
          have HBf := hide (HB2.out.trans (hb.mono (by omega)))
          have hd0 : decide ((k : Int) < (TN : Int)) = false := by simp; omega
          clear hSR hok hb HNo HYe
          go_wp2
          go_ret2
          refine ⟨vout, V, rfl, HBf.out, ?_⟩
          rw [← e]
          exact HSR.out.mono (by omega)
  · rw [if_neg h0] at hTE
    subst hTE
    have hTN3 : TN = 0 := by rw [hTN2, if_neg h0]
    subst hTN3
    obtain ⟨v0, v1, v2⟩ := V0
    have hb0 : (v0 != 0) = true := by simpa using h0
    clear h0 hTN2
    go_enter Try.func41, Try.ntmps41
    go_wp2_with fail
    refine (refCheck_any _ _ _ A C n X Y K _ hN HN.out hS HO.out).mono ?_
    rw [← HV.out]
    rintro e w1 ⟨rfl, hb1⟩
    have HB1 : Hid (Below w.heap.size w w1) := Below.trans (by (repeat (any_goals (first | exact Below.refl _ _ | assumption | refine Below.drew ?_ | refine below_drewN ?_ _ | refine Below.setCell ?_ ?_ _ | refine Below.alloc ?_ ?_ _ | omega | (simp; done) | (simp; omega))))) (hb1.mono (by simp))
    clear hb1
    go_wp2
    go_ret2
    exact ⟨_, fun _ => .slice none 0 0, rfl, HB1.out, SpRings.nil _ _ _ _⟩
end Go.Proofs.Ythpdbbplpmmjlaa
