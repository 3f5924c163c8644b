/- Trace: the program's. -/
import Derived.Test.YthpdbbplpmmjlaaTrcB
namespace Go.Proofs.Ythpdbbplpmmjlaa
open Go.RowKit Go.Deep

theorem info_sps : (Try.prog.info? 48).map (fun i => (i.zero, i.size, i.bytes)) = some (some (.slice none 0 0), 1, 24) := by kernel_rfl

/-- Rings of spots, as a call hands them out. -/
structure SpRings (w : World) (base : Nat) (v : Value) (m : Nat) (V : Nat → Value) (L : Nat → List (Int × Int)) : Prop where
  outer : w.ownsRow base 48 1 v m ((List.range m).map V)
  inner : ∀ i, i < m → w.ownsRow base 41 2 (V i) (L i).length ((L i).flatMap spC)
  inj : ∀ i j, i < m → j < m → i ≠ j → ∀ q, (V i).ownBlock = some q → (V j).ownBlock ≠ some q
theorem SpRings.of_blocks {w w' : World} {base : Nat} {v : Value} {m : Nat} {V : Nat → Value} {L : Nat → List (Int × Int)} (h : SpRings w base v m V L) (h1 : ∀ b, v.ownBlock = some b → w'.heap[b]? = w.heap[b]?) (h2 : ∀ i, i < m → ∀ b, (V i).ownBlock = some b → w'.heap[b]? = w.heap[b]?) : SpRings w' base v m V L :=
  ⟨owns_of_block h.outer h1, fun i hi => owns_of_block (h.inner i hi) (h2 i hi), h.inj⟩
theorem SpRings.below {w w' : World} {base : Nat} {v : Value} {m : Nat} {V : Nat → Value} {L : Nat → List (Int × Int)} (h : SpRings w base v m V L) (hb : Below w.heap.size w w') : SpRings w' base v m V L :=
  h.of_blocks (fun b hbb => hb.block b (h.outer.lt b hbb).2) (fun i hi b hbb => hb.block b ((h.inner i hi).lt b hbb).2)
theorem SpRings.mono {w : World} {base base' : Nat} {v : Value} {m : Nat} {V : Nat → Value} {L : Nat → List (Int × Int)} (h : SpRings w base v m V L) (hb : base' ≤ base) : SpRings w base' v m V L :=
  ⟨owns_mono h.outer hb, fun i hi => owns_mono (h.inner i hi) hb, h.inj⟩
theorem SpRings.nil (w : World) (base : Nat) (V : Nat → Value) (L : Nat → List (Int × Int)) : SpRings w base (.slice none 0 0) 0 V L :=
  ⟨World.ownsRow_nil _ _ _ _, fun i hi => by omega, fun i j hi => by omega⟩
theorem SpRings.congr {w : World} {base : Nat} {v : Value} {m : Nat} {V : Nat → Value} {L L' : Nat → List (Int × Int)} (h : SpRings w base v m V L) (e : ∀ i, i < m → L i = L' i) : SpRings w base v m V L' :=
  ⟨h.outer, fun i hi => by rw [← e i hi]; exact h.inner i hi, h.inj⟩

/-- Trace's answer: the error; the rings. -/
def traceOk (N : Nat) (n : Nat → Nat) (X Y K : Nat → Nat → Int) (m : Num.Mp) : Bool := (List.range N).all fun i => Num.ringOk m (ringL n X Y K i)
def traceE (N : Nat) (n : Nat → Nat) (X Y K : Nat → Nat → Int) (m : Num.Mp) : Int :=
  if (Num.chkV N n X Y K).1 = 0 then (if Num.fairB m.a m.b m.c m.d m.x m.y = false then 5 else if traceOk N n X Y K m = false then 6 else 0) else (Num.chkV N n X Y K).1
def traceN (N : Nat) (n : Nat → Nat) (X Y K : Nat → Nat → Int) (m : Num.Mp) : Nat := if traceE N n X Y K m = 0 then N else 0
def traceL (n : Nat → Nat) (X Y K : Nat → Nat → Int) (m : Num.Mp) (i : Nat) : List (Int × Int) := Num.ringSp m (ringL n X Y K i)

theorem traceOk_no {N : Nat} {n : Nat → Nat} {X Y K : Nat → Nat → Int} {m : Num.Mp} {k : Nat} (hk : k < N) (h : Num.ringOk m (ringL n X Y K k) = false) : traceOk N n X Y K m = false := by
  cases e : traceOk N n X Y K m
  · rfl
  · unfold traceOk at e
    rw [List.all_eq_true] at e
    rw [e k (by simpa using hk)] at h; cases h
theorem traceOk_yes {N : Nat} {n : Nat → Nat} {X Y K : Nat → Nat → Int} {m : Num.Mp} (h : ∀ i, i < N → Num.ringOk m (ringL n X Y K i) = true) : traceOk N n X Y K m = true := by
  unfold traceOk
  rw [List.all_eq_true]
  intro i hi
  exact h i (by simpa using hi)
theorem ringL_kd {n : Nat → Nat} {X Y K : Nat → Nat → Int} {k : Nat} (s2 : 2 ≤ n k) (sb : ∀ i, i < n k → Num.badB (K k) (n k) i = false) : ∀ g ∈ ringL n X Y K k, Num.Kd g.k :=
  Num.ring_kd (by omega) (fun i hi => Num.may_kd (sb i hi))
theorem one_slice (ao : Option Addr) (n c : Nat) : ∀ u ∈ [Value.slice ao n c], u.oneCell' = true := by
  intro u hu; simp at hu; subst hu; rfl

/-- One ring more. -/
theorem SpRings.push {w w3 : World} {base k g cap m c : Nat} {v : Value} {ao : Option Addr} {V : Nat → Value} {L : Nat → List (Int × Int)} {o : Obj} (h : SpRings w base v k V L) (hin : w.ownsRow base 41 2 (.slice ao m c) (L k).length ((L k).flatMap spC))
    (hnew : ∀ q, (Value.slice ao m c).ownBlock = some q → ∀ i, i < k → (V i).ownBlock ≠ some q)
    (hown : w3.ownsRow base 48 1 (.slice (some ⟨g, 0, none⟩) (k + 1) cap) (k + 1) ((List.range k).map V ++ [.slice ao m c])) (hg : (w.alloc o).grownBy w3 v.ownBlock) :
    SpRings w3 base (.slice (some ⟨g, 0, none⟩) (k + 1) cap) (k + 1) (fun i => if i = k then .slice ao m c else V i) L := by
  have hkeep : ∀ (u : Value) (l : List (Int × Int)), w.ownsRow base 41 2 u l.length (l.flatMap spC) → w3.ownsRow base 41 2 u l.length (l.flatMap spC) := fun u l h' => owns_of_block h' (fun b hbb => by
    have hty := owns_ty h' hbb
    have hlt9 := (h'.lt b hbb).2
    rw [hg.block b (by rw [nblk_alloc]; omega) (fun e => by
      have := owns_ty h.outer e.symm
      rw [hty] at this
      simp at this), blk_alloc_lt _ _ _ hlt9])
  refine ⟨?_, fun i hi => ?_, fun i j hi hj hij q hq => ?_⟩
  · rw [range_map_snoc, range_map_congr (g := V) (fun j hj => by rw [if_neg (by omega)]), if_pos rfl]
    exact hown
  · by_cases e : i = k
    · subst e; rw [if_pos rfl]; exact hkeep _ _ hin
    · rw [if_neg e]; exact hkeep _ _ (h.inner i (by omega))
  · by_cases e : i = k
    · subst e
      rw [if_pos rfl] at hq
      rw [if_neg (by omega)]
      exact hnew q hq j (by omega)
    · rw [if_neg e] at hq
      by_cases e2 : j = k
      · subst e2
        rw [if_pos rfl]
        exact fun e3 => hnew q e3 i (by omega) hq
      · rw [if_neg e2]
        exact h.inj i j (by omega) (by omega) hij q hq

set_option maxRecDepth 100000 in
set_option maxHeartbeats 4000000 in
theorem chordTrace_any (ad : Option Addr) (N cc : Nat) (A : Nat → Option Addr) (C n : Nat → Nat) (X Y K : Nat → Nat → Int) (a b c d x y : Int) (w : World) (hN : N ≤ 4294967296) (hn : ∀ i, i < N → n i ≤ 4294967296) (ho : OutAt w ad N A C n X Y K) :
    Calls Try.prog 66 #[.slice ad N cc, .agg #[.int .i64 a, .int .i64 b, .int .i64 c, .int .i64 d, .int .i64 x, .int .i64 y]] w fun e w' => ∃ v V, e = .returned (.tuple #[v, .int .i64 (traceE N n X Y K ⟨a, b, c, d, x, y⟩)]) ∧ Below w.heap.size w w' ∧ SpRings w' w.heap.size v (traceN N n X Y K ⟨a, b, c, d, x, y⟩) V (traceL n X Y K ⟨a, b, c, d, x, y⟩) := by
  obtain ⟨M, hM⟩ : ∃ M : Num.Mp, M = ⟨a, b, c, d, x, y⟩ := ⟨_, rfl⟩
  rw [← hM]
  have hFM : Num.fairB M.a M.b M.c M.d M.x M.y = Num.fairB a b c d x y := by rw [hM]
  have HRg := hide (fun va L base0 w h1 h2 h3 => ringOf_any va L base0 a b c d x y w h1 h2 h3)
  rw [← hM] at HRg
  have hcs := Num.chk_cases N n X Y K
  have HRN : Hid ((Num.chkV N n X Y K).1 = 0 → ringN N n X Y K = N) := fun h => by unfold ringN; rw [if_pos h]
  obtain ⟨TE, hTE⟩ : ∃ TE, TE = traceE N n X Y K M := ⟨_, rfl⟩
  obtain ⟨TN, hTN⟩ : ∃ TN, TN = traceN N n X Y K M := ⟨_, rfl⟩
  have hTN2 : TN = if TE = 0 then N else 0 := by rw [hTN, hTE]; rfl
  rw [← hTE, ← hTN]
  unfold traceE at hTE
  rw [hFM] at hTE
  obtain ⟨V0, hV⟩ : ∃ V, V = Num.chkV N n X Y K := ⟨_, rfl⟩
  rw [← hV] at hcs HRN hTE
  have HV := hide hV
  have HO := hide (ho.below ((Below.refl w.heap.size w).alloc (Nat.le_refl _) (.cells #[.int .i64 a, .int .i64 b, .int .i64 c, .int .i64 d, .int .i64 x, .int .i64 y] 39)))
  have HN := hide hn
  have HMr := hide (mp6_row a b c d x y w 39)
  clear hV hTN ho hn hM hFM
  rcases hcs with ⟨h0, hm, hsh, hfa⟩ | h0
  · rw [if_pos h0] at hTE
    obtain ⟨m16, m200, mn⟩ := ok_many hm
    have HSH := hide hsh
    have HMN := hide mn
    have HRN2 := hide (HRN.out h0)
    clear hsh hfa mn hm HRN
    obtain ⟨v0, v1, v2⟩ := V0
    have h0 : v0 = 0 := h0
    subst h0
    cases hF : Num.fairB a b c d x y
    · rw [if_pos hF] at hTE
      subst hTE
      have hTN3 : TN = 0 := by rw [hTN2]; rfl
      subst hTN3
      clear hTN2
      go_enter Try.func66, Try.ntmps66
      go_wp2_with fail
      refine (outRings_any _ _ _ A C n X Y K _ hN HN.out HO.out).mono ?_
      rw [← HV.out]
      rintro e w1 ⟨vr, VR, rfl, hb1, _⟩
      have hMr1 := row_below HMr.out hb1 HMr.out.lt
      obtain ⟨d0, d1, d2, d3, d4, d5⟩ := mp6_cells hMr1
      have hz1 := hMr1.lt
      have HB1 : Hid (Below w.heap.size w w1) := Below.trans (by (repeat (any_goals (first | exact Below.refl _ _ | assumption | refine Below.drew ?_ | refine below_drewN ?_ _ | refine Below.setCell ?_ ?_ _ | refine Below.alloc ?_ ?_ _ | omega | (simp; done) | (simp; omega))))) (hb1.mono (by simp))
      clear hb1 hMr1
      go_wp2_with fail
      refine (fair_any _ _ _ _ _ _ _).mono ?_
      rw [hF]
      rintro e w2 ⟨rfl, hb2⟩
      have HB2 := hide (HB1.out.trans (hb2.mono (by omega)))
      clear hb2 d0 d1 d2 d3 d4 d5 hF
      go_wp2
      go_ret2
      exact ⟨_, fun _ => .slice none 0 0, rfl, HB2.out, SpRings.nil _ _ _ _⟩
    · rw [if_neg (by rw [hF]; decide)] at hTE
      have HNo : Hid (traceOk N n X Y K M = false → TE = 6 ∧ TN = 0) := fun h => by
        rw [if_pos h] at hTE; rw [hTN2, hTE]; exact ⟨rfl, rfl⟩
      have HYe : Hid (traceOk N n X Y K M = true → TE = 0 ∧ TN = N) := fun h => by
        rw [if_neg (by rw [h]; decide)] at hTE; rw [hTN2, hTE]; exact ⟨rfl, rfl⟩
      obtain ⟨i0, hi0, hz0, hz1, hz2⟩ := info_parts info_sps
      clear hTE hTN2
      go_enter Try.func66, Try.ntmps66
      go_wp2_with fail
      refine (outRings_any _ _ _ A C n X Y K _ hN HN.out HO.out).mono ?_
      rw [← HV.out, HRN2.out]
      rintro e w1 ⟨vr, VR, rfl, hb1, hRA⟩
      have hMr1 := row_below HMr.out hb1 HMr.out.lt
      obtain ⟨d0, d1, d2, d3, d4, d5⟩ := mp6_cells hMr1
      have hz1' := hMr1.lt
      have HMr1 := hide hMr1
      have HB1 : Hid (Below w.heap.size w w1) := Below.trans (by (repeat (any_goals (first | exact Below.refl _ _ | assumption | refine Below.drew ?_ | refine below_drewN ?_ _ | refine Below.setCell ?_ ?_ _ | refine Below.alloc ?_ ?_ _ | omega | (simp; done) | (simp; omega))))) (hb1.mono (by simp))
      obtain ⟨ao, cp, rfl, hao⟩ := owns_form9' hRA.outer
      have HRA := hide hRA
      have HAo := hide hao
      clear hb1 hMr1 hRA hao
      go_wp2_with fail
      refine (fair_any _ _ _ _ _ _ _).mono ?_
      rw [hF]
      rintro e w2 ⟨rfl, hb2⟩
      have hs2 := hb2.size
      have HB2 := hide (HB1.out.trans (hb2.mono (by omega)))
      have HRA2 := hide (HRA.out.below hb2)
      have HMr2 := hide (row_below HMr1.out hb2 hz1')
      have hz2' := HMr2.out.lt
      clear hb2 d0 d1 d2 d3 d4 d5 hF
      go_wp2_with fail
      go_loopw [8, 26] (fun v t wr => ∃ (k : Nat) (V : Nat → Value), k ≤ N ∧ t = .int .i64 k ∧ Below w2.heap.size w2 wr ∧ (∀ i, i < k → Num.ringOk M (ringL n X Y K i) = true) ∧ SpRings wr w2.heap.size v k V (traceL n X Y K M)) (fun _ t _ => N - (intOf t).toNat)
      case atStart => exact ⟨0, fun _ => .slice none 0 0, by omega, rfl, Below.refl _ _, fun i hi => by omega, SpRings.nil _ _ _ _⟩
      case round =>
        obtain ⟨v, rfl⟩ : ∃ v, v = u8 := ⟨_, rfl⟩
        obtain ⟨k, V, hk, rfl, hb, hok, hSR⟩ := hrel
        have hsz := hb.size
        by_cases hlt : k < N
        · obtain ⟨gr, rfl⟩ := HAo.out (by omega)
          have hRAw := HRA2.out.below hb
          have ci := hRAw.outer.cellAt k (by omega)
          rw [List.getElem?_map, List.getElem?_range hlt] at ci
          simp only [Option.map_some] at ci
          have hgrl : gr < wr.heap.size := (hRAw.outer.lt gr rfl).2
          obtain ⟨s2, sb⟩ := ok_shape (HSH.out k hlt)
          have hnk := HMN.out k hlt
          have hrl : (ringL n X Y K k).length ≤ 4000 := by have := refRing_len (X k) (Y k) (K k) (n k); unfold ringL; omega
          have HC := hide (HRg.out (VR k) (ringL n X Y K k) _ wr hrl (ringL_kd s2 sb) (hRAw.inner k hlt))
          have hMrw := row_below HMr2.out hb hz2'
          obtain ⟨d0, d1, d2, d3, d4, d5⟩ := mp6_cells hMrw
          have hzw := hMrw.lt
          have HSR := hide hSR
          have HOk := hide hok
          have HB := hide hb
          clear sb hRAw hMrw hSR hok hb
          go_wp2_with fail
          refine HC.out.mono ?_
          rintro e w3 ⟨vn, rfl, hb3, hown3⟩
          have hs3 := hb3.size
          have HB3 := hide (HB.out.trans (hb3.mono hsz))
          have HSR3 := hide (HSR.out.below hb3)
          clear ci d0 d1 d2 d3 d4 d5 HC
          cases hR : Num.ringOk M (ringL n X Y K k)
          · have hE6 : ringE M (ringL n X Y K k) = 6 := by unfold ringE; rw [hR]; rfl
            rw [hE6]
            obtain ⟨rfl, rfl⟩ := HNo.out (traceOk_no hlt hR)
            have HBf := hide (HB2.out.trans (HB3.out.mono (by omega)))
            clear hb3 hown3 hR hE6 HNo HYe
            go_wp2
            go_ret2
            exact ⟨_, fun _ => .slice none 0 0, rfl, HBf.out, SpRings.nil _ _ _ _⟩
          · have hE0 : ringE M (ringL n X Y K k) = 0 := by unfold ringE; rw [hR]; rfl
            have hR0 : ringR M (ringL n X Y K k) = traceL n X Y K M k := by unfold ringR traceL; rw [hR]; rfl
            rw [hE0]
            rw [hR0] at hown3
            have HOk2 : Hid (∀ i, i < k + 1 → Num.ringOk M (ringL n X Y K i) = true) := fun i hi => by
              rcases (show i < k ∨ i = k by omega) with h1 | h1
              · exact HOk.out i h1
              · rw [h1]; exact hR
            obtain ⟨an, cn, hvn, _⟩ := owns_formN hown3
            subst hvn
            have HNew : Hid (∀ q, (Value.slice an (traceL n X Y K M k).length cn).ownBlock = some q → ∀ i, i < k → (V i).ownBlock ≠ some q) := fun q hq i hi e => by
              have h1 := (hown3.lt q hq).1
              have h2 := ((HSR.out.inner i hi).lt q e).2
              omega
            have HIn := hide (owns_mono (base' := w2.heap.size) hown3 hsz)
            have hout := HSR3.out.outer
            obtain ⟨xs, hxs⟩ : ∃ xs, xs = (List.range k).map V := ⟨_, rfl⟩
            rw [← hxs] at hout
            have HX := hide hxs
            obtain ⟨ml, hml⟩ : ∃ ml, ml = (traceL n X Y K M k).length := ⟨_, rfl⟩
            rw [← hml] at HNew HIn ⊢
            have HML := hide hml
            clear hb3 hown3 hR hE0 hR0 hxs hml
            go_wp2_with (at_builtin; refine wpList_append_lies _ rfl _ _ 88 rfl w2.heap.size 48 i0 (.slice none 0 0) 1 24 Try.underlying88 hi0 hz0 hz1 hz2 rfl (by omega) v k xs rfl (hout.alloc _) ⟨w3.heap.size, 0, none⟩ 1 1 [.slice an ml cn] rfl rfl ?c1 ?c2 (by omega) ?c3 ?c4 ?c5 (w3.heap.size + 1) (by simp) ?_)
            try (case c1 => exact news_sp w3 [.slice an ml cn] _ _ rfl)
            case c2 => first | rfl | exact one_slice _ _ _
            case c3 => unfold maxLen; omega
            case c4 => omega
            case c5 => first | omega | (simp; omega)
            intro g cap w4 hown4 hgrow hat hlt4
            rw [HX.out] at hown4
            have HS4 := hide (HSR3.out.push (by rw [← HML.out]; exact HIn.out) HNew.out hown4 hgrow)
            have hb4 : Below w2.heap.size w2 w4 := (HB3.out.alloc (by omega) _).grown hgrow (by simp; omega) (fun q hq => (HSR3.out.outer.lt q hq).1)
            clear hown4 hgrow hat hout
            go_wp2
            go_roundw
            case rel => exact ⟨k + 1, _, by omega, by go_num, hb4, HOk2.out, HS4.out⟩
            case measure => simp [intOf]; omega
        · have e : k = N := by omega
          obtain ⟨rfl, rfl⟩ := HYe.out (traceOk_yes (fun i hi => hok i (by omega)))
          have HSR := hide hSR
          have HBf := hide (HB2.out.trans (hb.mono (by omega)))
          have hd0 : decide ((k : Int) < (TN : Int)) = false := by simp; omega
          clear hSR hok hb HNo HYe
          go_wp2
          go_ret2
          refine ⟨v, V, rfl, HBf.out, ?_⟩
          rw [← e]
          exact HSR.out.mono (by omega)
  · rw [if_neg h0] at hTE
    subst hTE
    have hTN3 : TN = 0 := by rw [hTN2, if_neg h0]
    subst hTN3
    obtain ⟨v0, v1, v2⟩ := V0
    have hb0 : (v0 != 0) = true := by simpa using h0
    clear h0 HRN hTN2
    go_enter Try.func66, Try.ntmps66
    go_wp2_with fail
    refine (outRings_any _ _ _ A C n X Y K _ hN HN.out HO.out).mono ?_
    rw [← HV.out]
    rintro e w1 ⟨vr, VR, rfl, hb1, _⟩
    have HB1 : Hid (Below w.heap.size w w1) := Below.trans (by (repeat (any_goals (first | exact Below.refl _ _ | assumption | refine Below.drew ?_ | refine below_drewN ?_ _ | refine Below.setCell ?_ ?_ _ | refine Below.alloc ?_ ?_ _ | omega | (simp; done) | (simp; omega))))) (hb1.mono (by simp))
    clear hb1
    go_wp2
    go_ret2
    exact ⟨_, fun _ => .slice none 0 0, rfl, HB1.out, SpRings.nil _ _ _ _⟩

set_option maxHeartbeats 400000 in
theorem glyphTrace_any (ad : Option Addr) (N cc : Nat) (A : Nat → Option Addr) (C n : Nat → Nat) (X Y K : Nat → Nat → Int) (a b c d x y : Int) (w : World) (hN : N ≤ 4294967296) (hn : ∀ i, i < N → n i ≤ 4294967296) (ho : OutAt w ad N A C n X Y K) :
    Calls Try.prog 40 #[.slice ad N cc, .agg #[.int .i64 a, .int .i64 b, .int .i64 c, .int .i64 d, .int .i64 x, .int .i64 y]] w fun e w' => ∃ v V, e = .returned (.tuple #[v, .int .i64 (traceE N n X Y K ⟨a, b, c, d, x, y⟩)]) ∧ Below w.heap.size w w' ∧ SpRings w' w.heap.size v (traceN N n X Y K ⟨a, b, c, d, x, y⟩) V (traceL n X Y K ⟨a, b, c, d, x, y⟩) := by
  have HN := hide hn
  have HO := hide (ho.below ((Below.refl w.heap.size w).alloc (Nat.le_refl _) (.cells #[.int .i64 a, .int .i64 b, .int .i64 c, .int .i64 d, .int .i64 x, .int .i64 y] 39)))
  clear hn ho
  go_enter Try.func40, Try.ntmps40
  go_wp2_with fail
  refine (chordTrace_any _ _ _ A C n X Y K _ _ _ _ _ _ _ hN HN.out HO.out).mono ?_
  rintro e w1 ⟨v, V, rfl, hb, hS⟩
  have hb0 : Below w.heap.size w w1 := Below.trans (by (repeat (any_goals (first | exact Below.refl _ _ | assumption | refine Below.drew ?_ | refine below_drewN ?_ _ | refine Below.setCell ?_ ?_ _ | refine Below.alloc ?_ ?_ _ | omega | (simp; done) | (simp; omega))))) (hb.mono (by simp))
  have HW := hide (hS.mono (base' := w.heap.size) (by simp))
  clear hb hS
  go_wp2
  go_ret2
  exact ⟨v, V, rfl, hb0, HW.out⟩
end Go.Proofs.Ythpdbbplpmmjlaa
