/- Joined: TrcB, TrcC, CvM, CvN, OkV, CvO, CvS, CvU, CvW. -/
import Derived.Test.YtkhcjkmifddlbabPart6
import Derived.Test.YtkhcjkmifddlbabPart7
/- TrcB -/
namespace Go.Proofs.Ytkhcjkmifddlbab
open Go.RowKit Go.Deep

theorem owns_seg9 {w : World} {base b cap : Nat} {t : TypeId} {l : List Num.Sg} (h : w.ownsRow base t 9 (.slice (some ⟨b, 0, none⟩) l.length cap) l.length (l.flatMap sgC)) (i : Nat) (hi : i < l.length) :
    w.cell? ⟨b, i * 9, none⟩ = some (.int .i64 l[i].k) ∧ w.cell? ⟨b, i * 9 + 1, none⟩ = some (.int .i64 l[i].x0) ∧ w.cell? ⟨b, i * 9 + 2, none⟩ = some (.int .i64 l[i].y0) ∧ w.cell? ⟨b, i * 9 + 3, none⟩ = some (.int .i64 l[i].x1) ∧ w.cell? ⟨b, i * 9 + 4, none⟩ = some (.int .i64 l[i].y1) ∧ w.cell? ⟨b, i * 9 + 5, none⟩ = some (.int .i64 l[i].x2) ∧ w.cell? ⟨b, i * 9 + 6, none⟩ = some (.int .i64 l[i].y2) ∧ w.cell? ⟨b, i * 9 + 7, none⟩ = some (.int .i64 l[i].x3) ∧ w.cell? ⟨b, i * 9 + 8, none⟩ = some (.int .i64 l[i].y3) := by
  have flat : ∀ (l : List Num.Sg) (i q : Nat) (hi : i < l.length), q < 9 → (l.flatMap sgC)[i * 9 + q]? = (sgC l[i])[q]? := by
    intro l
    induction l with
    | nil => intro i q hi; simp at hi
    | cons x r ih =>
      intro i q hi hq
      rw [List.flatMap_cons]
      have h2 : (sgC x).length = 9 := rfl
      cases i with
      | zero =>
        simp only [Nat.zero_mul, Nat.zero_add, List.getElem_cons_zero]
        rw [List.getElem?_append_left (by omega)]
      | succ j =>
        have := ih j q (by simpa using hi) hq
        simp only [List.getElem_cons_succ]
        rw [List.getElem?_append_right (by omega), h2, show (j + 1) * 9 + q - 9 = j * 9 + q by omega]
        exact this
  have e : ∀ q, q < 9 → w.cell? ⟨b, i * 9 + q, none⟩ = (sgC l[i])[q]? := fun q hq => by
    rw [h.cellAt (i * 9 + q) (by omega)]; exact flat l i q hi hq
  exact ⟨e 0 (by omega), e 1 (by omega), e 2 (by omega), e 3 (by omega), e 4 (by omega), e 5 (by omega), e 6 (by omega), e 7 (by omega), e 8 (by omega)⟩

/-- The list of a ring: nil, or in a block. -/
theorem ringSp_take {m : Num.Mp} {L : List Num.Sg} {j : Nat} (hj : j < L.length) : Num.ringSp m (L.take (j + 1)) = Num.ringSp m (L.take j) ++ Num.segSp m L[j] := by
  rw [List.take_succ_eq_append_getElem hj, Num.ringSp_snoc]

def ringE (m : Num.Mp) (L : List Num.Sg) : Int := if Num.ringOk m L = true then 0 else 6
def ringR (m : Num.Mp) (L : List Num.Sg) : List (Int × Int) := if Num.ringOk m L = true then Num.ringSp m L else []

set_option maxRecDepth 100000 in
set_option maxHeartbeats 4000000 in
theorem ringOf_any (va : Value) (L : List Num.Sg) (base0 : Nat) (a b c d x y : Int) (w : World) (hL : L.length ≤ 4000) (hk : ∀ g ∈ L, Num.Kd g.k) (hown0 : w.ownsRow base0 105 9 va L.length (L.flatMap sgC)) :
    Calls Try.prog 73 #[va, .agg #[.int .i64 a, .int .i64 b, .int .i64 c, .int .i64 d, .int .i64 x, .int .i64 y]] w fun e w' => ∃ v, e = .returned (.tuple #[v, .int .i64 (ringE ⟨a, b, c, d, x, y⟩ L)]) ∧ Below w.heap.size w w' ∧ w'.ownsRow w.heap.size 53 2 v (ringR ⟨a, b, c, d, x, y⟩ L).length ((ringR ⟨a, b, c, d, x, y⟩ L).flatMap spC) := by
  obtain ⟨M, hM⟩ : ∃ M : Num.Mp, M = ⟨a, b, c, d, x, y⟩ := ⟨_, rfl⟩
  rw [← hM]
  have HPl := hide (fun (g : Num.Sg) (w : World) => segPut_any g.k g.x0 g.y0 g.x1 g.y1 g.x2 g.y2 g.x3 g.y3 a b c d x y w)
  rw [← hM] at HPl
  obtain ⟨E, hE⟩ : ∃ E, E = ringE M L := ⟨_, rfl⟩
  obtain ⟨R, hR⟩ : ∃ R, R = ringR M L := ⟨_, rfl⟩
  rw [← hE, ← hR]
  have HNo : Hid (Num.ringOk M L = false → E = 6 ∧ R = []) := fun h => by rw [hE, hR]; unfold ringE ringR; rw [h]; exact ⟨rfl, rfl⟩
  have HYe : Hid (Num.ringOk M L = true → E = 0 ∧ R = Num.ringSp M L) := fun h => by rw [hE, hR]; unfold ringE ringR; rw [h]; exact ⟨rfl, rfl⟩
  have HKd := hide hk
  obtain ⟨ao, cp, rfl, hao⟩ := owns_formN hown0
  have HO0 := hide hown0
  have HAo := hide hao
  have hbl : ∀ g2, ao = some ⟨g2, 0, none⟩ → g2 < w.heap.size := fun g2 e => (hown0.lt g2 (by rw [e]; rfl)).2
  have HBl := hide hbl
  obtain ⟨n, hn⟩ : ∃ n, n = L.length := ⟨_, rfl⟩
  rw [← hn] at hL ⊢
  have HN := hide hn
  obtain ⟨i0, hi0, hz0, hz1, hz2⟩ := info_parts info_spot
  have HMr := hide (mp6_row a b c d x y w 24)
  clear hM hE hR hk hown0 hao hbl hn
  go_enter Try.func73, Try.ntmps73
  go_wp2_with fail
  go_loopw [6, 16] (fun v t wr => ∃ j : Nat, j ≤ n ∧ t = .int .i64 j ∧ Below (w.heap.size + 1) (w.alloc (.cells #[.int .i64 a, .int .i64 b, .int .i64 c, .int .i64 d, .int .i64 x, .int .i64 y] 24)) wr ∧ (∀ i (hi : i < L.length), i < j → Num.putOk M L[i] = true) ∧ wr.ownsRow (w.heap.size + 1) 53 2 v (Num.ringSp M (L.take j)).length ((Num.ringSp M (L.take j)).flatMap spC)) (fun _ t _ => n - (intOf t).toNat)
  case atStart => exact ⟨0, by omega, rfl, Below.refl _ _, fun i hi h => by omega, by simpa [Num.ringSp] using World.ownsRow_nil _ _ _ _⟩
  case round =>
    obtain ⟨vo, rfl⟩ : ∃ vo, vo = u6 := ⟨_, rfl⟩
    obtain ⟨wo, rfl⟩ : ∃ wo, wo = wr := ⟨wr, rfl⟩
    obtain ⟨j, hj, rfl, hB, hok, hown⟩ := hrel
    have hsB := hB.size
    simp at hsB
    have HBw : Hid (Below w.heap.size w wo) := Below.trans (by (repeat (any_goals (first | exact Below.refl _ _ | assumption | refine Below.drew ?_ | refine below_drewN ?_ _ | refine Below.setCell ?_ ?_ _ | refine Below.alloc ?_ ?_ _ | omega | (simp; done) | (simp; omega))))) (hB.mono (by omega))
    by_cases hlt : j < n
    · have hjl : j < L.length := by rw [← HN.out]; exact hlt
      obtain ⟨g2, rfl⟩ := HAo.out (by rw [← HN.out]; omega)
      have hg2 := HBl.out g2 rfl
      have hO2 := owns_of_block (w' := wo) HO0.out (fun q hq => by simp [Value.ownBlock] at hq; subst hq; exact HBw.out.block _ hg2)
      obtain ⟨c0, c1, c2, c3, c4, c5, c6, c7, c8⟩ := owns_seg9 hO2 j hjl
      have HSu := hide (ringSp_take (m := M) hjl)
      have HKj := hide (HKd.out _ (List.getElem_mem hjl))
      have HOkN := hide (fun h => Num.ringOk_no (m := M) hjl h)
      have hlen := Num.ringSp_le M (L.take j)
      have hlt2 : (L.take j).length ≤ 4000 := by rw [List.length_take]; omega
      have HStep : Hid (Num.putOk M L[j] = true → ∀ i (hi : i < L.length), i < j + 1 → Num.putOk M L[i] = true) := fun h i hi hij => by
        rcases (show i < j ∨ i = j by omega) with h1 | h1
        · exact hok i hi h1
        · subst h1; exact h
      obtain ⟨S, hS⟩ : ∃ S, S = L[j] := ⟨_, rfl⟩
      rw [← hS] at c0 c1 c2 c3 c4 c5 c6 c7 c8 HSu HKj HOkN HStep
      have hMr := row_below HMr.out hB (by omega)
      obtain ⟨d0, d1, d2, d3, d4, d5⟩ := mp6_cells hMr
      have hg2w : g2 < wo.heap.size := by omega
      have y0 : w.heap.size < wo.heap.size := by omega
      have HCall := hide (HPl.out S)
      obtain ⟨PG, hPG⟩ : ∃ PG, PG = Num.putG M S := ⟨_, rfl⟩
      obtain ⟨PE, hPE⟩ : ∃ PE, PE = Num.putE M S := ⟨_, rfl⟩
      rw [← hPG, ← hPE] at HCall
      have HPG := hide hPG
      have HPE := hide hPE
      have HOw := hide hown
      have HB := hide hB
      clear hO2 hS hMr hPG hPE hok hown hB
      go_wp2_with fail
      refine (HCall.out _).mono ?_
      rintro e w1 ⟨rfl, hb1⟩
      have hs1 : wo.heap.size < w1.heap.size := by have := hb1.size; simp at this; omega
      have hB1 : Below wo.heap.size wo w1 := Below.trans (by (repeat (any_goals (first | exact Below.refl _ _ | assumption | refine Below.drew ?_ | refine below_drewN ?_ _ | refine Below.setCell ?_ ?_ _ | refine Below.alloc ?_ ?_ _ | omega | (simp; done) | (simp; omega))))) (hb1.mono (by simp))
      have hown1 := owns_of_block HOw.out (fun q hq => hB1.block q (HOw.out.lt q hq).2)
      have hBB1 : Below (w.heap.size + 1) (w.alloc (.cells #[.int .i64 a, .int .i64 b, .int .i64 c, .int .i64 d, .int .i64 x, .int .i64 y] 24)) w1 := HB.out.trans (hB1.mono (by omega))
      have HBw1 := hide (HBw.out.trans (hB1.mono (by omega)))
      clear hb1 hB1 c0 c1 c2 c3 c4 c5 c6 c7 c8 d0 d1 d2 d3 d4 d5
      cases hput : Num.putOk M S
      · have hPE6 : PE = 6 := by rw [HPE.out]; unfold Num.putE; rw [hput]; rfl
        subst hPE6
        obtain ⟨rfl, rfl⟩ := HNo.out (HOkN.out hput)
        clear hput HNo HYe
        go_wp2
        go_ret2
        refine ⟨_, rfl, ?_, World.ownsRow_nil _ _ _ _⟩
        have := HBw1.out
        have hs2 := this.size
        exact this.alloc (by omega) _
      · have hPE0 : PE = 0 := by rw [HPE.out]; unfold Num.putE; rw [hput]; rfl
        have hPGv : PG = Num.putV M S := by rw [HPG.out]; unfold Num.putG; rw [hput]; rfl
        have hcE := Num.put_curve hput HKj.out
        have hcl := Num.curveL_le (Num.putV M S)
        have hcp := Num.curveL_pos hcE
        have HSg : Hid (Num.segSp M S = (Num.curveL PG).dropLast) := by unfold Hid Num.segSp; rw [hPGv]
        rw [← hPGv] at hcE hcl hcp
        have HCv := hide (fun w => chordCurve_any PG.k PG.x0 PG.y0 PG.x1 PG.y1 PG.x2 PG.y2 PG.x3 PG.y3 w)
        have HSt2 := hide (HStep.out hput)
        rw [hcE] at HCv
        obtain ⟨CL, hCL⟩ : ∃ CL, CL = Num.curveL PG := ⟨_, rfl⟩
        rw [← hCL] at HCv HSg hcl hcp
        subst hPE0
        clear hput hPGv hcE hCL HNo HStep
        go_wp2_with fail
        refine (HCv.out _).mono ?_
        rintro e w2 ⟨vC, rfl, hb2, hownC⟩
        have hs2 : w1.heap.size < w2.heap.size := by have := hb2.size; simp at this; omega
        have hB2 : Below w1.heap.size w1 w2 := Below.trans (by (repeat (any_goals (first | exact Below.refl _ _ | assumption | refine Below.drew ?_ | refine below_drewN ?_ _ | refine Below.setCell ?_ ?_ _ | refine Below.alloc ?_ ?_ _ | omega | (simp; done) | (simp; omega))))) (hb2.mono (by simp))
        have hown2 := owns_of_block hown1 (fun q hq => hB2.block q (hown1.lt q hq).2)
        have hBB2 : Below (w.heap.size + 1) (w.alloc (.cells #[.int .i64 a, .int .i64 b, .int .i64 c, .int .i64 d, .int .i64 x, .int .i64 y] 24)) w2 := hBB1.trans (hB2.mono (by omega))
        obtain ⟨gC, capC, rfl, hgC1, hgC2⟩ := hownC.form hcp
        rw [nblk_alloc] at hgC1
        have hvlt : ∀ q, vo.ownBlock = some q → q < w1.heap.size := fun q hq => (hown1.lt q hq).2
        have HOC := hide hownC
        have HVl := hide hvlt
        obtain ⟨RP, hRP⟩ : ∃ RP, RP = Num.ringSp M (L.take j) := ⟨_, rfl⟩
        rw [← hRP] at hown2 HSu hlen
        rw [HSg.out] at HSu
        obtain ⟨mC, hmC⟩ : ∃ mC, mC = CL.length := ⟨_, rfl⟩
        rw [← hmC] at hcl hcp ⊢
        have HMC := hide hmC
        have HO2 := hide hown2
        have HBB2 := hide hBB2
        clear hb2 hB2 hownC hvlt hRP hmC hown1 hBB1 hown2 hBB2
        go_wp2_with fail
        go_loopw [6, 39] (fun v t wr => ∃ i : Nat, i ≤ mC ∧ t = .int .i64 i ∧ Touch (fun q => vo.ownBlock = some q) w2 wr ∧ Below (w.heap.size + 1) (w.alloc (.cells #[.int .i64 a, .int .i64 b, .int .i64 c, .int .i64 d, .int .i64 x, .int .i64 y] 24)) wr ∧ (v.ownBlock = vo.ownBlock ∨ ∃ q, v.ownBlock = some q ∧ w2.heap.size ≤ q) ∧ wr.ownsRow (w.heap.size + 1) 53 2 v (RP ++ CL.dropLast.take i).length ((RP ++ CL.dropLast.take i).flatMap spC)) (fun _ t _ => mC - (intOf t).toNat)
        case atStart => exact ⟨0, by omega, rfl, Touch.refl _ _, HBB2.out, .inl rfl, by simpa using HO2.out⟩
        case round =>
          obtain ⟨v, rfl⟩ : ∃ v, v = u6 := ⟨_, rfl⟩
          obtain ⟨i, hi, rfl, hT, hBi, hvb, hown⟩ := hrel
          have hsi := hT.size
          by_cases hlti : i < mC
          · have hil : i < CL.length := by rw [← HMC.out]; exact hlti
            have hneC : ¬ vo.ownBlock = some gC := fun e => by have := HVl.out _ e; omega
            have hblkC : wr.heap[gC]? = w2.heap[gC]? := hT.block gC hgC2 hneC
            have hOC := owns_of_block (w' := wr) HOC.out (fun q hq => by simp [Value.ownBlock] at hq; subst hq; exact hblkC)
            obtain ⟨p0, p1⟩ := owns_sp hOC i hil
            obtain ⟨t1, t2⟩ := Num.dropLast_take_succ CL i
            have hlenI : (RP ++ CL.dropLast.take i).length ≤ 111 * 4000 + 112 := by rw [List.length_append, List.length_take]; omega
            have hgCw : gC < wr.heap.size := by omega
            have hdi : decide ((i : Int) < (mC : Int)) = true := by simp; omega
            have HT := hide hT
            have HVb := hide hvb
            have HBi := hide hBi
            by_cases hl1 : i + 1 < mC
            · have htk := t1 (by rw [← HMC.out]; exact hl1) hil
              obtain ⟨z, hz⟩ : ∃ z, z = CL[i] := ⟨_, rfl⟩
              rw [← hz] at p0 p1 htk
              obtain ⟨zx, zy⟩ := z
              simp only at p0 p1
              have HTk2 : Hid (RP ++ CL.dropLast.take (i + 1) = (RP ++ CL.dropLast.take i) ++ [(zx, zy)]) := by unfold Hid; rw [htk, List.append_assoc]
              have hd2 : decide ((i : Int) + 1 < (mC : Int)) = true := by simp; omega
              obtain ⟨xs2, hxs⟩ : ∃ xs2, xs2 = (RP ++ CL.dropLast.take i).flatMap spC := ⟨_, rfl⟩
              obtain ⟨ln, hln⟩ : ∃ ln, ln = (RP ++ CL.dropLast.take i).length := ⟨_, rfl⟩
              rw [← hxs, ← hln] at hown
              rw [← hln] at hlenI
              have HX2 := hide hxs
              have HLn2 := hide hln
              clear hz htk t1 t2 hxs hln hT hvb hBi hneC hblkC hOC
              go_wp2_with (at_builtin; refine wpList_append_lies _ rfl _ _ 51 rfl (w.heap.size + 1) 53 i0 (.agg #[.int .i64 0, .int .i64 0]) 2 16 Try.underlying51 hi0 hz0 hz1 hz2 rfl (by omega) v ln xs2 rfl ((hown.alloc _).alloc _) ⟨wr.heap.size + 1, 0, none⟩ 1 1 [.int .i64 zx, .int .i64 zy] rfl rfl ?l1 ?l2 (by omega) ?l3 ?l4 ?l5 (wr.heap.size + 1 + 1) (by simp) ?_)
              try (case l1 => exact news_sp (wr.alloc _) [.int .i64 zx, .int .i64 zy] _ _ (by simp))
              case l2 => first | exact one_two _ _ | exact ⟨rfl, rfl⟩
              case l3 => unfold maxLen; omega
              case l4 => omega
              case l5 => first | omega | (simp; omega)
              intro g cap w4 hown4 hgrow hat hlt4
              have hb4 : Below (w.heap.size + 1) (w.alloc (.cells #[.int .i64 a, .int .i64 b, .int .i64 c, .int .i64 d, .int .i64 x, .int .i64 y] 24)) w4 := ((HBi.out.alloc (by omega) _).alloc (by simp; omega) _).grown hgrow (by simp; omega) (fun q hq => (hown.lt q hq).1)
              have hT4 : Touch (fun q => vo.ownBlock = some q) w2 w4 := ((HT.out.alloc _).alloc _).grown hgrow (fun q hq => by
                rcases HVb.out with h | ⟨g', h1, h2⟩
                · exact .inl (h ▸ hq)
                · rw [h1] at hq; simp at hq; subst hq; exact .inr h2)
              have HVb4 : Hid ((Value.slice (some ⟨g, 0, none⟩) (ln + 1) cap).ownBlock = vo.ownBlock ∨ ∃ g', (Value.slice (some ⟨g, 0, none⟩) (ln + 1) cap).ownBlock = some g' ∧ w2.heap.size ≤ g') := by
                unfold Hid
                rcases hat with hat | hat
                · rcases HVb.out with h | ⟨g', h1, h2⟩
                  · left; rw [← h, hat]; rfl
                  · right; rw [hat] at h1; exact ⟨g', by simpa [Value.ownBlock] using h1, h2⟩
                · right; exact ⟨g, rfl, by omega⟩
              have HO4 : Hid (w4.ownsRow (w.heap.size + 1) 53 2 (.slice (some ⟨g, 0, none⟩) (ln + 1) cap) (RP ++ CL.dropLast.take (i + 1)).length ((RP ++ CL.dropLast.take (i + 1)).flatMap spC)) := by
                unfold Hid
                exact push_sp (l := RP ++ CL.dropLast.take i) (p := (zx, zy)) (m := ln + 1) (by rw [← HX2.out]; exact hown4) HTk2.out (by rw [HLn2.out])
              have HT4 := hide hT4
              clear hown4 hgrow hat hown hT4 p0 p1
              go_wp2
              go_roundw
              case rel => exact ⟨i + 1, by omega, by go_num, HT4.out, hb4, HVb4.out, HO4.out⟩
              case measure => simp [intOf]; omega
            · have htk := t2 (by rw [← HMC.out]; exact hl1)
              have HTk2 := hide htk
              have HOw2 := hide hown
              have hd2 : decide ((i : Int) + 1 < (mC : Int)) = false := by simp; omega
              clear htk t1 t2 hT hvb hBi hneC hblkC hOC hown
              go_wp2
              go_roundw
              case rel => exact ⟨i + 1, by omega, by go_num, HT.out.alloc _, HBi.out.alloc (by omega) _, HVb.out, by rw [HTk2.out]; exact HOw2.out.alloc _⟩
              case measure => simp [intOf]; omega
          · have hdi : decide ((i : Int) < (mC : Int)) = false := by simp; omega
            have htk : CL.dropLast.take i = CL.dropLast := List.take_of_length_le (by rw [List.length_dropLast, ← HMC.out]; omega)
            rw [htk, ← HSu.out] at hown
            have HOw2 := hide hown
            clear hT hvb htk hown
            go_wp2
            go_roundw
            case rel => exact ⟨j + 1, by omega, by go_num, hBi, HSt2.out, HOw2.out⟩
            case measure => simp [intOf]; omega
    · have e : j = n := by omega
      have hd0 : decide ((j : Int) < (n : Int)) = false := by simp; omega
      have htk : L.take j = L := List.take_of_length_le (by rw [← HN.out]; omega)
      rw [htk] at hown
      obtain ⟨rfl, rfl⟩ := HYe.out (by
        unfold Num.ringOk
        rw [List.all_eq_true]
        intro g hg
        obtain ⟨i, hi, rfl⟩ := List.mem_iff_getElem.1 hg
        exact hok i hi (by rw [e, HN.out]; exact hi))
      have HO9 := hide hown
      clear hown hok htk HNo HYe hB
      go_wp2
      go_ret2
      exact ⟨vo, rfl, HBw.out, owns_mono HO9.out (Nat.le_succ _)⟩
end Go.Proofs.Ytkhcjkmifddlbab

/- TrcC -/
namespace Go.Proofs.Ytkhcjkmifddlbab
open Go.RowKit Go.Deep

theorem info_sps : (Try.prog.info? 51).map (fun i => (i.zero, i.size, i.bytes)) = some (some (.slice none 0 0), 1, 24) := by kernel_rfl

/-- Rings of spots, as a call hands them out. -/
structure SpRings (w : World) (base : Nat) (v : Value) (m : Nat) (V : Nat → Value) (L : Nat → List (Int × Int)) : Prop where
  outer : w.ownsRow base 51 1 v m ((List.range m).map V)
  inner : ∀ i, i < m → w.ownsRow base 53 2 (V i) (L i).length ((L i).flatMap spC)
  inj : ∀ i j, i < m → j < m → i ≠ j → ∀ q, (V i).ownBlock = some q → (V j).ownBlock ≠ some q
theorem SpRings.of_blocks {w w' : World} {base : Nat} {v : Value} {m : Nat} {V : Nat → Value} {L : Nat → List (Int × Int)} (h : SpRings w base v m V L) (h1 : ∀ b, v.ownBlock = some b → w'.heap[b]? = w.heap[b]?) (h2 : ∀ i, i < m → ∀ b, (V i).ownBlock = some b → w'.heap[b]? = w.heap[b]?) : SpRings w' base v m V L :=
  ⟨owns_of_block h.outer h1, fun i hi => owns_of_block (h.inner i hi) (h2 i hi), h.inj⟩
theorem SpRings.below {w w' : World} {base : Nat} {v : Value} {m : Nat} {V : Nat → Value} {L : Nat → List (Int × Int)} (h : SpRings w base v m V L) (hb : Below w.heap.size w w') : SpRings w' base v m V L :=
  h.of_blocks (fun b hbb => hb.block b (h.outer.lt b hbb).2) (fun i hi b hbb => hb.block b ((h.inner i hi).lt b hbb).2)
theorem SpRings.mono {w : World} {base base' : Nat} {v : Value} {m : Nat} {V : Nat → Value} {L : Nat → List (Int × Int)} (h : SpRings w base v m V L) (hb : base' ≤ base) : SpRings w base' v m V L :=
  ⟨owns_mono h.outer hb, fun i hi => owns_mono (h.inner i hi) hb, h.inj⟩
theorem SpRings.nil (w : World) (base : Nat) (V : Nat → Value) (L : Nat → List (Int × Int)) : SpRings w base (.slice none 0 0) 0 V L :=
  ⟨World.ownsRow_nil _ _ _ _, fun i hi => by omega, fun i j hi => by omega⟩
theorem SpRings.congr {w : World} {base : Nat} {v : Value} {m : Nat} {V : Nat → Value} {L L' : Nat → List (Int × Int)} (h : SpRings w base v m V L) (e : ∀ i, i < m → L i = L' i) : SpRings w base v m V L' :=
  ⟨h.outer, fun i hi => by rw [← e i hi]; exact h.inner i hi, h.inj⟩

/-- Trace's answer: the error; the rings. -/
def traceOk (N : Nat) (n : Nat → Nat) (X Y K : Nat → Nat → Int) (m : Num.Mp) : Bool := (List.range N).all fun i => Num.ringOk m (ringL n X Y K i)
def traceE (N : Nat) (n : Nat → Nat) (X Y K : Nat → Nat → Int) (m : Num.Mp) : Int :=
  if (Num.chkV N n X Y K).1 = 0 then (if Num.fairB m.a m.b m.c m.d m.x m.y = false then 5 else if traceOk N n X Y K m = false then 6 else 0) else (Num.chkV N n X Y K).1
def traceN (N : Nat) (n : Nat → Nat) (X Y K : Nat → Nat → Int) (m : Num.Mp) : Nat := if traceE N n X Y K m = 0 then N else 0
def traceL (n : Nat → Nat) (X Y K : Nat → Nat → Int) (m : Num.Mp) (i : Nat) : List (Int × Int) := Num.ringSp m (ringL n X Y K i)

theorem traceOk_no {N : Nat} {n : Nat → Nat} {X Y K : Nat → Nat → Int} {m : Num.Mp} {k : Nat} (hk : k < N) (h : Num.ringOk m (ringL n X Y K k) = false) : traceOk N n X Y K m = false := by
  cases e : traceOk N n X Y K m
  · rfl
  · unfold traceOk at e
    rw [List.all_eq_true] at e
    rw [e k (by simpa using hk)] at h; cases h
theorem traceOk_yes {N : Nat} {n : Nat → Nat} {X Y K : Nat → Nat → Int} {m : Num.Mp} (h : ∀ i, i < N → Num.ringOk m (ringL n X Y K i) = true) : traceOk N n X Y K m = true := by
  unfold traceOk
  rw [List.all_eq_true]
  intro i hi
  exact h i (by simpa using hi)
theorem ringL_kd {n : Nat → Nat} {X Y K : Nat → Nat → Int} {k : Nat} (s2 : 2 ≤ n k) (sb : ∀ i, i < n k → Num.badB (K k) (n k) i = false) : ∀ g ∈ ringL n X Y K k, Num.Kd g.k :=
  Num.ring_kd (by omega) (fun i hi => Num.may_kd (sb i hi))
theorem one_slice (ao : Option Addr) (n c : Nat) : ∀ u ∈ [Value.slice ao n c], u.oneCell' = true := by
  intro u hu; simp at hu; subst hu; rfl

/-- One ring more. -/
theorem SpRings.push {w w3 : World} {base k g cap m c : Nat} {v : Value} {ao : Option Addr} {V : Nat → Value} {L : Nat → List (Int × Int)} {o : Obj} (h : SpRings w base v k V L) (hin : w.ownsRow base 53 2 (.slice ao m c) (L k).length ((L k).flatMap spC))
    (hnew : ∀ q, (Value.slice ao m c).ownBlock = some q → ∀ i, i < k → (V i).ownBlock ≠ some q)
    (hown : w3.ownsRow base 51 1 (.slice (some ⟨g, 0, none⟩) (k + 1) cap) (k + 1) ((List.range k).map V ++ [.slice ao m c])) (hg : (w.alloc o).grownBy w3 v.ownBlock) :
    SpRings w3 base (.slice (some ⟨g, 0, none⟩) (k + 1) cap) (k + 1) (fun i => if i = k then .slice ao m c else V i) L := by
  have hkeep : ∀ (u : Value) (l : List (Int × Int)), w.ownsRow base 53 2 u l.length (l.flatMap spC) → w3.ownsRow base 53 2 u l.length (l.flatMap spC) := fun u l h' => owns_of_block h' (fun b hbb => by
    have hty := owns_ty h' hbb
    have hlt9 := (h'.lt b hbb).2
    rw [hg.block b (by rw [nblk_alloc]; omega) (fun e => by
      have := owns_ty h.outer e.symm
      rw [hty] at this
      simp at this), blk_alloc_lt _ _ _ hlt9])
  refine ⟨?_, fun i hi => ?_, fun i j hi hj hij q hq => ?_⟩
  · rw [range_map_snoc, range_map_congr (g := V) (fun j hj => by rw [if_neg (by omega)]), if_pos rfl]
    exact hown
  · by_cases e : i = k
    · subst e; rw [if_pos rfl]; exact hkeep _ _ hin
    · rw [if_neg e]; exact hkeep _ _ (h.inner i (by omega))
  · by_cases e : i = k
    · subst e
      rw [if_pos rfl] at hq
      rw [if_neg (by omega)]
      exact hnew q hq j (by omega)
    · rw [if_neg e] at hq
      by_cases e2 : j = k
      · subst e2
        rw [if_pos rfl]
        exact fun e3 => hnew q e3 i (by omega) hq
      · rw [if_neg e2]
        exact h.inj i j (by omega) (by omega) hij q hq

set_option maxRecDepth 100000 in
set_option maxHeartbeats 4000000 in
theorem chordTrace_any (ad : Option Addr) (N cc : Nat) (A : Nat → Option Addr) (C n : Nat → Nat) (X Y K : Nat → Nat → Int) (a b c d x y : Int) (w : World) (hN : N ≤ 4294967296) (hn : ∀ i, i < N → n i ≤ 4294967296) (ho : OutAt w ad N A C n X Y K) :
    Calls Try.prog 55 #[.slice ad N cc, .agg #[.int .i64 a, .int .i64 b, .int .i64 c, .int .i64 d, .int .i64 x, .int .i64 y]] w fun e w' => ∃ v V, e = .returned (.tuple #[v, .int .i64 (traceE N n X Y K ⟨a, b, c, d, x, y⟩)]) ∧ Below w.heap.size w w' ∧ SpRings w' w.heap.size v (traceN N n X Y K ⟨a, b, c, d, x, y⟩) V (traceL n X Y K ⟨a, b, c, d, x, y⟩) := by
  obtain ⟨M, hM⟩ : ∃ M : Num.Mp, M = ⟨a, b, c, d, x, y⟩ := ⟨_, rfl⟩
  rw [← hM]
  have hFM : Num.fairB M.a M.b M.c M.d M.x M.y = Num.fairB a b c d x y := by rw [hM]
  have HRg := hide (fun va L base0 w h1 h2 h3 => ringOf_any va L base0 a b c d x y w h1 h2 h3)
  rw [← hM] at HRg
  have hcs := Num.chk_cases N n X Y K
  have HRN : Hid ((Num.chkV N n X Y K).1 = 0 → ringN N n X Y K = N) := fun h => by unfold ringN; rw [if_pos h]
  obtain ⟨TE, hTE⟩ : ∃ TE, TE = traceE N n X Y K M := ⟨_, rfl⟩
  obtain ⟨TN, hTN⟩ : ∃ TN, TN = traceN N n X Y K M := ⟨_, rfl⟩
  have hTN2 : TN = if TE = 0 then N else 0 := by rw [hTN, hTE]; rfl
  rw [← hTE, ← hTN]
  unfold traceE at hTE
  rw [hFM] at hTE
  obtain ⟨V0, hV⟩ : ∃ V, V = Num.chkV N n X Y K := ⟨_, rfl⟩
  rw [← hV] at hcs HRN hTE
  have HV := hide hV
  have HO := hide (ho.below ((Below.refl w.heap.size w).alloc (Nat.le_refl _) (.cells #[.int .i64 a, .int .i64 b, .int .i64 c, .int .i64 d, .int .i64 x, .int .i64 y] 24)))
  have HN := hide hn
  have HMr := hide (mp6_row a b c d x y w 24)
  clear hV hTN ho hn hM hFM
  rcases hcs with ⟨h0, hm, hsh, hfa⟩ | h0
  · rw [if_pos h0] at hTE
    obtain ⟨m16, m200, mn⟩ := ok_many hm
    have HSH := hide hsh
    have HMN := hide mn
    have HRN2 := hide (HRN.out h0)
    clear hsh hfa mn hm HRN
    obtain ⟨v0, v1, v2⟩ := V0
    have h0 : v0 = 0 := h0
    subst h0
    cases hF : Num.fairB a b c d x y
    · rw [if_pos hF] at hTE
      subst hTE
      have hTN3 : TN = 0 := by rw [hTN2]; rfl
      subst hTN3
      clear hTN2
      go_enter Try.func55, Try.ntmps55
      go_wp2_with fail
      refine (outRings_any _ _ _ A C n X Y K _ hN HN.out HO.out).mono ?_
      rw [← HV.out]
      rintro e w1 ⟨vr, VR, rfl, hb1, _⟩
      have hMr1 := row_below HMr.out hb1 HMr.out.lt
      obtain ⟨d0, d1, d2, d3, d4, d5⟩ := mp6_cells hMr1
      have hz1 := hMr1.lt
      have HB1 : Hid (Below w.heap.size w w1) := Below.trans (by (repeat (any_goals (first | exact Below.refl _ _ | assumption | refine Below.drew ?_ | refine below_drewN ?_ _ | refine Below.setCell ?_ ?_ _ | refine Below.alloc ?_ ?_ _ | omega | (simp; done) | (simp; omega))))) (hb1.mono (by simp))
      clear hb1 hMr1
      go_wp2_with fail
      refine (fair_any _ _ _ _ _ _ _).mono ?_
      rw [hF]
      rintro e w2 ⟨rfl, hb2⟩
      have HB2 := hide (HB1.out.trans (hb2.mono (by omega)))
      clear hb2 d0 d1 d2 d3 d4 d5 hF
      go_wp2
      go_ret2
      exact ⟨_, fun _ => .slice none 0 0, rfl, HB2.out, SpRings.nil _ _ _ _⟩
    · rw [if_neg (by rw [hF]; decide)] at hTE
      have HNo : Hid (traceOk N n X Y K M = false → TE = 6 ∧ TN = 0) := fun h => by
        rw [if_pos h] at hTE; rw [hTN2, hTE]; exact ⟨rfl, rfl⟩
      have HYe : Hid (traceOk N n X Y K M = true → TE = 0 ∧ TN = N) := fun h => by
        rw [if_neg (by rw [h]; decide)] at hTE; rw [hTN2, hTE]; exact ⟨rfl, rfl⟩
      obtain ⟨i0, hi0, hz0, hz1, hz2⟩ := info_parts info_sps
      clear hTE hTN2
      go_enter Try.func55, Try.ntmps55
      go_wp2_with fail
      refine (outRings_any _ _ _ A C n X Y K _ hN HN.out HO.out).mono ?_
      rw [← HV.out, HRN2.out]
      rintro e w1 ⟨vr, VR, rfl, hb1, hRA⟩
      have hMr1 := row_below HMr.out hb1 HMr.out.lt
      obtain ⟨d0, d1, d2, d3, d4, d5⟩ := mp6_cells hMr1
      have hz1' := hMr1.lt
      have HMr1 := hide hMr1
      have HB1 : Hid (Below w.heap.size w w1) := Below.trans (by (repeat (any_goals (first | exact Below.refl _ _ | assumption | refine Below.drew ?_ | refine below_drewN ?_ _ | refine Below.setCell ?_ ?_ _ | refine Below.alloc ?_ ?_ _ | omega | (simp; done) | (simp; omega))))) (hb1.mono (by simp))
      obtain ⟨ao, cp, rfl, hao⟩ := owns_form9' hRA.outer
      have HRA := hide hRA
      have HAo := hide hao
      clear hb1 hMr1 hRA hao
      go_wp2_with fail
      refine (fair_any _ _ _ _ _ _ _).mono ?_
      rw [hF]
      rintro e w2 ⟨rfl, hb2⟩
      have hs2 := hb2.size
      have HB2 := hide (HB1.out.trans (hb2.mono (by omega)))
      have HRA2 := hide (HRA.out.below hb2)
      have HMr2 := hide (row_below HMr1.out hb2 hz1')
      have hz2' := HMr2.out.lt
      clear hb2 d0 d1 d2 d3 d4 d5 hF
      go_wp2_with fail
      go_loopw [8, 26] (fun v t wr => ∃ (k : Nat) (V : Nat → Value), k ≤ N ∧ t = .int .i64 k ∧ Below w2.heap.size w2 wr ∧ (∀ i, i < k → Num.ringOk M (ringL n X Y K i) = true) ∧ SpRings wr w2.heap.size v k V (traceL n X Y K M)) (fun _ t _ => N - (intOf t).toNat)
      case atStart => exact ⟨0, fun _ => .slice none 0 0, by omega, rfl, Below.refl _ _, fun i hi => by omega, SpRings.nil _ _ _ _⟩
      case round =>
        obtain ⟨v, rfl⟩ : ∃ v, v = u8 := ⟨_, rfl⟩
        obtain ⟨k, V, hk, rfl, hb, hok, hSR⟩ := hrel
        have hsz := hb.size
        by_cases hlt : k < N
        · obtain ⟨gr, rfl⟩ := HAo.out (by omega)
          have hRAw := HRA2.out.below hb
          have ci := hRAw.outer.cellAt k (by omega)
          rw [List.getElem?_map, List.getElem?_range hlt] at ci
          simp only [Option.map_some] at ci
          have hgrl : gr < wr.heap.size := (hRAw.outer.lt gr rfl).2
          obtain ⟨s2, sb⟩ := ok_shape (HSH.out k hlt)
          have hnk := HMN.out k hlt
          have hrl : (ringL n X Y K k).length ≤ 4000 := by have := refRing_len (X k) (Y k) (K k) (n k); unfold ringL; omega
          have HC := hide (HRg.out (VR k) (ringL n X Y K k) _ wr hrl (ringL_kd s2 sb) (hRAw.inner k hlt))
          have hMrw := row_below HMr2.out hb hz2'
          obtain ⟨d0, d1, d2, d3, d4, d5⟩ := mp6_cells hMrw
          have hzw := hMrw.lt
          have HSR := hide hSR
          have HOk := hide hok
          have HB := hide hb
          clear sb hRAw hMrw hSR hok hb
          go_wp2_with fail
          refine HC.out.mono ?_
          rintro e w3 ⟨vn, rfl, hb3, hown3⟩
          have hs3 := hb3.size
          have HB3 := hide (HB.out.trans (hb3.mono hsz))
          have HSR3 := hide (HSR.out.below hb3)
          clear ci d0 d1 d2 d3 d4 d5 HC
          cases hR : Num.ringOk M (ringL n X Y K k)
          · have hE6 : ringE M (ringL n X Y K k) = 6 := by unfold ringE; rw [hR]; rfl
            rw [hE6]
            obtain ⟨rfl, rfl⟩ := HNo.out (traceOk_no hlt hR)
            have HBf := hide (HB2.out.trans (HB3.out.mono (by omega)))
            clear hb3 hown3 hR hE6 HNo HYe
            go_wp2
            go_ret2
            exact ⟨_, fun _ => .slice none 0 0, rfl, HBf.out, SpRings.nil _ _ _ _⟩
          · have hE0 : ringE M (ringL n X Y K k) = 0 := by unfold ringE; rw [hR]; rfl
            have hR0 : ringR M (ringL n X Y K k) = traceL n X Y K M k := by unfold ringR traceL; rw [hR]; rfl
            rw [hE0]
            rw [hR0] at hown3
            have HOk2 : Hid (∀ i, i < k + 1 → Num.ringOk M (ringL n X Y K i) = true) := fun i hi => by
              rcases (show i < k ∨ i = k by omega) with h1 | h1
              · exact HOk.out i h1
              · rw [h1]; exact hR
            obtain ⟨an, cn, hvn, _⟩ := owns_formN hown3
            subst hvn
            have HNew : Hid (∀ q, (Value.slice an (traceL n X Y K M k).length cn).ownBlock = some q → ∀ i, i < k → (V i).ownBlock ≠ some q) := fun q hq i hi e => by
              have h1 := (hown3.lt q hq).1
              have h2 := ((HSR.out.inner i hi).lt q e).2
              omega
            have HIn := hide (owns_mono (base' := w2.heap.size) hown3 hsz)
            have hout := HSR3.out.outer
            obtain ⟨xs, hxs⟩ : ∃ xs, xs = (List.range k).map V := ⟨_, rfl⟩
            rw [← hxs] at hout
            have HX := hide hxs
            obtain ⟨ml, hml⟩ : ∃ ml, ml = (traceL n X Y K M k).length := ⟨_, rfl⟩
            rw [← hml] at HNew HIn ⊢
            have HML := hide hml
            clear hb3 hown3 hR hE0 hR0 hxs hml
            go_wp2_with (at_builtin; refine wpList_append_lies _ rfl _ _ 48 rfl w2.heap.size 51 i0 (.slice none 0 0) 1 24 Try.underlying48 hi0 hz0 hz1 hz2 rfl (by omega) v k xs rfl (hout.alloc _) ⟨w3.heap.size, 0, none⟩ 1 1 [.slice an ml cn] rfl rfl ?c1 ?c2 (by omega) ?c3 ?c4 ?c5 (w3.heap.size + 1) (by simp) ?_)
            try (case c1 => exact news_sp w3 [.slice an ml cn] _ _ rfl)
            case c2 => first | rfl | exact one_slice _ _ _
            case c3 => unfold maxLen; omega
            case c4 => omega
            case c5 => first | omega | (simp; omega)
            intro g cap w4 hown4 hgrow hat hlt4
            rw [HX.out] at hown4
            have HS4 := hide (HSR3.out.push (by rw [← HML.out]; exact HIn.out) HNew.out hown4 hgrow)
            have hb4 : Below w2.heap.size w2 w4 := (HB3.out.alloc (by omega) _).grown hgrow (by simp; omega) (fun q hq => (HSR3.out.outer.lt q hq).1)
            clear hown4 hgrow hat hout
            go_wp2
            go_roundw
            case rel => exact ⟨k + 1, _, by omega, by go_num, hb4, HOk2.out, HS4.out⟩
            case measure => simp [intOf]; omega
        · have e : k = N := by omega
          obtain ⟨rfl, rfl⟩ := HYe.out (traceOk_yes (fun i hi => hok i (by omega)))
          have HSR := hide hSR
          have HBf := hide (HB2.out.trans (hb.mono (by omega)))
          have hd0 : decide ((k : Int) < (TN : Int)) = false := by simp; omega
          clear hSR hok hb HNo HYe
          go_wp2
          go_ret2
          refine ⟨v, V, rfl, HBf.out, ?_⟩
          rw [← e]
          exact HSR.out.mono (by omega)
  · rw [if_neg h0] at hTE
    subst hTE
    have hTN3 : TN = 0 := by rw [hTN2, if_neg h0]
    subst hTN3
    obtain ⟨v0, v1, v2⟩ := V0
    have hb0 : (v0 != 0) = true := by simpa using h0
    clear h0 HRN hTN2
    go_enter Try.func55, Try.ntmps55
    go_wp2_with fail
    refine (outRings_any _ _ _ A C n X Y K _ hN HN.out HO.out).mono ?_
    rw [← HV.out]
    rintro e w1 ⟨vr, VR, rfl, hb1, _⟩
    have HB1 : Hid (Below w.heap.size w w1) := Below.trans (by (repeat (any_goals (first | exact Below.refl _ _ | assumption | refine Below.drew ?_ | refine below_drewN ?_ _ | refine Below.setCell ?_ ?_ _ | refine Below.alloc ?_ ?_ _ | omega | (simp; done) | (simp; omega))))) (hb1.mono (by simp))
    clear hb1
    go_wp2
    go_ret2
    exact ⟨_, fun _ => .slice none 0 0, rfl, HB1.out, SpRings.nil _ _ _ _⟩

set_option maxHeartbeats 400000 in
theorem glyphTrace_any (ad : Option Addr) (N cc : Nat) (A : Nat → Option Addr) (C n : Nat → Nat) (X Y K : Nat → Nat → Int) (a b c d x y : Int) (w : World) (hN : N ≤ 4294967296) (hn : ∀ i, i < N → n i ≤ 4294967296) (ho : OutAt w ad N A C n X Y K) :
    Calls Try.prog 35 #[.slice ad N cc, .agg #[.int .i64 a, .int .i64 b, .int .i64 c, .int .i64 d, .int .i64 x, .int .i64 y]] w fun e w' => ∃ v V, e = .returned (.tuple #[v, .int .i64 (traceE N n X Y K ⟨a, b, c, d, x, y⟩)]) ∧ Below w.heap.size w w' ∧ SpRings w' w.heap.size v (traceN N n X Y K ⟨a, b, c, d, x, y⟩) V (traceL n X Y K ⟨a, b, c, d, x, y⟩) := by
  have HN := hide hn
  have HO := hide (ho.below ((Below.refl w.heap.size w).alloc (Nat.le_refl _) (.cells #[.int .i64 a, .int .i64 b, .int .i64 c, .int .i64 d, .int .i64 x, .int .i64 y] 24)))
  clear hn ho
  go_enter Try.func35, Try.ntmps35
  go_wp2_with fail
  refine (chordTrace_any _ _ _ A C n X Y K _ _ _ _ _ _ _ hN HN.out HO.out).mono ?_
  rintro e w1 ⟨v, V, rfl, hb, hS⟩
  have hb0 : Below w.heap.size w w1 := Below.trans (by (repeat (any_goals (first | exact Below.refl _ _ | assumption | refine Below.drew ?_ | refine below_drewN ?_ _ | refine Below.setCell ?_ ?_ _ | refine Below.alloc ?_ ?_ _ | omega | (simp; done) | (simp; omega))))) (hb.mono (by simp))
  have HW := hide (hS.mono (base' := w.heap.size) (by simp))
  clear hb hS
  go_wp2
  go_ret2
  exact ⟨v, V, rfl, hb0, HW.out⟩
end Go.Proofs.Ytkhcjkmifddlbab

/- CvM -/
namespace Go.Proofs.Ytkhcjkmifddlbab
open Go.RowKit Go.Deep

set_option maxHeartbeats 1000000 in
/-- The rows of a canvas, tidied. -/
theorem tidyCnv_any (b W H tk : Nat) (tt : TypeId) (A : Nat → Nat → Int) (P st : Int) (S : Nat → Prop) (w : World) (hC : Cnv w b tt W H tk A P S st) (hH : H ≤ 64) :
    Calls Try.prog 70 #[.pointer (some ⟨b, 6, none⟩)] w fun e w' => e = .returned (.tuple #[]) ∧ Touch S w w' ∧ ∃ S', Cnv w' b tt W H tk A P S' st ∧ ∀ q, S' q → S q ∨ w.heap.size ≤ q := by
  have hC0 := hC
  cases hC with
  | tab g T hR hT hbg hA hB hSb hSg hlt =>
    refine (tidyNil_any b tt _ w hR rfl).mono ?_
    rintro e w' ⟨rfl, rfl⟩
    exact ⟨rfl, Touch.refl _ _, S, hC0, fun q hq => .inl hq⟩
  | rws g V R hR hG hbg hA hM hSb hSg hlt =>
    refine (tidy_any b g H V R tt _ w hH hR rfl hG hbg).mono ?_
    rintro e w' ⟨rfl, hT, V', hG', hnew⟩
    have hbl : b < w.heap.size := hR.lt
    refine ⟨rfl, (Touch.refl S w).trans' hT (fun q hq => .inl (hSg q hq)), fun q => S q ∨ (w.heap.size ≤ q ∧ q < w'.heap.size), .rws g V' _ (hT.row hR hbg) hG' (fun e => ?_) (fun i j hi hj => ?_) (fun j hj => ?_) (.inl hSb) (fun q hq => ?_) (fun q hq => ?_), fun q hq => ?_⟩
    · rcases hnew b e with h | h
      · exact hbg h
      · omega
    · rw [Num.rowA_filter]; exact hA i j hi hj
    · rw [Num.mass_filter]; exact hM j hj
    · rcases hnew q hq with h | h
      · exact .inl (hSg q h)
      · exact .inr ⟨h, hG'.lt hq⟩
    · rcases hq with h | h
      · exact Nat.lt_of_lt_of_le (hlt q h) hT.size
      · exact h.2
    · rcases hq with h | h
      · exact .inl h
      · exact .inr h.1

theorem cv7_taken {w : World} {b : Nat} {tt : TypeId} {W H st tw : Int} {tk : Nat} {ta tr : Value} (h : w.rowIs b tt 7 (cv7 W H st tk tw ta tr)) (k : Nat) : (w.setCell ⟨b, 3, none⟩ (.int .i64 (k : Int))).rowIs b tt 7 (cv7 W H st k tw ta tr) := by
  refine (h.set 3 _).congr fun q hq => ?_
  rcases (show q = 0 ∨ q = 1 ∨ q = 2 ∨ q = 3 ∨ q = 4 ∨ q = 5 ∨ q = 6 by omega) with rfl | rfl | rfl | rfl | rfl | rfl | rfl <;> rfl
/-- One more taken. -/
theorem Cnv.took {w : World} {b : Nat} {tt : TypeId} {W H tk : Nat} {A : Nat → Nat → Int} {P : Int} {S : Nat → Prop} {st : Int} (h : Cnv w b tt W H tk A P S st) (k : Nat) : Cnv (w.setCell ⟨b, 3, none⟩ (.int .i64 (k : Int))) b tt W H k A P S st := by
  have hne : ∀ q, q ≠ b → (w.setCell ⟨b, 3, none⟩ (.int .i64 (k : Int))).heap[q]? = w.heap[q]? := fun q hq => blk_setCell_other _ _ _ _ (by simpa using hq)
  have t : Touch (fun q => q = b) w (w.setCell ⟨b, 3, none⟩ (.int .i64 (k : Int))) := (Touch.refl (fun q => q = b) w).setCell (p := ⟨b, 3, none⟩) (.inl rfl) _
  cases h with
  | tab g T hR hT hbg hA hB hSb hSg hlt => exact .tab g T (cv7_taken hR k) (hT.of_block (hne g (fun e => hbg e.symm))) hbg hA hB hSb hSg (fun q hq => Nat.lt_of_lt_of_le (hlt q hq) t.size)
  | rws g V R hR hG hbg hA hM hSb hSg hlt => exact .rws g V R (cv7_taken hR k) (hG.touch t (fun q hq e => hbg (by rw [← e]; exact hq))) hbg hA hM hSb hSg (fun q hq => Nat.lt_of_lt_of_le (hlt q hq) t.size)
theorem Cnv.frozen {w : World} {b : Nat} {tt : TypeId} {W H tk : Nat} {A : Nat → Nat → Int} {P : Int} {S : Nat → Prop} {st : Int} (h : Cnv w b tt W H tk A P S st) (i : Nat) : w.frozen? ⟨b, i, none⟩ = false := by
  cases h with
  | tab g T hR hT hbg hA hB hSb hSg hlt => exact hR.frozen i
  | rws g V R hR hG hbg hA hM hSb hSg hlt => exact hR.frozen i
end Go.Proofs.Ytkhcjkmifddlbab

/- CvN -/
namespace Go.Proofs.Ytkhcjkmifddlbab
open Go.RowKit Go.Deep

/-- What Add and Take answer. -/
def layE (te : Int) (tk : Nat) : Int := if te = 0 then (if 100 ≤ tk then 7 else 0) else te
theorem trace_facts {N : Nat} {n : Nat → Nat} {X Y K : Nat → Nat → Int} {m : Num.Mp} (h : traceE N n X Y K m = 0) : N ≤ 16 ∧ ∀ i, i < N → (traceL n X Y K m i).length ≤ 44400 ∧ ∀ p ∈ traceL n X Y K m i, Num.inB p.1 p.2 = true := by
  rcases Num.chk_cases N n X Y K with ⟨h0, hm, _, _⟩ | h0
  · obtain ⟨m16, _, mn⟩ := ok_many hm
    refine ⟨m16, fun i hi => ⟨?_, Num.ringSp_in⟩⟩
    have h1 := Num.ringSp_le m (ringL n X Y K i)
    have h2 := refRing_len (X i) (Y i) (K i) (n i)
    have h3 := mn i hi
    unfold traceL
    have h4 : (ringL n X Y K i).length ≤ 400 := by unfold ringL; omega
    omega
  · exfalso
    unfold traceE at h
    rw [if_neg h0] at h
    exact h0 h

set_option maxRecDepth 100000 in
set_option maxHeartbeats 4000000 in
theorem lay_any (bk W H tk : Nat) (tt : TypeId) (A : Nat → Nat → Int) (st t : Int) (S : Nat → Prop) (ad : Option Addr) (N cc : Nat) (AA : Nat → Option Addr) (C n : Nat → Nat) (X Y K : Nat → Nat → Int) (a b c d x y : Int) (w : World)
    (hC : Cnv w bk tt W H tk A (781440000000 * tk) S st) (hW : 1 ≤ W ∧ W ≤ 64) (hH : 1 ≤ H ∧ H ≤ 64) (htk : tk ≤ 100) (ht : t = 1 ∨ t = -1) (hN : N ≤ 4294967296) (hn : ∀ i, i < N → n i ≤ 4294967296) (ho : OutAt w ad N AA C n X Y K) :
    Calls Try.prog 52 #[.pointer (some ⟨bk, 0, none⟩), .slice ad N cc, .agg #[.int .i64 a, .int .i64 b, .int .i64 c, .int .i64 d, .int .i64 x, .int .i64 y], .int .i64 t] w fun e w' => e = .returned (.int .i64 (layE (traceE N n X Y K ⟨a, b, c, d, x, y⟩) tk)) ∧ Touch S w w' ∧
      (layE (traceE N n X Y K ⟨a, b, c, d, x, y⟩) tk ≠ 0 → Cnv w' bk tt W H tk A (781440000000 * tk) S st) ∧
      (layE (traceE N n X Y K ⟨a, b, c, d, x, y⟩) tk = 0 → ∃ S', Cnv w' bk tt W H (tk + 1) (fun i j => A i j + t * Num.areaV (traceL n X Y K ⟨a, b, c, d, x, y⟩) N i j) (781440000000 * ((tk + 1 : Nat) : Int)) S' st ∧ ∀ q, S' q → S q ∨ w.heap.size ≤ q) := by
  have HTr := hide (fun w' (h : OutAt w' ad N AA C n X Y K) => chordTrace_any ad N cc AA C n X Y K a b c d x y w' hN hn h)
  have hO1 := hide (ho.below ((Below.refl w.heap.size w).alloc (Nat.le_refl _) (.cells #[.int .i64 a, .int .i64 b, .int .i64 c, .int .i64 d, .int .i64 x, .int .i64 y] 24)))
  obtain ⟨m, hm⟩ : ∃ m : Num.Mp, m = ⟨a, b, c, d, x, y⟩ := ⟨_, rfl⟩
  rw [← hm] at HTr ⊢
  have HF : Hid (traceE N n X Y K m = 0 → N ≤ 16 ∧ ∀ i, i < N → (traceL n X Y K m i).length ≤ 44400 ∧ ∀ p ∈ traceL n X Y K m i, Num.inB p.1 p.2 = true) := trace_facts
  have HTN : Hid (traceE N n X Y K m = 0 → traceN N n X Y K m = N) := fun h => by unfold traceN; rw [if_pos h]
  obtain ⟨L, hL⟩ : ∃ L, L = traceL n X Y K m := ⟨_, rfl⟩
  obtain ⟨TE, hTE⟩ : ∃ TE, TE = traceE N n X Y K m := ⟨_, rfl⟩
  obtain ⟨TN, hTN⟩ : ∃ TN, TN = traceN N n X Y K m := ⟨_, rfl⟩
  rw [← hL, ← hTE, ← hTN] at HTr
  rw [← hL, ← hTE] at HF
  rw [← hTE, ← hTN] at HTN
  rw [← hL, ← hTE]
  obtain ⟨k0, k1, k2, k3, hbl⟩ := hC.cells
  have HC := hide hC
  have HMr := hide (mp6_row a b c d x y w 24)
  clear hC ho hm hL hTE hTN
  by_cases hT0 : TE = 0
  · subst hT0
    obtain ⟨hN16, hLl⟩ := HF.out rfl
    have hTN0 := HTN.out rfl
    subst hTN0
    have HLl := hide hLl
    by_cases hfull : 100 ≤ tk
    · have hle : layE 0 tk = 7 := by unfold layE; rw [if_pos rfl, if_pos hfull]
      rw [hle]
      have hfi : (100 : Int) ≤ (tk : Int) := by omega
      clear hle
      go_enter Try.func52, Try.ntmps52
      go_wp2_with fail
      refine (HTr.out _ hO1.out).mono ?_
      rintro e w1 ⟨v, V, rfl, hb1, hS1⟩
      have HB1 : Hid (Below w.heap.size w w1) := Below.trans (by (repeat (any_goals (first | exact Below.refl _ _ | assumption | refine Below.drew ?_ | refine below_drewN ?_ _ | refine Below.setCell ?_ ?_ _ | refine Below.alloc ?_ ?_ _ | omega | (simp; done) | (simp; omega))))) (hb1.mono (by simp))
      obtain ⟨c0, c1, c2, c3, hbl1⟩ := (HC.out.below HB1.out).cells
      clear hb1 hS1 k0 k1 k2 k3
      go_wp2
      go_ret
      exact ⟨rfl, (Touch.refl S w).of_below HB1.out, fun _ => HC.out.below HB1.out, fun e => by simp at e⟩
    · have hle : layE 0 tk = 0 := by unfold layE; rw [if_pos rfl, if_neg hfull]
      rw [hle]
      have hfi : ¬ (100 : Int) ≤ (tk : Int) := by omega
      clear hle
      go_enter Try.func52, Try.ntmps52
      go_wp2_with fail
      refine (HTr.out _ hO1.out).mono ?_
      rintro e w1 ⟨v, V, rfl, hb1, hS1⟩
      have HB1 : Hid (Below w.heap.size w w1) := Below.trans (by (repeat (any_goals (first | exact Below.refl _ _ | assumption | refine Below.drew ?_ | refine below_drewN ?_ _ | refine Below.setCell ?_ ?_ _ | refine Below.alloc ?_ ?_ _ | omega | (simp; done) | (simp; omega))))) (hb1.mono (by simp))
      have hs1 := HB1.out.size
      have HC1 := hide (HC.out.below HB1.out)
      obtain ⟨c0, c1, c2, c3, hbl1⟩ := HC1.out.cells
      have HS1 := hide (hS1.mono (base' := w.heap.size) (by simp))
      obtain ⟨ao, cap0, hv, hao⟩ := owns_formN hS1.outer
      subst hv
      have HAo := hide hao
      have HSl : Hid (∀ q, S q → q < w.heap.size) := fun q hq => HC.out.lt hq
      clear hb1 hS1 k0 k1 k2 k3 hao HTr HF
      go_wp2_with fail
      go_loopw [29] (fun t' wr => ∃ (k : Nat) (S' : Nat → Prop), k ≤ TN ∧ t' = .int .i64 k ∧ Touch S w1 wr ∧
          Cnv wr bk tt W H tk (fun i j => A i j + t * Num.sumZ (fun r => Num.ringF (Num.chA i j) (L r)) k) (781440000000 * tk + 48840000000 * k) S' st ∧ ∀ q, S' q → S q ∨ w1.heap.size ≤ q) (fun t' _ => TN - (intOf t').toNat)
      case atStart => exact ⟨0, S, by omega, rfl, Touch.refl S w1, HC1.out.mono (fun i j _ _ => by simp [Num.sumZ]) (by simp), fun q hq => .inl hq⟩
      case round =>
        obtain ⟨k, S', hk, rfl, hto, hcv, hS'⟩ := hrel
        have hsz := hto.size
        by_cases hlt : k < TN
        · obtain ⟨q, rfl⟩ := HAo.out (by omega)
          have hSr : SpRings wr w.heap.size (.slice (some ⟨q, 0, none⟩) TN cap0) TN V L := HS1.out.of_blocks (fun b hb => hto.block b (HS1.out.outer.lt b hb).2 (fun e => by have := HSl.out b e; have := (HS1.out.outer.lt b hb).1; omega)) (fun i hi b hb => hto.block b ((HS1.out.inner i hi).lt b hb).2 (fun e => by have := HSl.out b e; have := ((HS1.out.inner i hi).lt b hb).1; omega))
          have ci := hSr.outer.cellAt k (by omega)
          rw [List.getElem?_map, List.getElem?_range hlt] at ci
          simp only [Option.map_some] at ci
          have hin := hSr.inner k hlt
          have hqw : q < wr.heap.size := (hSr.outer.lt q rfl).2
          obtain ⟨hl1, hl2⟩ := HLl.out k hlt
          have hdis : ∀ q', (V k).ownBlock = some q' → ¬ S' q' := fun q' h1 h2 => by
            have h3 := (HS1.out.inner k hlt).lt q' h1
            rcases hS' q' h2 with h | h
            · have := HSl.out q' h; omega
            · omega
          have HCall := hide (layRing_any bk W H tk _ tt _ _ st t S' (V k) (L k) wr hcv hW hH ⟨by omega, by omega⟩ ht hl2 hin hdis)
          obtain ⟨an, cn, hvn, _⟩ := owns_formN hin
          rw [hvn] at ci HCall
          have HTo := hide hto
          have HS' := hide hS'
          have hd1 : decide ((k : Int) < (TN : Int)) = true := by simp; omega
          have i0' : (0 : Int) ≤ (k : Int) := by omega
          have i1' : (k : Int) < (TN : Int) := by omega
          clear hSr hin hcv hto hS' hvn hdis hl2
          go_wp2_with fail
          refine HCall.out.mono ?_
          rintro e w3 ⟨rfl, hT3, S2, hC3, hS2⟩
          have hs3 := hT3.size
          have HT3 : Hid (Touch S w1 w3) := HTo.out.trans' hT3 (fun q e => HS'.out q e)
          have HC3 : Hid (Cnv w3 bk tt W H tk (fun i j => A i j + t * Num.sumZ (fun r => Num.ringF (Num.chA i j) (L r)) (k + 1)) (781440000000 * tk + 48840000000 * ((k + 1 : Nat) : Int)) S2 st) :=
            hC3.mono (fun i j _ _ => by simp only [Num.sumZ]; rw [Int.mul_add]; omega) (by omega)
          have HS3 : Hid (∀ q, S2 q → S q ∨ w1.heap.size ≤ q) := fun q hq => by
            rcases hS2 q hq with h | h
            · exact HS'.out q h
            · exact .inr (by omega)
          clear hT3 hC3 hS2 HCall
          go_wp2
          go_roundw
          case rel => exact ⟨k + 1, S2, by omega, by go_num, HT3.out, HC3.out, HS3.out⟩
          case measure => simp [intOf]; omega
        · have e : k = TN := by omega
          subst e
          have hd0 : decide ((k : Int) < (k : Int)) = false := by simp
          have HCall := hide (tidyCnv_any bk W H tk tt _ _ st S' wr hcv hH.2)
          have HTo := hide hto
          have HS' := hide hS'
          obtain ⟨d0, d1, d2, d3, hblr⟩ := hcv.cells
          clear hto hcv hS' c0 c1 c2 c3
          go_wp2_with fail
          refine HCall.out.mono ?_
          rintro e w3 ⟨rfl, hT3, S2, hC3, hS2⟩
          have hs3 := hT3.size
          obtain ⟨e0, e1, e2, e3, hbl3⟩ := hC3.cells
          have fz := hC3.frozen 3
          have hS2b : S2 bk := hC3.own
          have hbk : S bk := HC.out.own
          have HT3 : Hid (Touch S w w3) := ((Touch.refl S w).of_below HB1.out).trans' (HTo.out.trans' hT3 (fun q e => HS'.out q e)) (fun q e => .inl e)
          have HT4 : Hid (Touch S w (w3.setCell ⟨bk, 3, none⟩ (.int .i64 ((tk + 1 : Nat) : Int)))) := HT3.out.setCell (p := ⟨bk, 3, none⟩) (.inl hbk) _
          have HC4 : Hid (Cnv (w3.setCell ⟨bk, 3, none⟩ (.int .i64 ((tk + 1 : Nat) : Int))) bk tt W H (tk + 1) (fun i j => A i j + t * Num.areaV L k i j) (781440000000 * ((tk + 1 : Nat) : Int)) S2 st) :=
            (hC3.took (tk + 1)).mono (fun i j _ _ => rfl) (by omega)
          have HS4 : Hid (∀ q, S2 q → S q ∨ w.heap.size ≤ q) := fun q hq => by
            rcases hS2 q hq with h | h
            · rcases HS'.out q h with h | h
              · exact .inl h
              · exact .inr (by omega)
            · exact .inr (by omega)
          have ec : ((tk + 1 : Nat) : Int) = (tk : Int) + 1 := by omega
          rw [ec] at HT4 HC4
          clear hT3 hC3 hS2 HCall ec
          go_wp2
          go_ret
          exact ⟨rfl, HT4.out, fun e => absurd rfl e, fun _ => ⟨S2, HC4.out, HS4.out⟩⟩
  · have hle : layE TE tk = TE := by unfold layE; rw [if_neg hT0]
    rw [hle]
    have hTb : (TE != 0) = true := by simpa using hT0
    have HT0 := hide hT0
    clear hle hT0
    go_enter Try.func52, Try.ntmps52
    go_wp2_with fail
    refine (HTr.out _ hO1.out).mono ?_
    rintro e w1 ⟨v, V, rfl, hb1, hS1⟩
    have HB1 : Hid (Below w.heap.size w w1) := Below.trans (by (repeat (any_goals (first | exact Below.refl _ _ | assumption | refine Below.drew ?_ | refine below_drewN ?_ _ | refine Below.setCell ?_ ?_ _ | refine Below.alloc ?_ ?_ _ | omega | (simp; done) | (simp; omega))))) (hb1.mono (by simp))
    clear hb1 hS1 k0 k1 k2 k3
    go_wp2
    go_ret
    exact ⟨rfl, (Touch.refl S w).of_below HB1.out, fun _ => HC.out.below HB1.out, fun e => absurd e HT0.out⟩
end Go.Proofs.Ytkhcjkmifddlbab

/- OkV -/
namespace Go.Proofs.Ytkhcjkmifddlbab
open Go.RowKit Go.Deep

theorem chk_ok {N : Nat} {n : Nat → Nat} {X Y K : Nat → Nat → Int} (h1 : N ≤ 16) (h2 : Num.sumN n N ≤ 200) (h3 : ∀ j, j < N → 2 ≤ n j ∧ ∀ i, i < n j → Num.badB (K j) (n j) i = false)
    (h4 : ∀ j, j < N → ∀ i, i < n j → (-4096 ≤ X j i ∧ X j i ≤ 4096) ∧ -4096 ≤ Y j i ∧ Y j i ≤ 4096) : (Num.chkV N n X Y K).1 = 0 := by
  unfold Num.chkV
  rw [if_neg (by simp [Num.manyB]; omega), Num.firstI_none, Num.firstI_none]
  · rfl
  · intro j hj
    unfold Num.farAt Num.farI
    rw [Num.firstI_none]
    · rfl
    · intro i hi
      have := h4 j hj i hi
      simp [Num.farB, Num.wi]
      omega
  · intro j hj
    unfold Num.shapeAt Num.shapeI
    rw [if_neg (by have := (h3 j hj).1; omega), Num.firstI_none]
    · rfl
    · exact (h3 j hj).2
/-- All numbers of a segment are from -B to B. -/
def SgBd (B : Int) (g : Num.Sg) : Prop := (-B ≤ g.x0 ∧ g.x0 ≤ B) ∧ (-B ≤ g.y0 ∧ g.y0 ≤ B) ∧ (-B ≤ g.x1 ∧ g.x1 ≤ B) ∧ (-B ≤ g.y1 ∧ g.y1 ≤ B) ∧ (-B ≤ g.x2 ∧ g.x2 ≤ B) ∧ (-B ≤ g.y2 ∧ g.y2 ≤ B) ∧ (-B ≤ g.x3 ∧ g.x3 ≤ B) ∧ -B ≤ g.y3 ∧ g.y3 ≤ B
theorem stp_bd {X Y K : Nat → Int} {n t : Nat} {B : Int} {p : Int × Int × Int} (hn : 0 < n) (hX : ∀ i, i < n → (-B ≤ X i ∧ X i ≤ B) ∧ -B ≤ Y i ∧ Y i ≤ B) (h : Num.stp X Y K n t = some p) : (-(2 * B) ≤ p.1 ∧ p.1 ≤ 2 * B) ∧ -(2 * B) ≤ p.2.1 ∧ p.2.1 ≤ 2 * B := by
  have a := hX (t / 2 % n) (Nat.mod_lt _ hn)
  have b := hX ((t / 2 + 1) % n) (Nat.mod_lt _ hn)
  unfold Num.stp at h
  split at h
  · simp at h; subst h; simp only; omega
  · split at h
    · simp at h; subst h; simp only; omega
    · cases h
theorem scan_bd {X Y K : Nat → Int} {n : Nat} {B : Int} (hn : 0 < n) (hX : ∀ i, i < n → (-B ≤ X i ∧ X i ≤ B) ∧ -B ≤ Y i ∧ Y i ≤ B) : ∀ (d k : Nat) (g : Num.Sg) (m : Nat), SgBd (2 * B) g → SgBd (2 * B) (Num.scanR X Y K n d k g m) := by
  intro d
  induction d with
  | zero => intro k g m hg; exact hg
  | succ d ih =>
    intro k g m hg
    unfold Num.scanR
    split
    · exact ih _ _ _ hg
    · rename_i p hp
      have hb := stp_bd hn hX hp
      split
      · unfold SgBd Num.setTo at *; simp only; omega
      · refine ih _ _ _ ?_
        unfold Num.addR
        split <;> (unfold SgBd at *; simp only; omega)
theorem ring_bd {X Y K : Nat → Int} {n : Nat} {B : Int} (hn : 0 < n) (hB : 0 ≤ B) (hX : ∀ i, i < n → (-B ≤ X i ∧ X i ≤ B) ∧ -B ≤ Y i ∧ Y i ≤ B) : ∀ g ∈ Num.refRing X Y K n, SgBd (2 * B) g := by
  intro g hg
  unfold Num.refRing at hg
  rw [List.mem_filterMap] at hg
  obtain ⟨t, _, ht⟩ := hg
  unfold Num.refF at ht
  split at ht
  · simp at ht
    subst ht
    unfold Num.fromV
    refine scan_bd hn hX _ _ _ _ ?_
    have a := hX (t / 2 % n) (Nat.mod_lt _ hn)
    have b := hX ((t / 2 + 1) % n) (Nat.mod_lt _ hn)
    unfold SgBd Num.initS Num.stv
    split <;> (simp only; omega)
  · cases ht
theorem place_ok {a b c d x y s t L D : Int} (hs : -8192 ≤ s ∧ s ≤ 8192) (ht : -8192 ≤ t ∧ t ≤ 8192) (hf : Num.fairB a b c d x y = true) (h1 : -(L * 2048) ≤ a * s + b * t ∧ a * s + b * t ≤ L * 2048) (h2 : -(L * 2048) ≤ c * s + d * t ∧ c * s + d * t ≤ L * 2048) (hx : -D ≤ x ∧ x ≤ D) (hy : -D ≤ y ∧ y ≤ D) (hL : L + D ≤ 16384) :
    Num.placeV a b c d x y s t = (x + Num.hu (a * s + b * t) 2048, y + Num.hu (c * s + d * t) 2048, 0) := by
  have u := Num.hu_between (n := a * s + b * t) (d := 2048) (B := L) (by omega) h1.1 h1.2
  have v := Num.hu_between (n := c * s + d * t) (d := 2048) (B := L) (by omega) h2.1 h2.2
  have w1 : (Num.wi s 8192 && Num.wi t 8192) = true := by simp [Num.wi]; omega
  have w2 : Num.inB (x + Num.hu (a * s + b * t) 2048) (y + Num.hu (c * s + d * t) 2048) = true := Num.inB_of (by omega) (by omega)
  unfold Num.placeV
  rw [if_neg (by rw [w1]; decide), if_neg (by rw [hf]; decide), if_neg (by rw [w2]; decide)]
/-- A map that brings all that is from -B to B in range. -/
def MpOk (B : Int) (m : Num.Mp) : Prop := ∀ s t, -B ≤ s ∧ s ≤ B → -B ≤ t ∧ t ≤ B → Num.pl m s t = (m.x + Num.hu (m.a * s + m.b * t) 2048, m.y + Num.hu (m.c * s + m.d * t) 2048, 0)
theorem put_ok {B : Int} {m : Num.Mp} {g : Num.Sg} (hm : MpOk B m) (hg : SgBd B g) : Num.putOk m g = true := by
  unfold Num.putOk
  rw [hm _ _ hg.1 hg.2.1, hm _ _ hg.2.2.1 hg.2.2.2.1, hm _ _ hg.2.2.2.2.1 hg.2.2.2.2.2.1, hm _ _ hg.2.2.2.2.2.2.1 hg.2.2.2.2.2.2.2]
  rfl
theorem trace_ok {N : Nat} {n : Nat → Nat} {X Y K : Nat → Nat → Int} {m : Num.Mp} {B : Int} (h1 : N ≤ 16) (h2 : Num.sumN n N ≤ 200) (h3 : ∀ j, j < N → 2 ≤ n j ∧ ∀ i, i < n j → Num.badB (K j) (n j) i = false)
    (h4 : ∀ j, j < N → ∀ i, i < n j → (-B ≤ X j i ∧ X j i ≤ B) ∧ -B ≤ Y j i ∧ Y j i ≤ B) (hB : 0 ≤ B ∧ B ≤ 4096) (hf : Num.fairB m.a m.b m.c m.d m.x m.y = true) (hm : MpOk (2 * B) m) : traceE N n X Y K m = 0 := by
  unfold traceE
  rw [if_pos (chk_ok h1 h2 h3 (fun j hj i hi => by have := h4 j hj i hi; omega)), if_neg (by rw [hf]; decide), if_neg]
  rw [traceOk_yes (fun i hi => ?_)]
  · decide
  · unfold Num.ringOk
    rw [List.all_eq_true]
    intro g hg
    exact put_ok hm (ring_bd (by have := (h3 i hi).1; omega) hB.1 (h4 i hi) g hg)
/-- A line's spots but the last. -/
theorem segSp_line {m : Num.Mp} {g : Num.Sg} (hk : g.k = 0) (h : Num.putOk m g = true) : Num.segSp m g = [((Num.pl m g.x0 g.y0).1, (Num.pl m g.x0 g.y0).2.1)] := by
  have hc := Num.put_curve h (.inl hk)
  have hn : Num.curveN (Num.putV m g) = 1 := by
    unfold Num.curveN
    have : Num.needV (Num.putV m g) = 0 := by unfold Num.needV Num.putV; simp [hk]
    rw [this, Num.stepsV_zero (by omega)]; rfl
  unfold Num.segSp Num.curveL
  rw [if_pos hc, hn]
  simp [List.range_succ, Num.spotX, Num.spotY, Num.putV, hk]
/-- The four lines of a contour of four On points. -/
theorem ring4 {X Y K : Nat → Int} (h0 : K 0 = 0) (h1 : K 1 = 0) (h2 : K 2 = 0) (h3 : K 3 = 0) : Num.refRing X Y K 4 =
    [⟨0, 2 * X 0, 2 * Y 0, 0, 0, 0, 0, 2 * X 1, 2 * Y 1⟩, ⟨0, 2 * X 1, 2 * Y 1, 0, 0, 0, 0, 2 * X 2, 2 * Y 2⟩, ⟨0, 2 * X 2, 2 * Y 2, 0, 0, 0, 0, 2 * X 3, 2 * Y 3⟩, ⟨0, 2 * X 3, 2 * Y 3, 0, 0, 0, 0, 2 * X 0, 2 * Y 0⟩] := by
  unfold Num.refRing
  rw [show 2 * 4 = 8 from rfl, show List.range 8 = [0, 1, 2, 3, 4, 5, 6, 7] from rfl]
  simp [Num.refF, Num.onB, Num.stp, Num.fromV, Num.scanR, Num.stv, Num.initS, Num.setTo, h0, h1, h2, h3]
end Go.Proofs.Ytkhcjkmifddlbab

/- CvO -/
namespace Go.Proofs.Ytkhcjkmifddlbab
open Go.RowKit Go.Deep

set_option maxHeartbeats 1000000 in
theorem canvasAdd_any (bk W H tk : Nat) (tt : TypeId) (A : Nat → Nat → Int) (st : Int) (S : Nat → Prop) (ad : Option Addr) (N cc : Nat) (AA : Nat → Option Addr) (C n : Nat → Nat) (X Y K : Nat → Nat → Int) (a b c d x y : Int) (w : World)
    (hC : Cnv w bk tt W H tk A (781440000000 * tk) S st) (hW : 1 ≤ W ∧ W ≤ 64) (hH : 1 ≤ H ∧ H ≤ 64) (htk : tk ≤ 100) (hN : N ≤ 4294967296) (hn : ∀ i, i < N → n i ≤ 4294967296) (ho : OutAt w ad N AA C n X Y K) :
    Calls Try.prog 31 #[.pointer (some ⟨bk, 0, none⟩), .slice ad N cc, .agg #[.int .i64 a, .int .i64 b, .int .i64 c, .int .i64 d, .int .i64 x, .int .i64 y]] w fun e w' => e = .returned (.int .i64 (layE (traceE N n X Y K ⟨a, b, c, d, x, y⟩) tk)) ∧ Touch S w w' ∧
      (layE (traceE N n X Y K ⟨a, b, c, d, x, y⟩) tk ≠ 0 → Cnv w' bk tt W H tk A (781440000000 * tk) S st) ∧
      (layE (traceE N n X Y K ⟨a, b, c, d, x, y⟩) tk = 0 → ∃ S', Cnv w' bk tt W H (tk + 1) (fun i j => A i j + 1 * Num.areaV (traceL n X Y K ⟨a, b, c, d, x, y⟩) N i j) (781440000000 * ((tk + 1 : Nat) : Int)) S' st ∧ ∀ q, S' q → S q ∨ w.heap.size ≤ q) := by
  have hB0 : Hid (Below w.heap.size w (w.alloc (.cells #[.int .i64 a, .int .i64 b, .int .i64 c, .int .i64 d, .int .i64 x, .int .i64 y] 24))) := (Below.refl _ _).alloc (Nat.le_refl _) _
  have HCall := hide (lay_any bk W H tk tt A st 1 S ad N cc AA C n X Y K a b c d x y _ (hC.below hB0.out) hW hH htk (.inl rfl) hN hn (ho.below hB0.out))
  clear hC ho hn
  go_enter Try.func31, Try.ntmps31
  go_wp2_with fail
  refine HCall.out.mono ?_
  rintro e w1 ⟨rfl, hT, h1, h2⟩
  have HT : Hid (Touch S w w1) := ((Touch.refl S w).of_below hB0.out).trans' hT (fun q e => .inl e)
  have H1 := hide h1
  have H2 := hide h2
  clear hT h1 h2 HCall
  go_wp2
  go_ret
  refine ⟨rfl, HT.out, H1.out, fun e => ?_⟩
  obtain ⟨S', g1, g2⟩ := H2.out e
  exact ⟨S', g1, fun q hq => by rcases g2 q hq with h | h; exact .inl h; exact .inr (by simp at h; omega)⟩

set_option maxHeartbeats 1000000 in
theorem glyphAdd_any (bk W H tk : Nat) (tt : TypeId) (A : Nat → Nat → Int) (st : Int) (S : Nat → Prop) (ad : Option Addr) (N cc : Nat) (AA : Nat → Option Addr) (C n : Nat → Nat) (X Y K : Nat → Nat → Int) (a b c d x y : Int) (w : World)
    (hC : Cnv w bk tt W H tk A (781440000000 * tk) S st) (hW : 1 ≤ W ∧ W ≤ 64) (hH : 1 ≤ H ∧ H ≤ 64) (htk : tk ≤ 100) (hN : N ≤ 4294967296) (hn : ∀ i, i < N → n i ≤ 4294967296) (ho : OutAt w ad N AA C n X Y K) :
    Calls Try.prog 15 #[.pointer (some ⟨bk, 0, none⟩), .slice ad N cc, .agg #[.int .i64 a, .int .i64 b, .int .i64 c, .int .i64 d, .int .i64 x, .int .i64 y]] w fun e w' => e = .returned (.int .i64 (layE (traceE N n X Y K ⟨a, b, c, d, x, y⟩) tk)) ∧ Touch S w w' ∧
      (layE (traceE N n X Y K ⟨a, b, c, d, x, y⟩) tk ≠ 0 → Cnv w' bk tt W H tk A (781440000000 * tk) S st) ∧
      (layE (traceE N n X Y K ⟨a, b, c, d, x, y⟩) tk = 0 → ∃ S', Cnv w' bk tt W H (tk + 1) (fun i j => A i j + 1 * Num.areaV (traceL n X Y K ⟨a, b, c, d, x, y⟩) N i j) (781440000000 * ((tk + 1 : Nat) : Int)) S' st ∧ ∀ q, S' q → S q ∨ w.heap.size ≤ q) := by
  have hB0 : Hid (Below w.heap.size w (w.alloc (.cells #[.int .i64 a, .int .i64 b, .int .i64 c, .int .i64 d, .int .i64 x, .int .i64 y] 24))) := (Below.refl _ _).alloc (Nat.le_refl _) _
  have HCall := hide (canvasAdd_any bk W H tk tt A st S ad N cc AA C n X Y K a b c d x y _ (hC.below hB0.out.drew) hW hH htk hN hn (ho.below hB0.out.drew))
  clear hC ho hn
  go_enter Try.func15, Try.ntmps15
  go_wp2_with fail
  go_region_with (go_at_call 31; refine HCall.out.mono ?_; rintro e w1 ⟨rfl, hT, h1, h2⟩)
  all_goals
    have HT : Hid (Touch S w w1) := ((Touch.refl S w).of_below hB0.out.drew).trans' hT (fun q e => .inl e)
    have H1 := hide h1
    have H2 := hide h2
    clear hT h1 h2
    go_wp2
    go_ret
    refine ⟨rfl, HT.out, H1.out, fun e => ?_⟩
    obtain ⟨S', g1, g2⟩ := H2.out e
    exact ⟨S', g1, fun q hq => by rcases g2 q hq with h | h; exact .inl h; exact .inr (by simp at h; omega)⟩

set_option maxHeartbeats 1000000 in
theorem areaOf_any (b W H tk i j : Nat) (tt : TypeId) (A : Nat → Nat → Int) (P st : Int) (S : Nat → Prop) (w : World) (hC : Cnv w b tt W H tk A P S st) (hW : 1 ≤ W ∧ W ≤ 64) (hH : 1 ≤ H ∧ H ≤ 64) (hi : i < W) (hj : j < H) (hP : P ≤ 140737488355328) :
    Calls Try.prog 50 #[.pointer (some ⟨b, 0, none⟩), .int .i64 i, .int .i64 j] w fun e w' => e = .returned (.int .i64 (A i j)) ∧ Below w.heap.size w w' := by
  obtain ⟨c0, c1, c2, c3, hbl⟩ := hC.cells
  cases hC with
  | tab g T hR hT hbg hA hB hSb hSg hlt =>
    have HCall := hide (tabArea_any b g W H i j T tt _ w hW hH.2 hj hi hR rfl rfl hT)
    rw [hA i j hi hj] at HCall
    clear hR hT hA hB hlt
    go_enter Try.func50, Try.ntmps50
    go_wp2_with fail
    refine HCall.out.mono ?_
    rintro e w1 ⟨rfl, rfl⟩
    go_wp2
    go_ret
    exact ⟨rfl, Below.refl _ _⟩
  | rws g V R hR hG hbg hA hM hSb hSg hlt =>
    have HCall := hide (rowsArea_any b g H j 0 i (16384 * P) V (R j) tt _ w hj (by have := Num.srt_le (hG.srt j hj); omega) hR rfl hG.outer (hG.inner j hj) (by omega) (hM j hj))
    rw [hA i j hi hj] at HCall
    clear hR hG hA hM hlt
    go_enter Try.func50, Try.ntmps50
    go_wp2_with fail
    refine HCall.out.mono ?_
    rintro e w1 ⟨rfl, hb1⟩
    go_wp2
    go_ret
    exact ⟨rfl, hb1⟩

/-- Area's answers. -/
def areaN (W H : Nat) (A : Nat → Nat → Int) (x y : Int) : Int := if 0 ≤ x ∧ x < W ∧ 0 ≤ y ∧ y < H then A x.toNat y.toNat else 0
def areaE (W H : Nat) (x y : Int) : Int := if 0 ≤ x ∧ x < W ∧ 0 ≤ y ∧ y < H then 0 else 6

set_option maxHeartbeats 1000000 in
theorem canvasArea_any (b W H tk : Nat) (tt : TypeId) (A : Nat → Nat → Int) (P st x y : Int) (S : Nat → Prop) (w : World) (hC : Cnv w b tt W H tk A P S st) (hW : 1 ≤ W ∧ W ≤ 64) (hH : 1 ≤ H ∧ H ≤ 64) (hP : P ≤ 140737488355328) :
    Calls Try.prog 28 #[.pointer (some ⟨b, 0, none⟩), .int .i64 x, .int .i64 y] w fun e w' => e = .returned (.tuple #[.int .i64 (areaN W H A x y), .int .i64 (areaE W H x y)]) ∧ Below w.heap.size w w' := by
  obtain ⟨c0, c1, c2, c3, hbl⟩ := hC.cells
  unfold areaN areaE
  by_cases hin : 0 ≤ x ∧ x < W ∧ 0 ≤ y ∧ y < H
  · rw [if_pos hin, if_pos hin]
    obtain ⟨i, rfl⟩ : ∃ i : Nat, x = i := ⟨x.toNat, by omega⟩
    obtain ⟨j, rfl⟩ : ∃ j : Nat, y = j := ⟨y.toNat, by omega⟩
    have h1 : i < W := by omega
    have h2 : j < H := by omega
    have HCall := hide (areaOf_any b W H tk i j tt A P st S w hC hW hH h1 h2 hP)
    have d1 : ¬ (W : Int) ≤ (i : Int) := by omega
    have d2 : ¬ (H : Int) ≤ (j : Int) := by omega
    simp only [Int.toNat_natCast]
    clear hC hin
    go_enter Try.func28, Try.ntmps28
    go_wp2_with (go_at_call 50; refine HCall.out.mono ?_; rintro e w1 ⟨rfl, hb1⟩)
    all_goals
      go_ret2
      exact ⟨rfl, hb1⟩
  · rw [if_neg hin, if_neg hin]
    clear hC
    by_cases e1 : x < 0
    · go_enter Try.func28, Try.ntmps28
      go_wp2
      go_ret2
      exact ⟨rfl, Below.refl _ _⟩
    · by_cases e2 : (W : Int) ≤ x
      · go_enter Try.func28, Try.ntmps28
        go_wp2
        go_ret2
        exact ⟨rfl, Below.refl _ _⟩
      · by_cases e3 : y < 0
        · go_enter Try.func28, Try.ntmps28
          go_wp2
          go_ret2
          exact ⟨rfl, Below.refl _ _⟩
        · have e4 : (H : Int) ≤ y := by omega
          go_enter Try.func28, Try.ntmps28
          go_wp2
          go_ret2
          exact ⟨rfl, Below.refl _ _⟩

set_option maxHeartbeats 1000000 in
theorem glyphArea_any (b W H tk : Nat) (tt : TypeId) (A : Nat → Nat → Int) (P st x y : Int) (S : Nat → Prop) (w : World) (hC : Cnv w b tt W H tk A P S st) (hW : 1 ≤ W ∧ W ≤ 64) (hH : 1 ≤ H ∧ H ≤ 64) (hP : P ≤ 140737488355328) :
    Calls Try.prog 13 #[.pointer (some ⟨b, 0, none⟩), .int .i64 x, .int .i64 y] w fun e w' => e = .returned (.tuple #[.int .i64 (areaN W H A x y), .int .i64 (areaE W H x y)]) ∧ Below w.heap.size w w' := by
  have HCall := hide (canvasArea_any b W H tk tt A P st x y S w hC hW hH hP)
  clear hC
  go_enter Try.func13, Try.ntmps13
  go_wp2_with fail
  refine HCall.out.mono ?_
  rintro e w1 ⟨rfl, hb1⟩
  go_wp2
  go_ret2
  exact ⟨rfl, hb1⟩
end Go.Proofs.Ytkhcjkmifddlbab

/- CvS -/
namespace Go.Proofs.Ytkhcjkmifddlbab
open Go.RowKit Go.Deep

theorem info_rowc : (Try.prog.info? 141).map (fun i => (i.zero, i.size, i.bytes)) = some (some (.slice none 0 0), 1, 24) := by kernel_rfl
theorem info_int1 : (Try.prog.info? 3).map (fun i => (i.zero, i.size, i.bytes)) = some (some (.int .i64 0), 1, 8) := by kernel_rfl

set_option maxHeartbeats 1000000 in
theorem newTable_any (W H : Nat) (w : World) (hW : 1 ≤ W ∧ W ≤ 64) (hH : 1 ≤ H ∧ H ≤ 64) :
    Calls Try.prog 54 #[.int .i64 W, .int .i64 H] w fun e w' => ∃ g, e = .returned (.agg #[.int .i64 W, .slice (some ⟨g, 0, none⟩) (W * H) (W * H)]) ∧ Below w.heap.size w w' ∧ w.heap.size ≤ g ∧ w'.rowIs g 3 (W * H) (fun _ => .int .i64 0) := by
  have hWH : W * H ≤ 4096 := Nat.mul_le_mul hW.2 hH.2
  have hmk := run_make_row' (P := Try.prog) 76 3 (.int .i64 0) 8 Try.underlying76 info_int1 rfl .i64 .i64 (W * H) (by omega) (by omega)
  obtain ⟨n, hn⟩ : ∃ n, n = W * H := ⟨_, rfl⟩
  have hni : (W : Int) * (H : Int) = (n : Int) := by rw [hn]; simp
  have w1 : IntKind.i64.wrap ((W : Int) * (H : Int)) = (n : Int) := by rw [hni]; exact wrap_ok _ (by omega) (by omega)
  rw [← hn] at hmk hWH ⊢
  clear hn
  go_enter Try.func54, Try.ntmps54
  go_wp2
  refine bodyPost_ret (v := .agg #[.int .i64 W, .slice (some ⟨w.heap.size + 1, 0, none⟩) n n]) (by simp [results, Try.results54, go_sem]) rfl ⟨w.heap.size + 1, rfl, by (repeat (any_goals (first | exact Below.refl _ _ | assumption | refine Below.drew ?_ | refine below_drewN ?_ _ | refine Below.setCell ?_ ?_ _ | refine Below.alloc ?_ ?_ _ | omega | (simp; done) | (simp; omega)))), by omega, ?_⟩
  have h := World.rowIs_made (w.alloc (.cells #[.int .i64 W, .slice (some ⟨w.heap.size + 1, 0, none⟩) n n] 78)) (.int .i64 0) n 3
  rw [nblk_alloc] at h
  exact h

set_option maxHeartbeats 1000000 in
theorem newRows_any (H : Nat) (w : World) (hH : 1 ≤ H ∧ H ≤ 64) :
    Calls Try.prog 53 #[.int .i64 H] w fun e w' => ∃ g, e = .returned (.agg #[.slice (some ⟨g, 0, none⟩) H H]) ∧ Below w.heap.size w w' ∧ w.heap.size ≤ g ∧ w'.rowIs g 141 H (fun _ => .slice none 0 0) := by
  have hmk := run_make_row' (P := Try.prog) 79 141 (.slice none 0 0) 24 Try.underlying79 info_rowc rfl .i64 .i64 H (by omega) (by omega)
  go_enter Try.func53, Try.ntmps53
  go_wp2
  refine bodyPost_ret (v := .agg #[.slice (some ⟨w.heap.size + 1, 0, none⟩) H H]) (by simp [results, Try.results53, go_sem]) rfl ⟨w.heap.size + 1, rfl, by (repeat (any_goals (first | exact Below.refl _ _ | assumption | refine Below.drew ?_ | refine below_drewN ?_ _ | refine Below.setCell ?_ ?_ _ | refine Below.alloc ?_ ?_ _ | omega | (simp; done) | (simp; omega)))), by omega, ?_⟩
  have h := World.rowIs_made (w.alloc (.cells #[.slice (some ⟨w.heap.size + 1, 0, none⟩) H H] 81)) (.slice none 0 0) H 141
  rw [nblk_alloc] at h
  exact h

/-- Rows in which nothing is. -/
theorem Rws.empty {w : World} {g H : Nat} (h : w.rowIs g 141 H (fun _ => .slice none 0 0)) : Rws w g H (fun _ => .slice none 0 0) (fun _ => []) :=
  ⟨h, fun _ _ => World.ownsRow_nil _ _ _ _, fun _ _ _ _ _ q hq => by simp [Value.ownBlock] at hq, fun _ _ => trivial⟩
theorem rwS_empty {g H q : Nat} (h : rwS g H (fun _ => .slice none 0 0) q) : q = g := by
  rcases h with h | ⟨j, _, h⟩
  · exact h
  · simp [Value.ownBlock] at h
theorem cv7_tab {w : World} {b : Nat} {tt : TypeId} {W H st tk tw : Int} {ta tr : Value} (h : w.rowIs b tt 7 (cv7 W H st tk tw ta tr)) (tw' : Int) (ta' : Value) : ((w.setCell ⟨b, 4, none⟩ (.int .i64 tw')).setCell ⟨b, 5, none⟩ ta').rowIs b tt 7 (cv7 W H st tk tw' ta' tr) := by
  refine ((h.set 4 _).set 5 _).congr fun q hq => ?_
  rcases (show q = 0 ∨ q = 1 ∨ q = 2 ∨ q = 3 ∨ q = 4 ∨ q = 5 ∨ q = 6 by omega) with rfl | rfl | rfl | rfl | rfl | rfl | rfl <;> rfl
theorem cv7_row {w : World} {b : Nat} {tt : TypeId} {W H st tk tw : Int} {ta tr : Value} (h : w.rowIs b tt 7 (cv7 W H st tk tw ta tr)) (tr' : Value) : (w.setCell ⟨b, 6, none⟩ tr').rowIs b tt 7 (cv7 W H st tk tw ta tr') := by
  refine (h.set 6 _).congr fun q hq => ?_
  rcases (show q = 0 ∨ q = 1 ∨ q = 2 ∨ q = 3 ∨ q = 4 ∨ q = 5 ∨ q = 6 by omega) with rfl | rfl | rfl | rfl | rfl | rfl | rfl <;> rfl

set_option maxRecDepth 100000 in
set_option maxHeartbeats 2000000 in
theorem clear_any (b W H tk : Nat) (tt : TypeId) (st tw : Int) (ao1 ao2 : Option Addr) (n1 c1 n2 c2 : Nat) (w : World) (hR : w.rowIs b tt 7 (cv7 W H st tk tw (.slice ao1 n1 c1) (.slice ao2 n2 c2))) (hW : 1 ≤ W ∧ W ≤ 64) (hH : 1 ≤ H ∧ H ≤ 64)
    (hst : (st = 0 ∧ ao2 = none ∧ n2 = 0 ∧ c2 = 0) ∨ (st = 1 ∧ tw = 0 ∧ ao1 = none ∧ n1 = 0 ∧ c1 = 0)) :
    Calls Try.prog 34 #[.pointer (some ⟨b, 0, none⟩)] w fun e w' => e = .returned (.tuple #[]) ∧ Touch (fun q => q = b) w w' ∧ ∃ S', Cnv w' b tt W H 0 (fun _ _ => 0) 0 S' st ∧ ∀ q, S' q → q = b ∨ w.heap.size ≤ q := by
  have k0 := hR.cell (i := 0) (by omega)
  have k1 := hR.cell (i := 1) (by omega)
  have k2 := hR.cell (i := 2) (by omega)
  have k3 := hR.cell (i := 3) (by omega)
  change w.cell? ⟨b, 0, none⟩ = some (.int .i64 W) at k0
  change w.cell? ⟨b, 1, none⟩ = some (.int .i64 H) at k1
  change w.cell? ⟨b, 2, none⟩ = some (.int .i64 st) at k2
  change w.cell? ⟨b, 3, none⟩ = some (.int .i64 tk) at k3
  have z3 := hR.frozen 3
  have hbl := hR.lt
  have HR0 : Hid ((w.setCell ⟨b, 3, none⟩ (.int .i64 0)).rowIs b tt 7 (cv7 W H st 0 tw (.slice ao1 n1 c1) (.slice ao2 n2 c2))) := cv7_taken hR 0
  have HT0 : Hid (Touch (fun q => q = b) w (w.setCell ⟨b, 3, none⟩ (.int .i64 0))) := (Touch.refl (fun q => q = b) w).setCell (p := ⟨b, 3, none⟩) (.inl rfl) _
  clear hR
  rcases hst with ⟨rfl, rfl, rfl, rfl⟩ | ⟨rfl, rfl, rfl, rfl, rfl⟩
  · have HCall := hide (fun w' => newTable_any W H w' hW hH)
    go_enter Try.func34, Try.ntmps34
    go_wp2_with fail
    obtain ⟨w0, hw0⟩ : ∃ w0, w0 = w.setCell ⟨b, 3, none⟩ (.int .i64 0) := ⟨_, rfl⟩
    rw [← hw0] at HR0 HT0
    try rw [← hw0]
    have hs0 := HT0.out.size
    have hbl0 := HR0.out.lt
    have d0 := HR0.out.cell (i := 0) (by omega)
    have d1 := HR0.out.cell (i := 1) (by omega)
    change w0.cell? ⟨b, 0, none⟩ = some (.int .i64 W) at d0
    change w0.cell? ⟨b, 1, none⟩ = some (.int .i64 H) at d1
    clear k0 k1 k2 k3 z3 hw0
    go_region_held3 (fun w' => w'.cell? ⟨b, 0, none⟩ = some (.int .i64 W) ∧ w'.cell? ⟨b, 1, none⟩ = some (.int .i64 H)) (first | exact ⟨d0, d1⟩ | exact ⟨x0, x1⟩ | exact y01) ((go_at_call 54; refine (HCall.out _).mono ?_; rintro e w2 ⟨g, rfl, hb2, hge, hrow2⟩; have hb3 : Below w0.heap.size w0 w2 := ⟨hb2.os, hb2.tape, hb2.output, hb2.size, hb2.block⟩; have hR2 := row_below HR0.out hb3 hbl0; have x0 := hR2.cell (i := 0) (by omega); have x1 := hR2.cell (i := 1) (by omega); have x4 := hR2.cell (i := 4) (by omega); have x5 := hR2.cell (i := 5) (by omega); have f4 := hR2.frozen 4; have f5 := hR2.frozen 5; have hR3 := cv7_tab hR2 (W : Int) (.slice (some ⟨g, 0, none⟩) (W * H) (W * H)); have y01 := And.intro (hR3.cell (i := 0) (by omega)) (hR3.cell (i := 1) (by omega))))
    have hge' : w0.heap.size ≤ g := hge
    have hgb : g ≠ b := by omega
    have hg2 := hrow2.lt
    have hs3 := hb3.size
    have HC : Hid (Cnv ((w2.setCell ⟨b, 4, none⟩ (.int .i64 W)).setCell ⟨b, 5, none⟩ (.slice (some ⟨g, 0, none⟩) (W * H) (W * H))) b tt W H 0 (fun _ _ => 0) 0 (fun q => q = b ∨ q = g) 0) :=
      .tab g (fun _ => 0) hR3 ((hrow2.setOther (a := ⟨b, 4, none⟩) hgb _).setOther (a := ⟨b, 5, none⟩) hgb _) (fun e => hgb e.symm) (fun _ _ _ _ => rfl) (fun _ _ => by simp) (.inl rfl) (.inr rfl) (fun q hq => by
        rw [nblk_setCell, nblk_setCell]
        rcases hq with rfl | rfl
        · omega
        · exact hg2)
    have HT : Hid (Touch (fun q => q = b) w ((w2.setCell ⟨b, 4, none⟩ (.int .i64 W)).setCell ⟨b, 5, none⟩ (.slice (some ⟨g, 0, none⟩) (W * H) (W * H)))) := ((HT0.out.of_below hb3).setCell (p := ⟨b, 4, none⟩) (.inl rfl) _).setCell (p := ⟨b, 5, none⟩) (.inl rfl) _
    clear hb2 hb3 hrow2 hR2 hR3 x0 x1 x4 x5 y01 f4 f5
    go_wp2
    go_end0
    exact ⟨rfl, HT.out, _, HC.out, fun q hq => by rcases hq with h | h; exact .inl h; exact .inr (by omega)⟩
  · have HCall := hide (fun w' => newRows_any H w' hH)
    go_enter Try.func34, Try.ntmps34
    go_wp2_with fail
    refine (HCall.out _).mono ?_
    rintro e w2 ⟨g, rfl, hb2, hge, hrow2⟩
    obtain ⟨w0, hw0⟩ : ∃ w0, w0 = w.setCell ⟨b, 3, none⟩ (.int .i64 0) := ⟨_, rfl⟩
    rw [← hw0] at HR0 HT0 hb2 hge
    have hs0 := HT0.out.size
    have hbl0 := HR0.out.lt
    have hR2 := row_below HR0.out hb2 hbl0
    have x6 := hR2.cell (i := 6) (by omega)
    have f6 := hR2.frozen 6
    have hR3 := cv7_row hR2 (.slice (some ⟨g, 0, none⟩) H H)
    have hgb : g ≠ b := by omega
    have hg2 := hrow2.lt
    have hs3 := hb2.size
    have hrow3 : (w2.setCell ⟨b, 6, none⟩ (.slice (some ⟨g, 0, none⟩) H H)).rowIs g 141 H (fun _ => .slice none 0 0) := hrow2.setOther (a := ⟨b, 6, none⟩) hgb _
    have HC : Hid (Cnv (w2.setCell ⟨b, 6, none⟩ (.slice (some ⟨g, 0, none⟩) H H)) b tt W H 0 (fun _ _ => 0) 0 (fun q => q = b ∨ q = g) 1) :=
      .rws g _ _ hR3 (Rws.empty hrow3) (fun e => hgb (rwS_empty e).symm) (fun _ _ _ _ => rfl) (fun _ _ => by simp [Num.mass]) (.inl rfl) (fun q hq => .inr (rwS_empty hq)) (fun q hq => by
        rw [nblk_setCell]
        rcases hq with rfl | rfl
        · omega
        · exact hg2)
    have HT : Hid (Touch (fun q => q = b) w (w2.setCell ⟨b, 6, none⟩ (.slice (some ⟨g, 0, none⟩) H H))) := (HT0.out.of_below hb2).setCell (p := ⟨b, 6, none⟩) (.inl rfl) _
    have hblw : b < w2.heap.size := by omega
    clear hb2 hrow2 hR2 hR3 hrow3 k0 k1 k2 k3 z3 hw0
    go_wp2
    exact bodyPost_ret (results_none rfl _ _ _) rfl ⟨rfl, HT.out, _, HC.out, fun q hq => by rcases hq with h | h; exact .inl h; exact .inr (by omega)⟩

/-- May a window have such a side? -/
def sideB (n : Int) : Bool := decide (1 ≤ n) && decide (n ≤ 64)
set_option maxHeartbeats 400000 in
theorem isSide_any (n : Int) (w : World) : Calls Try.prog 64 #[.int .i64 n] w fun e w' => e = .returned (.bool (sideB n)) ∧ w' = w := by
  by_cases h1 : 1 ≤ n
  · by_cases h2 : n ≤ 64
    · go_enter Try.func64, Try.ntmps64
      go_wp2
      go_ret
      exact ⟨ret_bool (by simp [sideB]; omega), rfl⟩
    · go_enter Try.func64, Try.ntmps64
      go_wp2
      go_ret
      exact ⟨ret_bool (by simp [sideB]; omega), rfl⟩
  · go_enter Try.func64, Try.ntmps64
    go_wp2
    go_ret
    exact ⟨ret_bool (by simp [sideB]; omega), rfl⟩
end Go.Proofs.Ytkhcjkmifddlbab

/- CvU -/
namespace Go.Proofs.Ytkhcjkmifddlbab
open Go.RowKit Go.Deep

/-- The cells of a new canvas, and what they point at. -/
def CvV (w : World) (W H : Nat) (st tw : Int) (ta tr : Value) (S : Nat → Prop) : Prop :=
  (∀ q, S q → q < w.heap.size) ∧ ∀ (w' : World) (b : Nat) (tt : TypeId), (∀ q, S q → w'.heap[q]? = w.heap[q]?) → w.heap.size ≤ w'.heap.size → w'.rowIs b tt 7 (cv7 W H st 0 tw ta tr) → ¬ S b → Cnv w' b tt W H 0 (fun _ _ => 0) 0 (fun q => S q ∨ q = b) st
theorem Cnv.val {w : World} {b : Nat} {tt : TypeId} {W H : Nat} {S : Nat → Prop} {st : Int} (h : Cnv w b tt W H 0 (fun _ _ => 0) 0 S st) :
    ∃ tw ao1 n1 c1 ao2 n2 c2, w.rowIs b tt 7 (cv7 W H st 0 tw (.slice ao1 n1 c1) (.slice ao2 n2 c2)) ∧ CvV w W H st tw (.slice ao1 n1 c1) (.slice ao2 n2 c2) (fun q => S q ∧ q ≠ b) := by
  cases h with
  | tab g T hR hT hbg hA hB hSb hSg hlt =>
    refine ⟨_, _, _, _, _, _, _, hR, fun q hq => hlt q hq.1, fun w' b' tt' he hs hR' hb' => ?_⟩
    have hg : S g ∧ g ≠ b := ⟨hSg, fun e => hbg e.symm⟩
    exact .tab g T hR' (hT.of_block (he g hg)) (fun e => hb' (by rw [e]; exact hg)) hA hB (.inr rfl) (.inl hg) (fun q hq => by
      rcases hq with hq | rfl
      · have := hlt q hq.1; omega
      · exact hR'.lt)
  | rws g V R hR hG hbg hA hM hSb hSg hlt =>
    refine ⟨_, _, _, _, _, _, _, hR, fun q hq => hlt q hq.1, fun w' b' tt' he hs hR' hb' => ?_⟩
    have hin : ∀ q, rwS g H V q → S q ∧ q ≠ b := fun q hq => ⟨hSg q hq, fun e => hbg (by rw [← e]; exact hq)⟩
    exact .rws g V R hR' ⟨hG.outer.of_block (he g (hin g (.inl rfl))), fun j hj => owns_of_block (hG.inner j hj) (fun b hb => he b (hin b (.inr ⟨j, hj, hb⟩))), hG.inj, hG.srt⟩ (fun e => hb' (hin b' e)) hA hM (.inr rfl) (fun q hq => .inl (hin q hq)) (fun q hq => by
      rcases hq with hq | rfl
      · have := hlt q hq.1; omega
      · exact hR'.lt)
theorem CvV.below {w w' : World} {W H : Nat} {st tw : Int} {ta tr : Value} {S : Nat → Prop} (h : CvV w W H st tw ta tr S) (hb : Below w.heap.size w w') : CvV w' W H st tw ta tr S :=
  ⟨fun q hq => Nat.lt_of_lt_of_le (h.1 q hq) hb.size, fun w'' b tt he hs hR hS => h.2 w'' b tt (fun q hq => (he q hq).trans (hb.block q (h.1 q hq))) (Nat.le_trans hb.size hs) hR hS⟩

theorem CvV.of_blocks {w w' : World} {W H : Nat} {st tw : Int} {ta tr : Value} {S : Nat → Prop} (h : CvV w W H st tw ta tr S) (he : ∀ q, S q → w'.heap[q]? = w.heap[q]?) (hs : w.heap.size ≤ w'.heap.size) : CvV w' W H st tw ta tr S :=
  ⟨fun q hq => Nat.lt_of_lt_of_le (h.1 q hq) hs, fun w'' b tt h1 h2 hR hS => h.2 w'' b tt (fun q hq => (h1 q hq).trans (he q hq)) (Nat.le_trans hs h2) hR hS⟩
theorem cv7_alloc (W H st tk tw : Int) (ta tr : Value) (w : World) (t : TypeId) : (w.alloc (.cells #[.int .i64 W, .int .i64 H, .int .i64 st, .int .i64 tk, .int .i64 tw, ta, tr] t)).rowIs w.heap.size t 7 (cv7 W H st tk tw ta tr) := by
  refine World.rowIs_alloc w #[.int .i64 W, .int .i64 H, .int .i64 st, .int .i64 tk, .int .i64 tw, ta, tr] t (cv7 W H st tk tw ta tr) (fun i hi => ?_)
  have hi : i < 7 := hi
  rcases (show i = 0 ∨ i = 1 ∨ i = 2 ∨ i = 3 ∨ i = 4 ∨ i = 5 ∨ i = 6 by omega) with rfl | rfl | rfl | rfl | rfl | rfl | rfl <;> rfl
theorem cv7_cells {w : World} {b : Nat} {tt : TypeId} {W H st tk tw : Int} {ta tr : Value} (h : w.rowIs b tt 7 (cv7 W H st tk tw ta tr)) :
    w.cell? ⟨b, 0, none⟩ = some (.int .i64 W) ∧ w.cell? ⟨b, 1, none⟩ = some (.int .i64 H) ∧ w.cell? ⟨b, 2, none⟩ = some (.int .i64 st) ∧ w.cell? ⟨b, 3, none⟩ = some (.int .i64 tk) ∧ w.cell? ⟨b, 4, none⟩ = some (.int .i64 tw) ∧ w.cell? ⟨b, 5, none⟩ = some ta ∧ w.cell? ⟨b, 6, none⟩ = some tr :=
  ⟨h.cell (i := 0) (by omega), h.cell (i := 1) (by omega), h.cell (i := 2) (by omega), h.cell (i := 3) (by omega), h.cell (i := 4) (by omega), h.cell (i := 5) (by omega), h.cell (i := 6) (by omega)⟩
theorem cv7_frozen {w : World} {b : Nat} {tt : TypeId} {f : Nat → Value} (h : w.rowIs b tt 7 f) : w.frozen? ⟨b, 0, none⟩ = false ∧ w.frozen? ⟨b, 1, none⟩ = false ∧ w.frozen? ⟨b, 2, none⟩ = false ∧ w.frozen? ⟨b, 3, none⟩ = false ∧ w.frozen? ⟨b, 4, none⟩ = false ∧ w.frozen? ⟨b, 5, none⟩ = false ∧ w.frozen? ⟨b, 6, none⟩ = false :=
  ⟨h.frozen 0, h.frozen 1, h.frozen 2, h.frozen 3, h.frozen 4, h.frozen 5, h.frozen 6⟩
theorem cv7_set {w : World} {b : Nat} {t : TypeId} {f : Nat → Value} (h : w.rowIs b t 7 f) (W H st tk tw : Int) (ta tr : Value) :
    (((((((w.setCell ⟨b, 0, none⟩ (.int .i64 W)).setCell ⟨b, 1, none⟩ (.int .i64 H)).setCell ⟨b, 2, none⟩ (.int .i64 st)).setCell ⟨b, 3, none⟩ (.int .i64 tk)).setCell ⟨b, 4, none⟩ (.int .i64 tw)).setCell ⟨b, 5, none⟩ ta).setCell ⟨b, 6, none⟩ tr).rowIs b t 7 (cv7 W H st tk tw ta tr) := by
  refine (((((((h.set 0 _).set 1 _).set 2 _).set 3 _).set 4 _).set 5 _).set 6 _).congr fun q hq => ?_
  rcases (show q = 0 ∨ q = 1 ∨ q = 2 ∨ q = 3 ∨ q = 4 ∨ q = 5 ∨ q = 6 by omega) with rfl | rfl | rfl | rfl | rfl | rfl | rfl <;> rfl
theorem cv7_below {w : World} {b B : Nat} {W H st tk tw : Int} {ta tr : Value} (hB : B ≤ b) : Below B w (((((((w.setCell ⟨b, 0, none⟩ (.int .i64 W)).setCell ⟨b, 1, none⟩ (.int .i64 H)).setCell ⟨b, 2, none⟩ (.int .i64 st)).setCell ⟨b, 3, none⟩ (.int .i64 tk)).setCell ⟨b, 4, none⟩ (.int .i64 tw)).setCell ⟨b, 5, none⟩ ta).setCell ⟨b, 6, none⟩ tr) :=
  (((((((Below.refl B w).setCell (p := ⟨b, 0, none⟩) hB _).setCell (p := ⟨b, 1, none⟩) hB _).setCell (p := ⟨b, 2, none⟩) hB _).setCell (p := ⟨b, 3, none⟩) hB _).setCell (p := ⟨b, 4, none⟩) hB _).setCell (p := ⟨b, 5, none⟩) hB _).setCell (p := ⟨b, 6, none⟩) hB _
theorem cv7_other {w : World} {b q : Nat} {W H st tk tw : Int} {ta tr : Value} (h : q ≠ b) : (((((((w.setCell ⟨b, 0, none⟩ (.int .i64 W)).setCell ⟨b, 1, none⟩ (.int .i64 H)).setCell ⟨b, 2, none⟩ (.int .i64 st)).setCell ⟨b, 3, none⟩ (.int .i64 tk)).setCell ⟨b, 4, none⟩ (.int .i64 tw)).setCell ⟨b, 5, none⟩ ta).setCell ⟨b, 6, none⟩ tr).heap[q]? = w.heap[q]? := by
  rw [set_otherB h, set_otherB h, set_otherB h, set_otherB h, set_otherB h, set_otherB h, set_otherB h]
/-- What New answers. -/
def newB (a b st : Int) : Bool := sideB a && sideB b && (st == 0 || st == 1)
theorem newB_yes {a b st : Int} (h : newB a b st = true) : (1 ≤ a ∧ a ≤ 64) ∧ (1 ≤ b ∧ b ≤ 64) ∧ (st = 0 ∨ st = 1) := by
  simp [newB, sideB] at h
  omega

set_option maxRecDepth 100000 in
set_option maxHeartbeats 2000000 in
theorem canvasNew_any (W H : Nat) (st : Int) (w : World) (hW : 1 ≤ W ∧ W ≤ 64) (hH : 1 ≤ H ∧ H ≤ 64) (hst : st = 0 ∨ st = 1) :
    Calls Try.prog 49 #[.int .i64 W, .int .i64 H, .int .i64 st] w fun e w' => ∃ tw ao1 n1 c1 ao2 n2 c2 S, e = .returned (.tuple #[.agg #[.int .i64 W, .int .i64 H, .int .i64 st, .int .i64 0, .int .i64 tw, .slice ao1 n1 c1, .slice ao2 n2 c2], .int .i64 0]) ∧ Below w.heap.size w w' ∧ CvV w' W H st tw (.slice ao1 n1 c1) (.slice ao2 n2 c2) S ∧ ∀ q, S q → w.heap.size ≤ q := by
  have s1 : sideB (W : Int) = true := by simp [sideB]; omega
  have s2 : sideB (H : Int) = true := by simp [sideB]; omega
  have s3 : ((st != 0) = false) ∨ ((st != 0) = true ∧ (st != 1) = false) := by rcases hst with rfl | rfl <;> simp
  have HR0 : Hid (((w.alloc (.cells #[.int .i64 0, .int .i64 0, .int .i64 0, .int .i64 0, .int .i64 0, .slice none 0 0, .slice none 0 0] 83)).alloc (.cells #[.int .i64 (W : Int), .int .i64 (H : Int), .int .i64 st, .int .i64 0, .int .i64 0, .slice none 0 0, .slice none 0 0] 83)).rowIs (w.heap.size + 1) 83 7 (cv7 W H st 0 0 (.slice none 0 0) (.slice none 0 0))) := by
    have h := cv7_alloc W H st 0 0 (.slice none 0 0) (.slice none 0 0) (w.alloc (.cells #[.int .i64 0, .int .i64 0, .int .i64 0, .int .i64 0, .int .i64 0, .slice none 0 0, .slice none 0 0] 83)) 83
    rw [nblk_alloc] at h
    exact h
  have HZ0 := hide ((cv7_alloc 0 0 0 0 0 (.slice none 0 0) (.slice none 0 0) w 83).alloc (.cells #[.int .i64 (W : Int), .int .i64 (H : Int), .int .i64 st, .int .i64 0, .int .i64 0, .slice none 0 0, .slice none 0 0] 83))
  have HCall := hide (clear_any (w.heap.size + 1) W H 0 83 st 0 none none 0 0 0 0 _ HR0.out hW hH (by rcases hst with rfl | rfl; exact .inl ⟨rfl, rfl, rfl, rfl⟩; exact .inr ⟨rfl, rfl, rfl, rfl, rfl⟩))
  have HB0 : Hid (Below w.heap.size w ((w.alloc (.cells #[.int .i64 0, .int .i64 0, .int .i64 0, .int .i64 0, .int .i64 0, .slice none 0 0, .slice none 0 0] 83)).alloc (.cells #[.int .i64 (W : Int), .int .i64 (H : Int), .int .i64 st, .int .i64 0, .int .i64 0, .slice none 0 0, .slice none 0 0] 83))) := ((Below.refl _ _).alloc (Nat.le_refl _) _).alloc (by simp) _
  rcases s3 with s3 | ⟨s3, s4⟩
  all_goals
    go_enter Try.func49, Try.ntmps49
    go_wp2_with (go_at_call 64; refine (isSide_any _ _).mono ?_; rintro e w' ⟨rfl, rfl⟩)
    refine HCall.out.mono ?_
    rintro e w2 ⟨rfl, hT2, S, hC2, hS2⟩
    have hs2 := hT2.size
    rw [nblk_alloc, nblk_alloc] at hs2
    obtain ⟨tw, ao1, n1, c1, ao2, n2, c2, hR2, hV2⟩ := hC2.val
    have hZ2 := hT2.row HZ0.out (by omega)
    obtain ⟨e0, e1, e2, e3, e4, e5, e6⟩ := cv7_cells hR2
    obtain ⟨z0, z1, z2, z3', z4, z5, z6⟩ := cv7_cells hZ2
    obtain ⟨f0, f1, f2, f3, f4, f5, f6⟩ := cv7_frozen hZ2
    obtain ⟨rb, hrb⟩ : ∃ rb, rb = w.heap.size := ⟨_, rfl⟩
    have HB2 : Hid (Below w.heap.size w w2) := (HB0.out).trans (hT2.below (by simp; omega) (fun q e => by omega))
    have HR3 := hide (cv7_set hZ2 W H st 0 tw (.slice ao1 n1 c1) (.slice ao2 n2 c2))
    have HB3 := hide (HB2.out.trans (cv7_below (w := w2) (W := W) (H := H) (st := st) (tk := 0) (tw := tw) (ta := .slice ao1 n1 c1) (tr := .slice ao2 n2 c2) (Nat.le_refl w.heap.size)))
    have HV2 := hide hV2
    have HSn : Hid (∀ q, S q ∧ q ≠ w.heap.size + 1 → w.heap.size + 2 ≤ q) := fun q hq => by
      rcases hS2 q hq.1 with h | h
      · exact absurd h hq.2
      · simp at h; omega
    have hw2 : w.heap.size + 1 < w2.heap.size := by omega
    have hw3 : w.heap.size < w2.heap.size := by omega
    clear hT2 hC2 hS2 hR2 hZ2 hV2 HCall
    go_wp2
    obtain ⟨wF, hwF⟩ : ∃ wF, wF = ((((((w2.setCell ⟨w.heap.size, 0, none⟩ (.int .i64 W)).setCell ⟨w.heap.size, 1, none⟩ (.int .i64 H)).setCell ⟨w.heap.size, 2, none⟩ (.int .i64 st)).setCell ⟨w.heap.size, 3, none⟩ (.int .i64 0)).setCell ⟨w.heap.size, 4, none⟩ (.int .i64 tw)).setCell ⟨w.heap.size, 5, none⟩ (.slice ao1 n1 c1)).setCell ⟨w.heap.size, 6, none⟩ (.slice ao2 n2 c2) := ⟨_, rfl⟩
    rw [← hwF]
    have hVF : CvV wF W H st tw (.slice ao1 n1 c1) (.slice ao2 n2 c2) (fun q => S q ∧ q ≠ w.heap.size + 1) := HV2.out.of_blocks (fun q hq => by rw [hwF]; exact cv7_other (by have := HSn.out q hq; omega)) (by rw [hwF]; simp)
    rw [← hwF] at HR3 HB3
    obtain ⟨g0, g1, g2, g3, g4, g5, g6⟩ := cv7_cells HR3.out
    exact bodyPost_ret (v := .tuple #[.agg #[.int .i64 W, .int .i64 H, .int .i64 st, .int .i64 0, .int .i64 tw, .slice ao1 n1 c1, .slice ao2 n2 c2], .int .i64 0]) (by simp [results, Try.results49, go_sem, g0, g1, g2, g3, g4, g5, g6]) rfl ⟨tw, ao1, n1, c1, ao2, n2, c2, _, rfl, HB3.out, hVF, fun q hq => by have := HSn.out q hq; omega⟩
end Go.Proofs.Ytkhcjkmifddlbab

/- CvW -/
namespace Go.Proofs.Ytkhcjkmifddlbab
open Go.RowKit Go.Deep

set_option maxRecDepth 100000 in
set_option maxHeartbeats 2000000 in
theorem glyphNew_any (W H : Nat) (st : Int) (w : World) (hW : 1 ≤ W ∧ W ≤ 64) (hH : 1 ≤ H ∧ H ≤ 64) (hst : st = 0 ∨ st = 1) :
    Calls Try.prog 27 #[.int .i64 W, .int .i64 H, .int .i64 st] w fun e w' => ∃ b S, e = .returned (.tuple #[.pointer (some ⟨b, 0, none⟩), .int .i64 0]) ∧ Below w.heap.size w w' ∧ Cnv w' b 85 W H 0 (fun _ _ => 0) 0 S st ∧ ∀ q, S q → w.heap.size ≤ q := by
  have HCall := hide (canvasNew_any W H st w hW hH hst)
  clear hst
  go_enter Try.func27, Try.ntmps27
  go_wp2_with fail
  refine HCall.out.mono ?_
  rintro e w1 ⟨tw, ao1, n1, c1, ao2, n2, c2, S, rfl, hb1, hV, hS⟩
  have hs1 := hb1.size
  have HV := hide hV
  have HB := hide hb1
  have HS := hide hS
  clear hV hS hb1 HCall
  go_wp2
  go_ret2
  have hrow := cv7_alloc W H st 0 tw (.slice ao1 n1 c1) (.slice ao2 n2 c2) (w1.alloc (.cells #[.int .i64 (W : Int), .int .i64 (H : Int), .int .i64 st, .int .i64 0, .int .i64 tw, .slice ao1 n1 c1, .slice ao2 n2 c2] 83)) 85
  rw [nblk_alloc] at hrow
  have hlt := HV.out.1
  refine ⟨w1.heap.size + 1, fun q => S q ∨ q = w1.heap.size + 1, rfl, by have := HB.out; (repeat (any_goals (first | exact Below.refl _ _ | assumption | refine Below.drew ?_ | refine below_drewN ?_ _ | refine Below.setCell ?_ ?_ _ | refine Below.alloc ?_ ?_ _ | omega | (simp; done) | (simp; omega)))), HV.out.2 _ _ _ (fun q hq => ?_) (by simp; omega) hrow (fun e => ?_), fun q hq => ?_⟩
  · have := hlt q hq
    rw [blk_alloc_lt _ _ _ (by simp; omega), blk_alloc_lt _ _ _ this]
  · have := hlt _ e; omega
  · rcases hq with hq | hq
    · exact HS.out q hq
    · omega

/-- The byte of an area. -/
def byteV (a : Int) : Int := Num.hu (255 * Num.lsV (Num.sz a) 8192) 8192
theorem byteV_bd (a : Int) : 0 ≤ byteV a ∧ byteV a ≤ 255 := by
  have h1 := Num.sz_nn a
  have h2 := Num.ls_le (Num.sz a) 8192
  have h3 := Num.ls_or (Num.sz a) 8192
  unfold byteV
  exact ⟨Num.hu_ge_of (by omega) (by omega), Num.hu_le_of (by omega) (by omega)⟩

set_option maxHeartbeats 400000 in
theorem sizeG_any (n : Int) (w : World) (h1 : -9000000000000000000 ≤ n) (h2 : n ≤ 9000000000000000000) :
    Calls Try.prog 80 #[.int .i64 n] w fun e w' => e = .returned (.int .i64 (Num.sz n)) ∧ w' = w := by
  by_cases a : n < 0
  · go_enter Try.func80, Try.ntmps80
    go_wp2
    go_ret
    exact ⟨ret_int (by unfold Num.sz; rw [if_pos (by omega)]), rfl⟩
  · go_enter Try.func80, Try.ntmps80
    go_wp2
    go_ret
    exact ⟨ret_int (by unfold Num.sz; rw [if_neg (by omega)]), rfl⟩

set_option maxHeartbeats 400000 in
theorem byteOf_any (a : Int) (w : World) (h1 : -9000000000000000000 ≤ a) (h2 : a ≤ 9000000000000000000) :
    Calls Try.prog 68 #[.int .i64 a] w fun e w' => e = .returned (.int .u8 (byteV a)) ∧ w' = w := by
  have z1 := Num.sz_nn a
  have z2 := Num.ls_le (Num.sz a) 8192
  have z3 := Num.ls_or (Num.sz a) 8192
  have z4 : 0 ≤ Num.hu (255 * Num.lsV (Num.sz a) 8192) 8192 ∧ Num.hu (255 * Num.lsV (Num.sz a) 8192) 8192 ≤ 255 := byteV_bd a
  go_enter Try.func68, Try.ntmps68
  go_wp2_with (first | (go_at_call 80; refine (sizeG_any _ _ (by omega) (by omega)).mono ?_; rintro e w' ⟨rfl, rfl⟩) | (go_at_call 79; refine (lesser_any _ _ _).mono ?_; rintro e w' ⟨rfl, rfl⟩) | (go_at_call 81; refine (halfUp_any _ _ _ (by omega) (by omega) (by omega) (by omega)).mono ?_; rintro e w' ⟨rfl, rfl⟩))
  go_ret
  exact ⟨rfl, rfl⟩

/-- Does a part lie in the window? -/
def partB (x n s : Int) : Bool := decide (1 ≤ n) && decide (n ≤ s) && decide (0 ≤ x) && decide (x ≤ s - n)
set_option maxHeartbeats 400000 in
theorem isPart_any (x n s : Int) (w : World) (hs : 0 ≤ s ∧ s ≤ 64) : Calls Try.prog 67 #[.int .i64 x, .int .i64 n, .int .i64 s] w fun e w' => e = .returned (.bool (partB x n s)) ∧ w' = w := by
  by_cases h1 : 1 ≤ n
  · by_cases h2 : n ≤ s
    · by_cases h3 : 0 ≤ x
      · by_cases h4 : x ≤ s - n
        · go_enter Try.func67, Try.ntmps67
          go_wp2
          go_ret
          exact ⟨ret_bool (by simp [partB]; omega), rfl⟩
        · go_enter Try.func67, Try.ntmps67
          go_wp2
          go_ret
          exact ⟨ret_bool (by simp [partB]; omega), rfl⟩
      · go_enter Try.func67, Try.ntmps67
        go_wp2
        go_ret
        exact ⟨ret_bool (by simp [partB]; omega), rfl⟩
    · go_enter Try.func67, Try.ntmps67
      go_wp2
      go_ret
      exact ⟨ret_bool (by simp [partB]; omega), rfl⟩
  · go_enter Try.func67, Try.ntmps67
    go_wp2
    go_ret
    exact ⟨ret_bool (by simp [partB]; omega), rfl⟩
end Go.Proofs.Ytkhcjkmifddlbab
