/- ringOf: the spots of one contour. -/
import Derived.Test.YthpdbbplpmmjlaaTrc
import Derived.Test.YthpdbbplpmmjlaaRngP
namespace Go.Proofs.Ythpdbbplpmmjlaa
open Go.RowKit Go.Deep

theorem owns_seg9 {w : World} {base b cap : Nat} {t : TypeId} {l : List Num.Sg} (h : w.ownsRow base t 9 (.slice (some ⟨b, 0, none⟩) l.length cap) l.length (l.flatMap sgC)) (i : Nat) (hi : i < l.length) :
    w.cell? ⟨b, i * 9, none⟩ = some (.int .i64 l[i].k) ∧ w.cell? ⟨b, i * 9 + 1, none⟩ = some (.int .i64 l[i].x0) ∧ w.cell? ⟨b, i * 9 + 2, none⟩ = some (.int .i64 l[i].y0) ∧ w.cell? ⟨b, i * 9 + 3, none⟩ = some (.int .i64 l[i].x1) ∧ w.cell? ⟨b, i * 9 + 4, none⟩ = some (.int .i64 l[i].y1) ∧ w.cell? ⟨b, i * 9 + 5, none⟩ = some (.int .i64 l[i].x2) ∧ w.cell? ⟨b, i * 9 + 6, none⟩ = some (.int .i64 l[i].y2) ∧ w.cell? ⟨b, i * 9 + 7, none⟩ = some (.int .i64 l[i].x3) ∧ w.cell? ⟨b, i * 9 + 8, none⟩ = some (.int .i64 l[i].y3) := by
  have flat : ∀ (l : List Num.Sg) (i q : Nat) (hi : i < l.length), q < 9 → (l.flatMap sgC)[i * 9 + q]? = (sgC l[i])[q]? := by
    intro l
    induction l with
    | nil => intro i q hi; simp at hi
    | cons x r ih =>
      intro i q hi hq
      rw [List.flatMap_cons]
      have h2 : (sgC x).length = 9 := rfl
      cases i with
      | zero =>
        simp only [Nat.zero_mul, Nat.zero_add, List.getElem_cons_zero]
        rw [List.getElem?_append_left (by omega)]
      | succ j =>
        have := ih j q (by simpa using hi) hq
        simp only [List.getElem_cons_succ]
        rw [List.getElem?_append_right (by omega), h2, show (j + 1) * 9 + q - 9 = j * 9 + q by omega]
        exact this
  have e : ∀ q, q < 9 → w.cell? ⟨b, i * 9 + q, none⟩ = (sgC l[i])[q]? := fun q hq => by
    rw [h.cellAt (i * 9 + q) (by omega)]; exact flat l i q hi hq
  exact ⟨e 0 (by omega), e 1 (by omega), e 2 (by omega), e 3 (by omega), e 4 (by omega), e 5 (by omega), e 6 (by omega), e 7 (by omega), e 8 (by omega)⟩

/-- The list of a ring: nil, or in a block. -/
theorem ringSp_take {m : Num.Mp} {L : List Num.Sg} {j : Nat} (hj : j < L.length) : Num.ringSp m (L.take (j + 1)) = Num.ringSp m (L.take j) ++ Num.segSp m L[j] := by
  rw [List.take_succ_eq_append_getElem hj, Num.ringSp_snoc]

def ringE (m : Num.Mp) (L : List Num.Sg) : Int := if Num.ringOk m L = true then 0 else 6
def ringR (m : Num.Mp) (L : List Num.Sg) : List (Int × Int) := if Num.ringOk m L = true then Num.ringSp m L else []

set_option maxRecDepth 100000 in
set_option maxHeartbeats 4000000 in
theorem ringOf_any (va : Value) (L : List Num.Sg) (base0 : Nat) (a b c d x y : Int) (w : World) (hL : L.length ≤ 4000) (hk : ∀ g ∈ L, Num.Kd g.k) (hown0 : w.ownsRow base0 44 9 va L.length (L.flatMap sgC)) :
    Calls Try.prog 90 #[va, .agg #[.int .i64 a, .int .i64 b, .int .i64 c, .int .i64 d, .int .i64 x, .int .i64 y]] w fun e w' => ∃ v, e = .returned (.tuple #[v, .int .i64 (ringE ⟨a, b, c, d, x, y⟩ L)]) ∧ Below w.heap.size w w' ∧ w'.ownsRow w.heap.size 41 2 v (ringR ⟨a, b, c, d, x, y⟩ L).length ((ringR ⟨a, b, c, d, x, y⟩ L).flatMap spC) := by
  obtain ⟨M, hM⟩ : ∃ M : Num.Mp, M = ⟨a, b, c, d, x, y⟩ := ⟨_, rfl⟩
  rw [← hM]
  have HPl := hide (fun (g : Num.Sg) (w : World) => segPut_any g.k g.x0 g.y0 g.x1 g.y1 g.x2 g.y2 g.x3 g.y3 a b c d x y w)
  rw [← hM] at HPl
  obtain ⟨E, hE⟩ : ∃ E, E = ringE M L := ⟨_, rfl⟩
  obtain ⟨R, hR⟩ : ∃ R, R = ringR M L := ⟨_, rfl⟩
  rw [← hE, ← hR]
  have HNo : Hid (Num.ringOk M L = false → E = 6 ∧ R = []) := fun h => by rw [hE, hR]; unfold ringE ringR; rw [h]; exact ⟨rfl, rfl⟩
  have HYe : Hid (Num.ringOk M L = true → E = 0 ∧ R = Num.ringSp M L) := fun h => by rw [hE, hR]; unfold ringE ringR; rw [h]; exact ⟨rfl, rfl⟩
  have HKd := hide hk
  obtain ⟨ao, cp, rfl, hao⟩ := owns_formN hown0
  have HO0 := hide hown0
  have HAo := hide hao
  have hbl : ∀ g2, ao = some ⟨g2, 0, none⟩ → g2 < w.heap.size := fun g2 e => (hown0.lt g2 (by rw [e]; rfl)).2
  have HBl := hide hbl
  obtain ⟨n, hn⟩ : ∃ n, n = L.length := ⟨_, rfl⟩
  rw [← hn] at hL ⊢
  have HN := hide hn
  obtain ⟨i0, hi0, hz0, hz1, hz2⟩ := info_parts info_spot
  have HMr := hide (mp6_row a b c d x y w 39)
  clear hM hE hR hk hown0 hao hbl hn
  go_enter Try.func90, Try.ntmps90
  go_wp2_with fail
  go_loopw [6, 16] (fun v t wr => ∃ j : Nat, j ≤ n ∧ t = .int .i64 j ∧ Below (w.heap.size + 1) (w.alloc (.cells #[.int .i64 a, .int .i64 b, .int .i64 c, .int .i64 d, .int .i64 x, .int .i64 y] 39)) wr ∧ (∀ i (hi : i < L.length), i < j → Num.putOk M L[i] = true) ∧ wr.ownsRow (w.heap.size + 1) 41 2 v (Num.ringSp M (L.take j)).length ((Num.ringSp M (L.take j)).flatMap spC)) (fun _ t _ => n - (intOf t).toNat)
  case atStart => exact ⟨0, by omega, rfl, Below.refl _ _, fun i hi h => by omega, by simpa [Num.ringSp] using World.ownsRow_nil _ _ _ _⟩
  case round =>
    obtain ⟨vo, rfl⟩ : ∃ vo, vo = u6 := ⟨_, rfl⟩
    obtain ⟨wo, rfl⟩ : ∃ wo, wo = wr := ⟨wr, rfl⟩
    obtain ⟨j, hj, rfl, hB, hok, hown⟩ := hrel
    have hsB := hB.size
    simp at hsB
    have HBw : Hid (Below w.heap.size w wo) := Below.trans (by (repeat (any_goals (first | exact Below.refl _ _ | assumption | refine Below.drew ?_ | refine below_drewN ?_ _ | refine Below.setCell ?_ ?_ _ | refine Below.alloc ?_ ?_ _ | omega | (simp; done) | (simp; omega))))) (hB.mono (by omega))
    by_cases hlt : j < n
    · have hjl : j < L.length := by rw [← HN.out]; exact hlt
      obtain ⟨g2, rfl⟩ := HAo.out (by rw [← HN.out]; omega)
      have hg2 := HBl.out g2 rfl
      have hO2 := owns_of_block (w' := wo) HO0.out (fun q hq => by simp [Value.ownBlock] at hq; subst hq; exact HBw.out.block _ hg2)
      obtain ⟨c0, c1, c2, c3, c4, c5, c6, c7, c8⟩ := owns_seg9 hO2 j hjl
      have HSu := hide (ringSp_take (m := M) hjl)
      have HKj := hide (HKd.out _ (List.getElem_mem hjl))
      have HOkN := hide (fun h => Num.ringOk_no (m := M) hjl h)
      have hlen := Num.ringSp_le M (L.take j)
      have hlt2 : (L.take j).length ≤ 4000 := by rw [List.length_take]; omega
      have HStep : Hid (Num.putOk M L[j] = true → ∀ i (hi : i < L.length), i < j + 1 → Num.putOk M L[i] = true) := fun h i hi hij => by
        rcases (show i < j ∨ i = j by omega) with h1 | h1
        · exact hok i hi h1
        · subst h1; exact h
      obtain ⟨S, hS⟩ : ∃ S, S = L[j] := ⟨_, rfl⟩
      rw [← hS] at c0 c1 c2 c3 c4 c5 c6 c7 c8 HSu HKj HOkN HStep
      have hMr := row_below HMr.out hB (by omega)
      obtain ⟨d0, d1, d2, d3, d4, d5⟩ := mp6_cells hMr
      have hg2w : g2 < wo.heap.size := by omega
      have y0 : w.heap.size < wo.heap.size := by omega
      have HCall := hide (HPl.out S)
      obtain ⟨PG, hPG⟩ : ∃ PG, PG = Num.putG M S := ⟨_, rfl⟩
      obtain ⟨PE, hPE⟩ : ∃ PE, PE = Num.putE M S := ⟨_, rfl⟩
      rw [← hPG, ← hPE] at HCall
      have HPG := hide hPG
      have HPE := hide hPE
      have HOw := hide hown
      have HB := hide hB
      clear hO2 hS hMr hPG hPE hok hown hB
      go_wp2_with fail
      refine (HCall.out _).mono ?_
      rintro e w1 ⟨rfl, hb1⟩
      have hs1 : wo.heap.size < w1.heap.size := by have := hb1.size; simp at this; omega
      have hB1 : Below wo.heap.size wo w1 := Below.trans (by (repeat (any_goals (first | exact Below.refl _ _ | assumption | refine Below.drew ?_ | refine below_drewN ?_ _ | refine Below.setCell ?_ ?_ _ | refine Below.alloc ?_ ?_ _ | omega | (simp; done) | (simp; omega))))) (hb1.mono (by simp))
      have hown1 := owns_of_block HOw.out (fun q hq => hB1.block q (HOw.out.lt q hq).2)
      have hBB1 : Below (w.heap.size + 1) (w.alloc (.cells #[.int .i64 a, .int .i64 b, .int .i64 c, .int .i64 d, .int .i64 x, .int .i64 y] 39)) w1 := HB.out.trans (hB1.mono (by omega))
      have HBw1 := hide (HBw.out.trans (hB1.mono (by omega)))
      clear hb1 hB1 c0 c1 c2 c3 c4 c5 c6 c7 c8 d0 d1 d2 d3 d4 d5
      cases hput : Num.putOk M S
      · have hPE6 : PE = 6 := by rw [HPE.out]; unfold Num.putE; rw [hput]; rfl
        subst hPE6
        obtain ⟨rfl, rfl⟩ := HNo.out (HOkN.out hput)
        clear hput HNo HYe
        go_wp2
        go_ret2
        refine ⟨_, rfl, ?_, World.ownsRow_nil _ _ _ _⟩
        have := HBw1.out
        have hs2 := this.size
        exact this.alloc (by omega) _
      · have hPE0 : PE = 0 := by rw [HPE.out]; unfold Num.putE; rw [hput]; rfl
        have hPGv : PG = Num.putV M S := by rw [HPG.out]; unfold Num.putG; rw [hput]; rfl
        have hcE := Num.put_curve hput HKj.out
        have hcl := Num.curveL_le (Num.putV M S)
        have hcp := Num.curveL_pos hcE
        have HSg : Hid (Num.segSp M S = (Num.curveL PG).dropLast) := by unfold Hid Num.segSp; rw [hPGv]
        rw [← hPGv] at hcE hcl hcp
        have HCv := hide (fun w => chordCurve_any PG.k PG.x0 PG.y0 PG.x1 PG.y1 PG.x2 PG.y2 PG.x3 PG.y3 w)
        have HSt2 := hide (HStep.out hput)
        rw [hcE] at HCv
        obtain ⟨CL, hCL⟩ : ∃ CL, CL = Num.curveL PG := ⟨_, rfl⟩
        rw [← hCL] at HCv HSg hcl hcp
        subst hPE0
        clear hput hPGv hcE hCL HNo HStep
        go_wp2_with fail
        refine (HCv.out _).mono ?_
        rintro e w2 ⟨vC, rfl, hb2, hownC⟩
        have hs2 : w1.heap.size < w2.heap.size := by have := hb2.size; simp at this; omega
        have hB2 : Below w1.heap.size w1 w2 := Below.trans (by (repeat (any_goals (first | exact Below.refl _ _ | assumption | refine Below.drew ?_ | refine below_drewN ?_ _ | refine Below.setCell ?_ ?_ _ | refine Below.alloc ?_ ?_ _ | omega | (simp; done) | (simp; omega))))) (hb2.mono (by simp))
        have hown2 := owns_of_block hown1 (fun q hq => hB2.block q (hown1.lt q hq).2)
        have hBB2 : Below (w.heap.size + 1) (w.alloc (.cells #[.int .i64 a, .int .i64 b, .int .i64 c, .int .i64 d, .int .i64 x, .int .i64 y] 39)) w2 := hBB1.trans (hB2.mono (by omega))
        obtain ⟨gC, capC, rfl, hgC1, hgC2⟩ := hownC.form hcp
        rw [nblk_alloc] at hgC1
        have hvlt : ∀ q, vo.ownBlock = some q → q < w1.heap.size := fun q hq => (hown1.lt q hq).2
        have HOC := hide hownC
        have HVl := hide hvlt
        obtain ⟨RP, hRP⟩ : ∃ RP, RP = Num.ringSp M (L.take j) := ⟨_, rfl⟩
        rw [← hRP] at hown2 HSu hlen
        rw [HSg.out] at HSu
        obtain ⟨mC, hmC⟩ : ∃ mC, mC = CL.length := ⟨_, rfl⟩
        rw [← hmC] at hcl hcp ⊢
        have HMC := hide hmC
        have HO2 := hide hown2
        have HBB2 := hide hBB2
        clear hb2 hB2 hownC hvlt hRP hmC hown1 hBB1 hown2 hBB2
        go_wp2_with fail
        go_loopw [6, 39] (fun v t wr => ∃ i : Nat, i ≤ mC ∧ t = .int .i64 i ∧ Touch (fun q => vo.ownBlock = some q) w2 wr ∧ Below (w.heap.size + 1) (w.alloc (.cells #[.int .i64 a, .int .i64 b, .int .i64 c, .int .i64 d, .int .i64 x, .int .i64 y] 39)) wr ∧ (v.ownBlock = vo.ownBlock ∨ ∃ q, v.ownBlock = some q ∧ w2.heap.size ≤ q) ∧ wr.ownsRow (w.heap.size + 1) 41 2 v (RP ++ CL.dropLast.take i).length ((RP ++ CL.dropLast.take i).flatMap spC)) (fun _ t _ => mC - (intOf t).toNat)
        case atStart => exact ⟨0, by omega, rfl, Touch.refl _ _, HBB2.out, .inl rfl, by simpa using HO2.out⟩
        case round =>
          obtain ⟨v, rfl⟩ : ∃ v, v = u6 := ⟨_, rfl⟩
          obtain ⟨i, hi, rfl, hT, hBi, hvb, hown⟩ := hrel
          have hsi := hT.size
          by_cases hlti : i < mC
          · have hil : i < CL.length := by rw [← HMC.out]; exact hlti
            have hneC : ¬ vo.ownBlock = some gC := fun e => by have := HVl.out _ e; omega
            have hblkC : wr.heap[gC]? = w2.heap[gC]? := hT.block gC hgC2 hneC
            have hOC := owns_of_block (w' := wr) HOC.out (fun q hq => by simp [Value.ownBlock] at hq; subst hq; exact hblkC)
            obtain ⟨p0, p1⟩ := owns_sp hOC i hil
            obtain ⟨t1, t2⟩ := Num.dropLast_take_succ CL i
            have hlenI : (RP ++ CL.dropLast.take i).length ≤ 111 * 4000 + 112 := by rw [List.length_append, List.length_take]; omega
            have hgCw : gC < wr.heap.size := by omega
            have hdi : decide ((i : Int) < (mC : Int)) = true := by simp; omega
            have HT := hide hT
            have HVb := hide hvb
            have HBi := hide hBi
            by_cases hl1 : i + 1 < mC
            · have htk := t1 (by rw [← HMC.out]; exact hl1) hil
              obtain ⟨z, hz⟩ : ∃ z, z = CL[i] := ⟨_, rfl⟩
              rw [← hz] at p0 p1 htk
              obtain ⟨zx, zy⟩ := z
              simp only at p0 p1
              have HTk2 : Hid (RP ++ CL.dropLast.take (i + 1) = (RP ++ CL.dropLast.take i) ++ [(zx, zy)]) := by unfold Hid; rw [htk, List.append_assoc]
              have hd2 : decide ((i : Int) + 1 < (mC : Int)) = true := by simp; omega
              obtain ⟨xs2, hxs⟩ : ∃ xs2, xs2 = (RP ++ CL.dropLast.take i).flatMap spC := ⟨_, rfl⟩
              obtain ⟨ln, hln⟩ : ∃ ln, ln = (RP ++ CL.dropLast.take i).length := ⟨_, rfl⟩
              rw [← hxs, ← hln] at hown
              rw [← hln] at hlenI
              have HX2 := hide hxs
              have HLn2 := hide hln
              clear hz htk t1 t2 hxs hln hT hvb hBi hneC hblkC hOC
              go_wp2_with (at_builtin; refine wpList_append_lies _ rfl _ _ 48 rfl (w.heap.size + 1) 41 i0 (.agg #[.int .i64 0, .int .i64 0]) 2 16 Try.underlying48 hi0 hz0 hz1 hz2 rfl (by omega) v ln xs2 rfl ((hown.alloc _).alloc _) ⟨wr.heap.size + 1, 0, none⟩ 1 1 [.int .i64 zx, .int .i64 zy] rfl rfl ?l1 ?l2 (by omega) ?l3 ?l4 ?l5 (wr.heap.size + 1 + 1) (by simp) ?_)
              try (case l1 => exact news_sp (wr.alloc _) [.int .i64 zx, .int .i64 zy] _ _ (by simp))
              case l2 => first | exact one_two _ _ | exact ⟨rfl, rfl⟩
              case l3 => unfold maxLen; omega
              case l4 => omega
              case l5 => first | omega | (simp; omega)
              intro g cap w4 hown4 hgrow hat hlt4
              have hb4 : Below (w.heap.size + 1) (w.alloc (.cells #[.int .i64 a, .int .i64 b, .int .i64 c, .int .i64 d, .int .i64 x, .int .i64 y] 39)) w4 := ((HBi.out.alloc (by omega) _).alloc (by simp; omega) _).grown hgrow (by simp; omega) (fun q hq => (hown.lt q hq).1)
              have hT4 : Touch (fun q => vo.ownBlock = some q) w2 w4 := ((HT.out.alloc _).alloc _).grown hgrow (fun q hq => by
                rcases HVb.out with h | ⟨g', h1, h2⟩
                · exact .inl (h ▸ hq)
                · rw [h1] at hq; simp at hq; subst hq; exact .inr h2)
              have HVb4 : Hid ((Value.slice (some ⟨g, 0, none⟩) (ln + 1) cap).ownBlock = vo.ownBlock ∨ ∃ g', (Value.slice (some ⟨g, 0, none⟩) (ln + 1) cap).ownBlock = some g' ∧ w2.heap.size ≤ g') := by
                unfold Hid
                rcases hat with hat | hat
                · rcases HVb.out with h | ⟨g', h1, h2⟩
                  · left; rw [← h, hat]; rfl
                  · right; rw [hat] at h1; exact ⟨g', by simpa [Value.ownBlock] using h1, h2⟩
                · right; exact ⟨g, rfl, by omega⟩
              have HO4 : Hid (w4.ownsRow (w.heap.size + 1) 41 2 (.slice (some ⟨g, 0, none⟩) (ln + 1) cap) (RP ++ CL.dropLast.take (i + 1)).length ((RP ++ CL.dropLast.take (i + 1)).flatMap spC)) := by
                unfold Hid
                exact push_sp (l := RP ++ CL.dropLast.take i) (p := (zx, zy)) (m := ln + 1) (by rw [← HX2.out]; exact hown4) HTk2.out (by rw [HLn2.out])
              have HT4 := hide hT4
              clear hown4 hgrow hat hown hT4 p0 p1
              go_wp2
              go_roundw
              case rel => exact ⟨i + 1, by omega, by go_num, HT4.out, hb4, HVb4.out, HO4.out⟩
              case measure => simp [intOf]; omega
            · have htk := t2 (by rw [← HMC.out]; exact hl1)
              have HTk2 := hide htk
              have HOw2 := hide hown
              have hd2 : decide ((i : Int) + 1 < (mC : Int)) = false := by simp; omega
              clear htk t1 t2 hT hvb hBi hneC hblkC hOC hown
              go_wp2
              go_roundw
              case rel => exact ⟨i + 1, by omega, by go_num, HT.out.alloc _, HBi.out.alloc (by omega) _, HVb.out, by rw [HTk2.out]; exact HOw2.out.alloc _⟩
              case measure => simp [intOf]; omega
          · have hdi : decide ((i : Int) < (mC : Int)) = false := by simp; omega
            have htk : CL.dropLast.take i = CL.dropLast := List.take_of_length_le (by rw [List.length_dropLast, ← HMC.out]; omega)
            rw [htk, ← HSu.out] at hown
            have HOw2 := hide hown
            clear hT hvb htk hown
            go_wp2
            go_roundw
            case rel => exact ⟨j + 1, by omega, by go_num, hBi, HSt2.out, HOw2.out⟩
            case measure => simp [intOf]; omega
    · have e : j = n := by omega
      have hd0 : decide ((j : Int) < (n : Int)) = false := by simp; omega
      have htk : L.take j = L := List.take_of_length_le (by rw [← HN.out]; omega)
      rw [htk] at hown
      obtain ⟨rfl, rfl⟩ := HYe.out (by
        unfold Num.ringOk
        rw [List.all_eq_true]
        intro g hg
        obtain ⟨i, hi, rfl⟩ := List.mem_iff_getElem.1 hg
        exact hok i hi (by rw [e, HN.out]; exact hi))
      have HO9 := hide hown
      clear hown hok htk HNo HYe hB
      go_wp2
      go_ret2
      exact ⟨vo, rfl, HBw.out, owns_mono HO9.out (Nat.le_succ _)⟩
end Go.Proofs.Ythpdbbplpmmjlaa
