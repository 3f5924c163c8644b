/- The document's Cuts, whole. -/
import Derived.Test.YtkhcjkmifddlbaaCtR
namespace Go.Proofs.Ytkhcjkmifddlbaa
open Go.RowKit Go.Deep

theorem keep4 {w : World} {o1 o2 o3 o4 : Obj} {b o : Nat} {v : Value} (hb : b < w.heap.size) (h : w.cell? ⟨b, o, none⟩ = some v) : ((((w.alloc o1).alloc o2).alloc o3).alloc o4).drew.cell? ⟨b, o, none⟩ = some v := by
  have e : Below w.heap.size w ((((w.alloc o1).alloc o2).alloc o3).alloc o4).drew := by (repeat (any_goals (first | exact Below.refl _ _ | assumption | refine Below.drew ?_ | refine below_drewN ?_ _ | refine Below.setCell ?_ ?_ _ | refine Below.alloc ?_ ?_ _ | omega | (simp; done) | (simp; omega))))
  exact (e.cell (p := ⟨b, o, none⟩) hb).trans h
theorem last_at : ∀ (RR : List (Int × Int)) (k : Nat) (hk : k ≤ RR.length) (x y : Int), ((x, y) :: RR)[k]'(by simp; omega) = Num.lastS x y (RR.take k) := by
  intro RR
  induction RR with
  | nil => intro k hk x y; simp at hk; subst hk; rfl
  | cons t r ih =>
    intro k hk x y
    cases k with
    | zero => rfl
    | succ k => exact ih k (by simpa using hk) t.1 t.2

set_option maxRecDepth 100000 in
set_option maxHeartbeats 4000000 in
theorem refCuts_any (ax ay bx b2 : Int) (w : World) :
    Calls Try.prog 68 #[.agg #[.int .i64 ax, .int .i64 ay], .agg #[.int .i64 bx, .int .i64 b2]] w fun e w' => ∃ v, e = .returned (.tuple #[v, .int .i64 (Num.cutsE ax ay bx b2)]) ∧ Below w.heap.size w w' ∧ w'.ownsRow w.heap.size 41 2 v (Num.cutsL ax ay bx b2).length ((Num.cutsL ax ay bx b2).flatMap spC) := by
  cases ha : Num.inB ax ay
  · obtain ⟨e1, e2⟩ := cuts_no (ax := ax) (ay := ay) (bx := bx) (b2 := b2) (by rw [ha]; rfl)
    rw [e1, e2]
    clear e1 e2
    go_enter Try.func68, Try.ntmps68
    go_wp2_with (go_at_call 95; refine (refInRange_exact _ _ _).mono ?_; rintro e w' ⟨rfl, rfl⟩)
    go_ret2
    exact ⟨_, rfl, by (repeat (any_goals (first | exact Below.refl _ _ | assumption | refine Below.drew ?_ | refine below_drewN ?_ _ | refine Below.setCell ?_ ?_ _ | refine Below.alloc ?_ ?_ _ | omega | (simp; done) | (simp; omega)))), World.ownsRow_nil _ _ _ _⟩
  cases hb : Num.inB bx b2
  · obtain ⟨e1, e2⟩ := cuts_no (ax := ax) (ay := ay) (bx := bx) (b2 := b2) (by rw [ha, hb]; rfl)
    rw [e1, e2]
    clear e1 e2
    go_enter Try.func68, Try.ntmps68
    go_wp2_with (go_at_call 95; refine (refInRange_exact _ _ _).mono ?_; rintro e w' ⟨rfl, rfl⟩)
    go_ret2
    exact ⟨_, rfl, by (repeat (any_goals (first | exact Below.refl _ _ | assumption | refine Below.drew ?_ | refine below_drewN ?_ _ | refine Below.setCell ?_ ?_ _ | refine Below.alloc ?_ ?_ _ | omega | (simp; done) | (simp; omega)))), World.ownsRow_nil _ _ _ _⟩
  obtain ⟨eE, eL⟩ := cuts_yes ha hb
  have hRin : ∀ t ∈ Num.rowsV ax ay bx b2 ++ [(bx, b2)], Num.inB t.1 t.2 = true := fun t ht => by
    rcases List.mem_append.1 ht with ht | ht
    · exact Num.rowsV_in ha hb t ht
    · simp at ht; subst ht; exact hb
  have hmem : ∀ z ∈ Num.linesV ay b2, (ay < z ∧ z < b2) ∨ (b2 < z ∧ z < ay) := fun z hz => Num.linesV_mem hz
  have hat0 : ∀ j (hj : j < (Num.linesV ay b2).length), (Num.rowsV ax ay bx b2).take (j + 1) = (Num.rowsV ax ay bx b2).take j ++ [(fun z => (Num.atV ax bx ay b2 z, z)) (Num.linesV ay b2)[j]] := fun j hj => atRows_at hj
  have hll : (Num.rowsV ax ay bx b2).length = (Num.linesV ay b2).length := by unfold Num.rowsV; simp
  have hle := Num.linesV_len ay b2
  have HLn := hide (fun w => refLines_any ay b2 w)
  obtain ⟨L, hL⟩ : ∃ L, L = Num.linesV ay b2 := ⟨_, rfl⟩
  obtain ⟨R, hR⟩ : ∃ R, R = Num.rowsV ax ay bx b2 := ⟨_, rfl⟩
  rw [← hL] at HLn hmem hll hle
  have hat1 : ∀ j (hj : j < L.length), R.take (j + 1) = R.take j ++ [(fun z => (Num.atV ax bx ay b2 z, z)) L[j]] := by rw [hR, hL]; exact hat0
  rw [← hR] at hll eL hRin
  obtain ⟨RR, hRR⟩ : ∃ RR, RR = R ++ [(bx, b2)] := ⟨_, rfl⟩
  rw [← hRR] at eL hRin
  have HRR := hide hRR
  clear hRR
  have HAt := hide hat1
  have HMem := hide hmem
  have HIn := hide hRin
  have HXat := hide (fun (z : Int) w (h1 : ay ≠ b2) (h2 : -16384 ≤ z ∧ z ≤ 16384) => xat_any ax ay bx b2 z w h1 (Num.inB_yes ha) (Num.inB_yes hb) h2)
  have hay := (Num.inB_yes ha).2
  have hby := (Num.inB_yes hb).2
  rw [eE, eL]
  have HA := hide ha
  clear hL hR hat0 hat1 hmem hRin eE eL
  obtain ⟨i0, hi0, hz0, hz1, hz2⟩ := info_parts info_spot
  obtain ⟨W4, hW4⟩ : ∃ W4, W4 = ((((w.alloc (.cells #[.int .i64 ax, .int .i64 ay] 41)).alloc (.cells #[.int .i64 bx, .int .i64 b2] 41)).alloc (.cells #[.int .i64 ax, .int .i64 ay] 41)).alloc (.cells #[.int .i64 bx, .int .i64 b2] 41)) := ⟨_, rfl⟩
  have hsW : W4.heap.size = w.heap.size + 4 := by rw [hW4]; simp
  have HV0 := hide (World.ownsRow_lit (base := w.heap.size + 4) (e := 41) (size := 2) W4 #[.int .i64 ax, .int .i64 ay] 1 (by omega) (by unfold maxLen; omega) rfl)
  rw [hsW] at HV0
  have HW4 := hide hW4
  have HB4 : Hid (Below w.heap.size w W4) := by unfold Hid; rw [hW4]; (repeat (any_goals (first | exact Below.refl _ _ | assumption | refine Below.drew ?_ | refine below_drewN ?_ _ | refine Below.setCell ?_ ?_ _ | refine Below.alloc ?_ ?_ _ | omega | (simp; done) | (simp; omega))))
  clear hW4
  go_enter Try.func68, Try.ntmps68
  go_wp2_with (go_at_call 95; refine (refInRange_exact _ _ _).mono ?_; rintro e w' ⟨rfl, rfl⟩)
  refine (HLn.out _).mono ?_
  rw [← HW4.out]
  rintro e w1 ⟨vL, rfl, hb1, hown1⟩
  clear ha hb
  have hs1 : w.heap.size + 4 < w1.heap.size := by have := hb1.size; simp at this; omega
  have hB1 : Below (w.heap.size + 4) W4 w1 := ((Below.refl _ _).alloc (by omega) _).trans (hb1.mono (by simp; omega))
  have hV1 := owns_of_block HV0.out (fun b hbb => hb1.block b (HV0.out.lt b hbb).2)
  obtain ⟨ao, capL, rfl, hao⟩ := owns_formN hown1
  have HO1 := hide hown1
  have HAo := hide hao
  obtain ⟨m2, hm2⟩ : ∃ m2, m2 = L.length := ⟨_, rfl⟩
  rw [← hm2] at hle hll ⊢
  have HM2 := hide hm2
  have hbl : ∀ g2, ao = some ⟨g2, 0, none⟩ → w.heap.size + 4 < g2 ∧ g2 < w1.heap.size := fun g2 e => by
    have := hown1.lt g2 (by rw [e]; rfl)
    simp at this; omega
  have HBl := hide hbl
  clear hb1 hown1 hao hm2 hbl
  go_wp2_with fail
  go_loopw [8, 10] (fun v t wr => ∃ j : Nat, j ≤ m2 ∧ t = .int .i64 j ∧ w1.heap.size ≤ wr.heap.size ∧ Below (w.heap.size + 4) W4 wr ∧ wr.ownsRow (w.heap.size + 4) 41 2 v (j + 1) (((ax, ay) :: R.take j).flatMap spC) ∧ ∀ g2, ao = some ⟨g2, 0, none⟩ → v.ownBlock ≠ some g2 ∧ wr.heap[g2]? = w1.heap[g2]?) (fun _ t _ => m2 - (intOf t).toNat)
  case atStart => exact ⟨0, by omega, rfl, Nat.le_refl _, hB1, by simpa [spC] using hV1, fun g2 e2 => ⟨by have := HBl.out g2 e2; simp [Value.ownBlock]; omega, rfl⟩⟩
  case round =>
    obtain ⟨v, rfl⟩ : ∃ v, v = u8 := ⟨_, rfl⟩
    obtain ⟨j, hj, rfl, hsr, hB, hown, hne⟩ := hrel
    have sz0 : w.heap.size < wr.heap.size := by omega
    have sz1 : w.heap.size + 1 < wr.heap.size := by omega
    have a0 : wr.cell? ⟨w.heap.size, 0, none⟩ = some (.int .i64 ax) := (hB.cell (p := ⟨w.heap.size, 0, none⟩) (by simp)).trans (by rw [HW4.out]; go_simp)
    have a1 : wr.cell? ⟨w.heap.size, 1, none⟩ = some (.int .i64 ay) := (hB.cell (p := ⟨w.heap.size, 1, none⟩) (by simp)).trans (by rw [HW4.out]; go_simp)
    have e0 : wr.cell? ⟨w.heap.size + 1, 0, none⟩ = some (.int .i64 bx) := (hB.cell (p := ⟨w.heap.size + 1, 0, none⟩) (by simp)).trans (by rw [HW4.out]; go_simp)
    have e1 : wr.cell? ⟨w.heap.size + 1, 1, none⟩ = some (.int .i64 b2) := (hB.cell (p := ⟨w.heap.size + 1, 1, none⟩) (by simp)).trans (by rw [HW4.out]; go_simp)
    by_cases hlt : j < m2
    · have hjl : j < L.length := by rw [← HM2.out]; exact hlt
      obtain ⟨g2, rfl⟩ := HAo.out (by omega)
      obtain ⟨hne2, hblk⟩ := hne g2 rfl
      obtain ⟨gl1, gl2⟩ := HBl.out g2 rfl
      have hO2 := owns_of_block (w' := wr) HO1.out (fun b hbb => by simp [Value.ownBlock] at hbb; subst hbb; exact hblk)
      have cz := owns_int hO2 j hjl
      have hzm := HMem.out _ (List.getElem_mem hjl)
      have HTk := hide (HAt.out j hjl)
      obtain ⟨z, hz⟩ : ∃ z, z = L[j] := ⟨_, rfl⟩
      rw [← hz] at cz hzm HTk
      clear hO2 hz
      have zb : -16384 ≤ z ∧ z ≤ 16384 := by omega
      have hpq : ay ≠ b2 := by omega
      have HC := hide (fun w => HXat.out z w hpq zb)
      obtain ⟨m, hm⟩ : ∃ m, m = Num.atV ax bx ay b2 z := ⟨_, rfl⟩
      rw [← hm] at HC
      have HTk2 : Hid (R.take (j + 1) = R.take j ++ [(m, z)]) := by unfold Hid; rw [HTk.out, hm]
      have hd1 : decide ((j : Int) < (m2 : Int)) = true := by simp; omega
      have g0 : (0 : Int) ≤ (j : Int) := by omega
      have g1 : (j : Int) < (m2 : Int) := by omega
      obtain ⟨xs, hxs⟩ : ∃ xs, xs = ((ax, ay) :: R.take j).flatMap spC := ⟨_, rfl⟩
      rw [← hxs] at hown
      have HX := hide hxs
      have HNe := hide hne2
      have HBk := hide hblk
      clear hm hzm HTk hxs hne hne2 hblk zb hpq
      go_wp2_with fail
      go_region_held3 (fun w' => w'.cell? ⟨w.heap.size, 0, none⟩ = some (.int .i64 ax) ∧ w'.cell? ⟨w.heap.size, 1, none⟩ = some (.int .i64 ay) ∧ w'.cell? ⟨w.heap.size + 1, 0, none⟩ = some (.int .i64 bx) ∧ w'.cell? ⟨w.heap.size + 1, 1, none⟩ = some (.int .i64 b2) ∧ w'.cell? ⟨g2, j, none⟩ = some (.int .i64 z)) (go_keep) ((go_at_call 104; refine (HC.out _).mono ?_; rintro e w' ⟨rfl, rfl⟩))
      obtain ⟨wS, hwS⟩ : ∃ wS, wS = ((wr.alloc (.cells #[.int .i64 ax, .int .i64 ay] 41)).alloc (.cells #[.int .i64 bx, .int .i64 b2] 41)).drew := ⟨_, rfl⟩
      rw [← hwS]
      have hbS : Below wr.heap.size wr wS := by rw [hwS]; (repeat (any_goals (first | exact Below.refl _ _ | assumption | refine Below.drew ?_ | refine below_drewN ?_ _ | refine Below.setCell ?_ ?_ _ | refine Below.alloc ?_ ?_ _ | omega | (simp; done) | (simp; omega))))
      have hsS := hbS.size
      have cz' := (hbS.cell (p := ⟨g2, j, none⟩) (by show g2 < wr.heap.size; omega)).trans cz
      have hownS := owns_of_block hown (fun b hbb => hbS.block b (hown.lt b hbb).2)
      have hBS : Below (w.heap.size + 4) W4 wS := hB.trans (hbS.mono (by omega))
      have hbkS : wS.heap[g2]? = w1.heap[g2]? := (hbS.block g2 (by omega)).trans HBk.out
      clear hwS hbS hown hB a0 a1 e0 e1 cz
      go_wp2_with (at_builtin; refine wpList_append_lies _ rfl _ _ 48 rfl (w.heap.size + 4) 41 i0 (.agg #[.int .i64 0, .int .i64 0]) 2 16 Try.underlying48 hi0 hz0 hz1 hz2 rfl (by omega) v (j + 1) xs rfl (hownS.alloc _) ⟨wS.heap.size, 0, none⟩ 1 1 [.int .i64 m, .int .i64 z] rfl rfl ?e1 ?e2 (by omega) ?e3 ?e4 ?e5 (wS.heap.size + 1) (by simp) ?_)
      try (case e1 => exact news_sp wS [.int .i64 m, .int .i64 z] _ _ rfl)
      case e2 => first | exact one_two _ _ | exact ⟨rfl, rfl⟩
      case e3 => unfold maxLen; omega
      case e4 => omega
      case e5 => first | omega | (simp; omega)
      intro g cap w4 hown4 hgrow hat hlt4
      have hb4 : Below (w.heap.size + 4) W4 w4 := (hBS.alloc (by omega) _).grown hgrow (by simp; omega) (fun q hq => (hownS.lt q hq).1)
      have hs4 : w1.heap.size ≤ w4.heap.size := by have := hgrow.size; rw [nblk_alloc] at this; omega
      have HO4 : Hid (w4.ownsRow (w.heap.size + 4) 41 2 (.slice (some ⟨g, 0, none⟩) (j + 1 + 1) cap) (j + 1 + 1) (((ax, ay) :: R.take (j + 1)).flatMap spC)) := by
        unfold Hid
        have := push_sp (l := (ax, ay) :: R.take j) (l' := (ax, ay) :: R.take (j + 1)) (p := (m, z)) (m := j + 1 + 1) (by rw [← HX.out]; exact hown4) (by rw [HTk2.out]; rfl) (by rw [List.length_cons, List.length_take, hll]; omega)
        rw [List.length_cons, List.length_take, hll, Nat.min_eq_left (by omega)] at this
        exact this
      have HNe2 : Hid ((Value.slice (some ⟨g, 0, none⟩) (j + 1 + 1) cap).ownBlock ≠ some g2) := by
        unfold Hid
        intro e
        simp [Value.ownBlock] at e
        rcases hat with hat | hat
        · exact HNe.out (by rw [hat, e])
        · omega
      have HBk2 : Hid (w4.heap[g2]? = w1.heap[g2]?) := by
        unfold Hid
        rw [hgrow.block g2 (by rw [nblk_alloc]; omega) (fun e => HNe.out e.symm), blk_alloc_lt _ _ _ (by omega)]
        exact hbkS
      clear hown4 hgrow hat hownS hBS hbkS cz'
      go_wp2
      go_roundw
      case rel => exact ⟨j + 1, by omega, by go_num, hs4, hb4, HO4.out, fun g3 e3 => by simp at e3; subst e3; exact ⟨HNe2.out, HBk2.out⟩⟩
      case measure => simp [intOf]; omega
    · have e : j = m2 := by omega
      have hd0 : decide ((j : Int) < (m2 : Int)) = false := by simp; omega
      have htk : R.take j = R := List.take_of_length_le (by omega)
      rw [htk] at hown
      obtain ⟨xs, hxs⟩ : ∃ xs, xs = ((ax, ay) :: R).flatMap spC := ⟨_, rfl⟩
      rw [← hxs] at hown
      have HX := hide hxs
      clear hne hxs htk
      subst e
      go_wp2_with (at_builtin; refine wpList_append_lies _ rfl _ _ 48 rfl (w.heap.size + 4) 41 i0 (.agg #[.int .i64 0, .int .i64 0]) 2 16 Try.underlying48 hi0 hz0 hz1 hz2 rfl (by omega) v (j + 1) xs rfl (hown.alloc _) ⟨wr.heap.size, 0, none⟩ 1 1 [.int .i64 bx, .int .i64 b2] rfl rfl ?h1 ?h2 (by omega) ?h3 ?h4 ?h5 (wr.heap.size + 1) (by simp) ?_)
      try (case h1 => exact news_sp wr [.int .i64 bx, .int .i64 b2] _ _ rfl)
      case h2 => first | exact one_two _ _ | exact ⟨rfl, rfl⟩
      case h3 => unfold maxLen; omega
      case h4 => omega
      case h5 => first | omega | (simp; omega)
      intro g8 cap8 w2 hown2 hgrow hat hlt2
      have hB2 : Below (w.heap.size + 4) W4 w2 := (hB.alloc (by omega) _).grown hgrow (by simp; omega) (fun q hq => (hown.lt q hq).1)
      have hs2 : w.heap.size + 4 < w2.heap.size := by have := hgrow.size; rw [nblk_alloc] at this; omega
      have f0 : w2.cell? ⟨w.heap.size, 0, none⟩ = some (.int .i64 ax) := (hB2.cell (p := ⟨w.heap.size, 0, none⟩) (by simp)).trans (by rw [HW4.out]; go_simp)
      have f1 : w2.cell? ⟨w.heap.size, 1, none⟩ = some (.int .i64 ay) := (hB2.cell (p := ⟨w.heap.size, 1, none⟩) (by simp)).trans (by rw [HW4.out]; go_simp)
      have HBw : Hid (Below w.heap.size w w2) := HB4.out.trans (hB2.mono (by omega))
      have sz2 : w.heap.size < w2.heap.size := by omega
      have hRRl : RR.length = j + 1 := by rw [HRR.out]; simp; omega
      have HO8 : Hid (w2.ownsRow (w.heap.size + 4) 41 2 (.slice (some ⟨g8, 0, none⟩) ((ax, ay) :: RR).length cap8) ((ax, ay) :: RR).length (((ax, ay) :: RR).flatMap spC)) := by
        unfold Hid
        have e1 : ((ax, ay) :: RR).length = j + 1 + 1 := by simp; omega
        have e2 : ((ax, ay) :: RR).flatMap spC = xs ++ [.int .i64 bx, .int .i64 b2] := by rw [HRR.out, HX.out]; simp [spC]
        rw [e1, e2]
        exact hown2
      have hg8 : g8 < w2.heap.size := hlt2
      obtain ⟨n, hn⟩ : ∃ n, n = RR.length := ⟨_, rfl⟩
      have hjn : j + 1 + 1 = n + 1 := by omega
      have HN := hide hn
      have n2 : n ≤ 1027 := by omega
      have hRR2 : RR.length ≤ 1027 := by omega
      have HLt := hide hRR2
      have HVo := hide (World.ownsRow_lit (base := w2.heap.size) (e := 41) (size := 2) w2 #[.int .i64 ax, .int .i64 ay] 1 (Nat.le_refl _) (by unfold maxLen; omega) rfl)
      rw [hjn]
      clear hown2 hgrow hat hown hB a0 a1 e0 e1 hn hRRl hB2 hjn hRR2
      go_wp2_with fail
      go_loopw [12, 13] (fun v t wr => ∃ k : Nat, k ≤ n ∧ t = .int .i64 ((k : Int) + 1) ∧ Below w2.heap.size w2 wr ∧ wr.ownsRow w2.heap.size 41 2 v (cutU ax ay RR k).length ((cutU ax ay RR k).flatMap spC)) (fun _ t _ => (n + 1 - intOf t).toNat)
      case atStart =>
        refine ⟨0, by omega, rfl, (Below.refl _ _).alloc (Nat.le_refl _) _, ?_⟩
        have e : cutU ax ay RR 0 = [(ax, ay)] := by simp [cutU, Num.cutF]
        rw [e]
        exact HVo.out
      case round =>
        obtain ⟨vo, rfl⟩ : ∃ vo, vo = u12 := ⟨_, rfl⟩
        obtain ⟨wo, rfl⟩ : ∃ wo, wo = wr := ⟨wr, rfl⟩
        obtain ⟨k, hk, rfl, hb, hown⟩ := hrel
        have hsz := hb.size
        by_cases hlt2 : k < n
        · have hkl : k < RR.length := by rw [← HN.out]; exact hlt2
          have hd1 : decide ((k : Int) + 1 < ((n + 1 : Nat) : Int)) = true := by simp; omega
          have hO8 := owns_of_block (w' := wo) HO8.out (fun b hbb => by simp [Value.ownBlock] at hbb; subst hbb; exact hb.block _ hg8)
          obtain ⟨p0, p1⟩ := owns_sp hO8 k (by simp; omega)
          obtain ⟨q0, q1⟩ := owns_sp hO8 (k + 1) (by simp; omega)
          rw [List.getElem_cons_succ] at q0 q1
          have hla := last_at RR k (by omega) ax ay
          have hfin := Num.lastS_in (RR.take k) ax ay HA.out (fun t ht => HIn.out t (List.mem_of_mem_take ht))
          have htin := HIn.out _ (List.getElem_mem hkl)
          have HSu := hide (cutU_succ hkl (x := (Num.lastS ax ay (RR.take k)).1) (y := (Num.lastS ax ay (RR.take k)).2) rfl)
          rw [hla] at p0 p1
          have hlen := cutU_len ax ay RR k HLt.out
          obtain ⟨pp, hpp⟩ : ∃ pp, pp = Num.lastS ax ay (RR.take k) := ⟨_, rfl⟩
          obtain ⟨qq, hqq⟩ : ∃ qq, qq = RR[k] := ⟨_, rfl⟩
          rw [← hpp] at p0 p1 hfin HSu
          rw [← hqq] at q0 q1 htin HSu
          obtain ⟨px, py⟩ := pp
          obtain ⟨qx, qy⟩ := qq
          simp only at p0 p1 q0 q1 hfin htin HSu
          have hP := Num.inB_yes hfin
          have hQ := Num.inB_yes htin
          have hcmem : ∀ z ∈ Num.linesV px qx, (px < z ∧ z < qx) ∨ (qx < z ∧ z < px) := fun z hz => Num.linesV_mem hz
          have hcat : ∀ i (hi : i < (Num.linesV px qx).length), (Num.colsV px py qx qy).take (i + 1) = (Num.colsV px py qx qy).take i ++ [(fun z => (z, Num.atV py qy px qx z)) (Num.linesV px qx)[i]] := fun i hi => atCols_at hi
          have hcll : (Num.colsV px py qx qy).length = (Num.linesV px qx).length := by unfold Num.colsV; simp
          have hcle := Num.linesV_len px qx
          have HLc := hide (fun w => refLines_any px qx w)
          have HYat := hide (fun (z : Int) w (h1 : px ≠ qx) (h2 : -16384 ≤ z ∧ z ≤ 16384) => yat_any px py qx qy z w h1 hP hQ h2)
          obtain ⟨LC, hLC⟩ : ∃ LC, LC = Num.linesV px qx := ⟨_, rfl⟩
          obtain ⟨CV, hCV⟩ : ∃ CV, CV = Num.colsV px py qx qy := ⟨_, rfl⟩
          rw [← hLC] at HLc hcmem hcll hcle
          have hcat1 : ∀ i (hi : i < LC.length), CV.take (i + 1) = CV.take i ++ [(fun z => (z, Num.atV py qy px qx z)) LC[i]] := by rw [hCV, hLC]; exact hcat
          rw [← hCV] at hcll HSu
          have HCat := hide hcat1
          have HCm := hide hcmem
          have hpx := hP.1
          have hqx := hQ.1
          obtain ⟨U, hU⟩ : ∃ U, U = cutU ax ay RR k := ⟨_, rfl⟩
          rw [← hU] at HSu hown hlen
          have HOw := hide hown
          have HB := hide hb
          clear hO8 hla hfin htin hpp hqq hP hQ hcmem hcat hLC hCV hcat1 hU hown hb
          have hg8w : g8 < wo.heap.size := by omega
          have k0 : (0 : Int) ≤ (k : Int) := by omega
          have k1 : (k : Int) < ((n + 1 : Nat) : Int) := by omega
          have k2 : (k : Int) + 1 < ((n + 1 : Nat) : Int) := by omega
          go_wp2_with fail
          refine (HLc.out _).mono ?_
          rintro e w3 ⟨vC, rfl, hb3, hown3⟩
          have hs3 : wo.heap.size + 1 < w3.heap.size := by have := hb3.size; simp at this; omega
          have hs3' : wo.heap.size < w3.heap.size := by omega
          have hB3 : Below wo.heap.size wo w3 := Below.trans (by (repeat (any_goals (first | exact Below.refl _ _ | assumption | refine Below.drew ?_ | refine below_drewN ?_ _ | refine Below.setCell ?_ ?_ _ | refine Below.alloc ?_ ?_ _ | omega | (simp; done) | (simp; omega))))) (hb3.mono (by simp; omega))
          have hP3 : w3.rowIs wo.heap.size 41 2 (sp2 px py) := row_below ((sp2_row px py wo 41).alloc _) hb3 (by simp; omega)
          have hQ3 : w3.rowIs (wo.heap.size + 1) 41 2 (sp2 qx qy) := by
            have h := sp2_row qx qy (wo.alloc (.cells #[.int .i64 px, .int .i64 py] 41)) 41
            rw [nblk_alloc] at h
            exact row_below h hb3 (by simp)
          have hV3 := owns_of_block HOw.out (fun b hbb => hB3.block b (HOw.out.lt b hbb).2)
          have hvlt : ∀ b, vo.ownBlock = some b → w2.heap.size ≤ b ∧ b < wo.heap.size := fun b hbb => HOw.out.lt b hbb
          obtain ⟨ac, capC, rfl, hac⟩ := owns_formN hown3
          have hcl : ∀ gC, ac = some ⟨gC, 0, none⟩ → wo.heap.size + 1 < gC ∧ gC < w3.heap.size := fun gC e => by
            have := hown3.lt gC (by rw [e]; rfl)
            simp at this; omega
          obtain ⟨mC, hmC⟩ : ∃ mC, mC = LC.length := ⟨_, rfl⟩
          rw [← hmC] at hcle hcll ⊢
          have HMC := hide hmC
          have HOC := hide hown3
          have HAC := hide hac
          have HCL := hide hcl
          have HP3 := hide hP3
          have HQ3 := hide hQ3
          have HVl := hide hvlt
          have HB3 := hide (HB.out.trans (hB3.mono hsz))
          clear hb3 hown3 hac hcl hP3 hQ3 hvlt hmC p0 p1 q0 q1 hB3 k0 k1 k2
          go_wp2_with fail
          go_loopw [12, 16] (fun v t wr => ∃ i : Nat, i ≤ mC ∧ t = .int .i64 i ∧ Touch (fun b => vo.ownBlock = some b) w3 wr ∧ Below w2.heap.size w2 wr ∧ (v.ownBlock = vo.ownBlock ∨ ∃ g, v.ownBlock = some g ∧ w3.heap.size ≤ g) ∧ wr.ownsRow w2.heap.size 41 2 v (U ++ CV.take i).length ((U ++ CV.take i).flatMap spC)) (fun _ t _ => mC - (intOf t).toNat)
          case atStart => exact ⟨0, by omega, rfl, Touch.refl _ _, HB3.out, .inl rfl, by simpa using hV3⟩
          case round =>
            obtain ⟨v, rfl⟩ : ∃ v, v = u12 := ⟨_, rfl⟩
            obtain ⟨i, hi, rfl, hT, hBi, hvb, hown⟩ := hrel
            have hsi := hT.size
            have hP := hT.row HP3.out (fun e => by have := HVl.out _ e; omega)
            have hQ := hT.row HQ3.out (fun e => by have := HVl.out _ e; omega)
            obtain ⟨pa, pb⟩ := sp2_cells hP
            obtain ⟨qa, qb⟩ := sp2_cells hQ
            have y0 : wo.heap.size < wr.heap.size := by omega
            have y1 : wo.heap.size + 1 < wr.heap.size := by omega
            have hlenI : (U ++ CV.take i).length ≤ 1054730 + 1026 := by rw [List.length_append, List.length_take]; omega
            by_cases hlti : i < mC
            · have hil : i < LC.length := by rw [← HMC.out]; exact hlti
              obtain ⟨gC, rfl⟩ := HAC.out (by omega)
              obtain ⟨gl3, gl4⟩ := HCL.out gC rfl
              have hneC : ¬ vo.ownBlock = some gC := fun e => by have := HVl.out _ e; omega
              have hblkC : wr.heap[gC]? = w3.heap[gC]? := hT.block gC gl4 hneC
              have hOC := owns_of_block (w' := wr) HOC.out (fun b hbb => by simp [Value.ownBlock] at hbb; subst hbb; exact hblkC)
              have cz := owns_int hOC i hil
              have hzm := HCm.out _ (List.getElem_mem hil)
              have HTk := hide (HCat.out i hil)
              obtain ⟨z, hz⟩ : ∃ z, z = LC[i] := ⟨_, rfl⟩
              rw [← hz] at cz hzm HTk
              clear hOC hz
              have zb : -16384 ≤ z ∧ z ≤ 16384 := by omega
              have hpq : px ≠ qx := by omega
              have HC := hide (fun w => HYat.out z w hpq zb)
              obtain ⟨m, hm⟩ : ∃ m, m = Num.atV py qy px qx z := ⟨_, rfl⟩
              rw [← hm] at HC
              have HTk2 : Hid (U ++ CV.take (i + 1) = (U ++ CV.take i) ++ [(z, m)]) := by unfold Hid; rw [HTk.out, hm, List.append_assoc]
              have hdi : decide ((i : Int) < (mC : Int)) = true := by simp; omega
              have g0 : (0 : Int) ≤ (i : Int) := by omega
              have g1 : (i : Int) < (mC : Int) := by omega
              have hgCw : gC < wr.heap.size := by omega
              obtain ⟨xs2, hxs⟩ : ∃ xs2, xs2 = (U ++ CV.take i).flatMap spC := ⟨_, rfl⟩
              obtain ⟨ln, hln⟩ : ∃ ln, ln = (U ++ CV.take i).length := ⟨_, rfl⟩
              rw [← hxs, ← hln] at hown
              rw [← hln] at hlenI
              have HX2 := hide hxs
              have HLn2 := hide hln
              have HT := hide hT
              have HVb := hide hvb
              have HBi := hide hBi
              clear hm hzm HTk hxs hln zb hpq hT hvb hBi hP hQ hneC hblkC
              go_wp2_with fail
              go_region_held3 (fun w' => w'.cell? ⟨wo.heap.size, 0, none⟩ = some (.int .i64 px) ∧ w'.cell? ⟨wo.heap.size, 1, none⟩ = some (.int .i64 py) ∧ w'.cell? ⟨wo.heap.size + 1, 0, none⟩ = some (.int .i64 qx) ∧ w'.cell? ⟨wo.heap.size + 1, 1, none⟩ = some (.int .i64 qy) ∧ w'.cell? ⟨gC, i, none⟩ = some (.int .i64 z)) (first | exact ⟨keep4 y0 pa, keep4 y0 pb, keep4 y1 qa, keep4 y1 qb, keep4 hgCw cz⟩ | go_keep) ((go_at_call 105; refine (HC.out _).mono ?_; rintro e w' ⟨rfl, rfl⟩))
              obtain ⟨wS, hwS⟩ : ∃ wS, wS = ((((wr.alloc (.cells #[.int .i64 px, .int .i64 py] 41)).alloc (.cells #[.int .i64 qx, .int .i64 qy] 41)).alloc (.cells #[.int .i64 py, .int .i64 px] 41)).alloc (.cells #[.int .i64 qy, .int .i64 qx] 41)).drew := ⟨_, rfl⟩
              rw [← hwS]
              have hbS : Below wr.heap.size wr wS := by rw [hwS]; (repeat (any_goals (first | exact Below.refl _ _ | assumption | refine Below.drew ?_ | refine below_drewN ?_ _ | refine Below.setCell ?_ ?_ _ | refine Below.alloc ?_ ?_ _ | omega | (simp; done) | (simp; omega))))
              have hsS := hbS.size
              have cz' := (hbS.cell (p := ⟨gC, i, none⟩) hgCw).trans cz
              have hownS := owns_of_block hown (fun b hbb => hbS.block b (hown.lt b hbb).2)
              have hTS := HT.out.of_below hbS
              have hBS : Below w2.heap.size w2 wS := HBi.out.trans (hbS.mono (by omega))
              clear hwS hbS hown pa pb qa qb cz
              go_wp2_with (at_builtin; refine wpList_append_lies _ rfl _ _ 48 rfl w2.heap.size 41 i0 (.agg #[.int .i64 0, .int .i64 0]) 2 16 Try.underlying48 hi0 hz0 hz1 hz2 rfl (by omega) v ln xs2 rfl (hownS.alloc _) ⟨wS.heap.size, 0, none⟩ 1 1 [.int .i64 z, .int .i64 m] rfl rfl ?l1 ?l2 (by omega) ?l3 ?l4 ?l5 (wS.heap.size + 1) (by simp) ?_)
              try (case l1 => exact news_sp wS [.int .i64 z, .int .i64 m] _ _ rfl)
              case l2 => first | exact one_two _ _ | exact ⟨rfl, rfl⟩
              case l3 => unfold maxLen; omega
              case l4 => omega
              case l5 => first | omega | (simp; omega)
              intro g cap w4 hown4 hgrow hat hlt4
              have hb4 : Below w2.heap.size w2 w4 := (hBS.alloc (by omega) _).grown hgrow (by simp; omega) (fun q hq => (hownS.lt q hq).1)
              have hT4 : Touch (fun b => vo.ownBlock = some b) w3 w4 := (hTS.alloc _).grown hgrow (fun b hbb => by
                rcases HVb.out with h | ⟨g', h1, h2⟩
                · exact .inl (h ▸ hbb)
                · rw [h1] at hbb; simp at hbb; subst hbb; exact .inr h2)
              have HVb4 : Hid ((Value.slice (some ⟨g, 0, none⟩) (ln + 1) cap).ownBlock = vo.ownBlock ∨ ∃ g', (Value.slice (some ⟨g, 0, none⟩) (ln + 1) cap).ownBlock = some g' ∧ w3.heap.size ≤ g') := by
                unfold Hid
                rcases hat with hat | hat
                · rcases HVb.out with h | ⟨g', h1, h2⟩
                  · left; rw [← h, hat]; rfl
                  · right; rw [hat] at h1; exact ⟨g', by simpa [Value.ownBlock] using h1, h2⟩
                · right; exact ⟨g, rfl, by omega⟩
              have HO4 : Hid (w4.ownsRow w2.heap.size 41 2 (.slice (some ⟨g, 0, none⟩) (ln + 1) cap) (U ++ CV.take (i + 1)).length ((U ++ CV.take (i + 1)).flatMap spC)) := by
                unfold Hid
                exact push_sp (l := U ++ CV.take i) (p := (z, m)) (m := ln + 1) (by rw [← HX2.out]; exact hown4) HTk2.out (by rw [HLn2.out])
              have HT4 := hide hT4
              clear hown4 hgrow hat hownS hBS hTS cz' hT4
              go_wp2
              go_roundw
              case rel => exact ⟨i + 1, by omega, by go_num, HT4.out, hb4, HVb4.out, HO4.out⟩
              case measure => simp [intOf]; omega
            · have hdi : decide ((i : Int) < (mC : Int)) = false := by simp; omega
              have htk : CV.take i = CV := List.take_of_length_le (by omega)
              rw [htk] at hown hlenI
              obtain ⟨xs2, hxs⟩ : ∃ xs2, xs2 = (U ++ CV).flatMap spC := ⟨_, rfl⟩
              obtain ⟨ln, hln⟩ : ∃ ln, ln = (U ++ CV).length := ⟨_, rfl⟩
              rw [← hxs, ← hln] at hown
              rw [← hln] at hlenI
              have HX2 := hide hxs
              have HLn2 := hide hln
              clear hxs hln htk hT hvb hP hQ pa pb
              go_wp2_with (at_builtin; refine wpList_append_lies _ rfl _ _ 48 rfl w2.heap.size 41 i0 (.agg #[.int .i64 0, .int .i64 0]) 2 16 Try.underlying48 hi0 hz0 hz1 hz2 rfl (by omega) v ln xs2 rfl (hown.alloc _) ⟨wr.heap.size, 0, none⟩ 1 1 [.int .i64 qx, .int .i64 qy] rfl rfl ?n1 ?n2 (by omega) ?n3 ?n4 ?n5 (wr.heap.size + 1) (by simp) ?_)
              try (case n1 => exact news_sp wr [.int .i64 qx, .int .i64 qy] _ _ rfl)
              case n2 => first | exact one_two _ _ | exact ⟨rfl, rfl⟩
              case n3 => unfold maxLen; omega
              case n4 => omega
              case n5 => first | omega | (simp; omega)
              intro g cap w4 hown4 hgrow hat hlt4
              have hb4 : Below w2.heap.size w2 w4 := (hBi.alloc (by omega) _).grown hgrow (by simp; omega) (fun q hq => (hown.lt q hq).1)
              have HO4 : Hid (w4.ownsRow w2.heap.size 41 2 (.slice (some ⟨g, 0, none⟩) (ln + 1) cap) (cutU ax ay RR (k + 1)).length ((cutU ax ay RR (k + 1)).flatMap spC)) := by
                unfold Hid
                exact push_sp (l := U ++ CV) (p := (qx, qy)) (m := ln + 1) (by rw [← HX2.out]; exact hown4) HSu.out (by rw [HLn2.out])
              clear hown4 hgrow hat hown hBi qa qb
              go_wp2
              go_roundw
              case rel => exact ⟨k + 1, by omega, by go_num, hb4, HO4.out⟩
              case measure => simp [intOf]; omega
        · have e : k = n := by omega
          have hd9 : decide ((k : Int) + 1 < ((n + 1 : Nat) : Int)) = false := by simp; omega
          have HO := hide hown
          have HBz := hide (HBw.out.trans (hb.mono (by omega)))
          clear hown hb
          go_wp2
          go_ret2
          refine ⟨vo, rfl, HBz.out, ?_⟩
          have h := owns_mono (base' := w.heap.size) HO.out (by omega)
          rw [e, HN.out] at h
          exact h
end Go.Proofs.Ytkhcjkmifddlbaa
