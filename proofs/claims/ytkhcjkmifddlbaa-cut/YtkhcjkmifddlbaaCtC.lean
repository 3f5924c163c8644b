/- The program's Cuts, whole. -/
import Derived.Test.YtkhcjkmifddlbaaCtB
import Derived.Laws.AppendOwnNone
namespace Go.Proofs.Ytkhcjkmifddlbaa
open Go.RowKit Go.Deep

/-- The cells of a spot that lies alone. -/
def sp2 (x y : Int) (q : Nat) : Value := [Value.int .i64 x, .int .i64 y][q]?.getD undef
theorem sp2_row (x y : Int) (w : World) (t : TypeId) : (w.alloc (.cells #[.int .i64 x, .int .i64 y] t)).rowIs w.heap.size t 2 (sp2 x y) := by
  refine World.rowIs_alloc w #[.int .i64 x, .int .i64 y] t (sp2 x y) (fun i hi => ?_)
  have hi : i < 2 := hi
  rcases (show i = 0 ∨ i = 1 by omega) with rfl | rfl <;> rfl
theorem sp2_cells {x y : Int} {w : World} {b : Nat} {t : TypeId} (h : w.rowIs b t 2 (sp2 x y)) : w.cell? ⟨b, 0, none⟩ = some (.int .i64 x) ∧ w.cell? ⟨b, 1, none⟩ = some (.int .i64 y) :=
  ⟨h.cell (i := 0) (by omega), h.cell (i := 1) (by omega)⟩
theorem sp2_set {x y : Int} {w : World} {b : Nat} {t : TypeId} (h : w.rowIs b t 2 (sp2 x y)) (x' y' : Int) : ((w.setCell ⟨b, 0, none⟩ (.int .i64 x')).setCell ⟨b, 1, none⟩ (.int .i64 y')).rowIs b t 2 (sp2 x' y') := by
  refine ((h.set 0 _).set 1 _).congr fun q hq => ?_
  rcases (show q = 0 ∨ q = 1 by omega) with rfl | rfl <;> rfl

theorem set_otherB {w2 : World} {h q : Nat} {v : Value} {b : Nat} (hb : b ≠ h) : (w2.setCell ⟨h, q, none⟩ v).heap[b]? = w2.heap[b]? := blk_setCell_other _ _ _ _ (by simpa using hb)

/-- The spots up to row spot j. -/
def cutU (ax ay : Int) (RR : List (Int × Int)) (j : Nat) : List (Int × Int) := (ax, ay) :: Num.cutF ax ay (RR.take j)
theorem cutU_succ {ax ay : Int} {RR : List (Int × Int)} {j : Nat} (hj : j < RR.length) {x y : Int} (hl : Num.lastS ax ay (RR.take j) = (x, y)) :
    cutU ax ay RR (j + 1) = (cutU ax ay RR j ++ Num.colsV x y RR[j].1 RR[j].2) ++ [RR[j]] := by
  unfold cutU
  rw [List.take_succ_eq_append_getElem hj, Num.cutF_snoc, hl]
  simp
theorem cutU_len (ax ay : Int) (RR : List (Int × Int)) (j : Nat) (hj : RR.length ≤ 1027) : (cutU ax ay RR j).length ≤ 1054730 := by
  unfold cutU
  have h := Num.cutF_len (RR.take j) ax ay
  have h2 : (RR.take j).length ≤ 1027 := Nat.le_trans (List.length_take_le' _ _) hj
  simp only [List.length_cons]
  omega
theorem cuts_yes {ax ay bx b2 : Int} (ha : Num.inB ax ay = true) (hb : Num.inB bx b2 = true) : Num.cutsE ax ay bx b2 = 0 ∧ Num.cutsL ax ay bx b2 = cutU ax ay (Num.rowsV ax ay bx b2 ++ [(bx, b2)]) (Num.rowsV ax ay bx b2 ++ [(bx, b2)]).length := by
  have e : Num.cutsE ax ay bx b2 = 0 := by unfold Num.cutsE; rw [ha, hb]; rfl
  refine ⟨e, ?_⟩
  unfold Num.cutsL
  rw [if_pos e]
  unfold cutU
  rw [List.take_length]
theorem cuts_no {ax ay bx b2 : Int} (h : (Num.inB ax ay && Num.inB bx b2) = false) : Num.cutsE ax ay bx b2 = 6 ∧ Num.cutsL ax ay bx b2 = [] := by
  have e : Num.cutsE ax ay bx b2 = 6 := by unfold Num.cutsE; rw [h]; rfl
  exact ⟨e, by unfold Num.cutsL; rw [if_neg (by rw [e]; decide)]⟩

set_option maxRecDepth 100000 in
set_option maxHeartbeats 4000000 in
theorem chordCuts_any (ax ay bx b2 : Int) (w : World) :
    Calls Try.prog 102 #[.agg #[.int .i64 ax, .int .i64 ay], .agg #[.int .i64 bx, .int .i64 b2]] w fun e w' => ∃ v, e = .returned (.tuple #[v, .int .i64 (Num.cutsE ax ay bx b2)]) ∧ Below w.heap.size w w' ∧ w'.ownsRow w.heap.size 41 2 v (Num.cutsL ax ay bx b2).length ((Num.cutsL ax ay bx b2).flatMap spC) := by
  cases ha : Num.inB ax ay
  · obtain ⟨e1, e2⟩ := cuts_no (ax := ax) (ay := ay) (bx := bx) (b2 := b2) (by rw [ha]; rfl)
    rw [e1, e2]
    clear e1 e2
    go_enter Try.func102, Try.ntmps102
    go_wp2_with (go_at_call 125; refine (inRange_exact _ _ _).mono ?_; rintro e w' ⟨rfl, rfl⟩)
    go_ret2
    exact ⟨_, rfl, by (repeat (any_goals (first | exact Below.refl _ _ | assumption | refine Below.drew ?_ | refine below_drewN ?_ _ | refine Below.setCell ?_ ?_ _ | refine Below.alloc ?_ ?_ _ | omega | (simp; done) | (simp; omega)))), World.ownsRow_nil _ _ _ _⟩
  cases hb : Num.inB bx b2
  · obtain ⟨e1, e2⟩ := cuts_no (ax := ax) (ay := ay) (bx := bx) (b2 := b2) (by rw [ha, hb]; rfl)
    rw [e1, e2]
    clear e1 e2
    go_enter Try.func102, Try.ntmps102
    go_wp2_with (go_at_call 125; refine (inRange_exact _ _ _).mono ?_; rintro e w' ⟨rfl, rfl⟩)
    go_ret2
    exact ⟨_, rfl, by (repeat (any_goals (first | exact Below.refl _ _ | assumption | refine Below.drew ?_ | refine below_drewN ?_ _ | refine Below.setCell ?_ ?_ _ | refine Below.alloc ?_ ?_ _ | omega | (simp; done) | (simp; omega)))), World.ownsRow_nil _ _ _ _⟩
  obtain ⟨eE, eL⟩ := cuts_yes ha hb
  have hRin : ∀ t ∈ Num.rowsV ax ay bx b2 ++ [(bx, b2)], Num.inB t.1 t.2 = true := fun t ht => by
    rcases List.mem_append.1 ht with ht | ht
    · exact Num.rowsV_in ha hb t ht
    · simp at ht; subst ht; exact hb
  have hRle := Num.rowsV_len ax ay bx b2
  have HAR := hide (fun w => atRows_any ax ay bx b2 w (Num.inB_yes ha) (Num.inB_yes hb))
  obtain ⟨R, hR⟩ : ∃ R, R = Num.rowsV ax ay bx b2 := ⟨_, rfl⟩
  rw [← hR] at eL hRin hRle HAR
  obtain ⟨RR, hRR⟩ : ∃ RR, RR = R ++ [(bx, b2)] := ⟨_, rfl⟩
  have hRRl : RR.length = R.length + 1 := by rw [hRR]; simp
  rw [← hRR] at eL hRin
  have HRf : Hid (RR.flatMap spC = R.flatMap spC ++ [.int .i64 bx, .int .i64 b2]) := by unfold Hid; rw [hRR]; simp [spC]
  rw [eE, eL]
  have HIn := hide hRin
  clear hR hRR eE eL hRin
  obtain ⟨i0, hi0, hz0, hz1, hz2⟩ := info_parts info_spot
  go_enter Try.func102, Try.ntmps102
  go_wp2_with (go_at_call 125; refine (inRange_exact _ _ _).mono ?_; rintro e w' ⟨rfl, rfl⟩)
  refine (HAR.out _).mono ?_
  rintro e w1 ⟨vR, rfl, hb1, hown1, _⟩
  have hs1 : w.heap.size + 1 < w1.heap.size := by have := hb1.size; simp at this; omega
  have hs0 : w.heap.size < w1.heap.size := by omega
  have hB1 : Below w.heap.size w w1 := Below.trans (by (repeat (any_goals (first | exact Below.refl _ _ | assumption | refine Below.drew ?_ | refine below_drewN ?_ _ | refine Below.setCell ?_ ?_ _ | refine Below.alloc ?_ ?_ _ | omega | (simp; done) | (simp; omega))))) (hb1.mono (by simp; omega))
  have a0 : w1.cell? ⟨w.heap.size, 0, none⟩ = some (.int .i64 ax) := (hb1.cell (p := ⟨w.heap.size, 0, none⟩) (by first | (simp; done) | (simp; omega))).trans (by go_simp)
  have a1 : w1.cell? ⟨w.heap.size, 1, none⟩ = some (.int .i64 ay) := (hb1.cell (p := ⟨w.heap.size, 1, none⟩) (by first | (simp; done) | (simp; omega))).trans (by go_simp)
  have e0 : w1.cell? ⟨w.heap.size + 1, 0, none⟩ = some (.int .i64 bx) := (hb1.cell (p := ⟨w.heap.size + 1, 0, none⟩) (by first | (simp; done) | (simp; omega))).trans (by go_simp)
  have e1 : w1.cell? ⟨w.heap.size + 1, 1, none⟩ = some (.int .i64 b2) := (hb1.cell (p := ⟨w.heap.size + 1, 1, none⟩) (by first | (simp; done) | (simp; omega))).trans (by go_simp)
  have hown1 := owns_mono (base' := w.heap.size + 2) hown1 (by simp)
  clear hb1
  obtain ⟨m, hm⟩ : ∃ m, m = R.length := ⟨_, rfl⟩
  obtain ⟨xs, hxs⟩ : ∃ xs, xs = R.flatMap spC := ⟨_, rfl⟩
  rw [← hm, ← hxs] at hown1
  rw [← hm] at hRRl hRle
  rw [← hxs] at HRf
  clear hm hxs
  go_wp2_with (at_builtin; refine wpList_append_lies _ rfl _ _ 48 rfl (w.heap.size + 2) 41 i0 (.agg #[.int .i64 0, .int .i64 0]) 2 16 Try.underlying48 hi0 hz0 hz1 hz2 rfl (by omega) vR m xs rfl (hown1.alloc _) ⟨w1.heap.size, 0, none⟩ 1 1 [.int .i64 bx, .int .i64 b2] rfl rfl ?e1 ?e2 (by omega) ?e3 ?e4 ?e5 (w1.heap.size + 1) (by simp) ?_)
  try (case e1 => exact news_sp w1 [.int .i64 bx, .int .i64 b2] _ _ rfl)
  case e2 => first | exact one_two _ _ | exact ⟨rfl, rfl⟩
  case e3 => unfold maxLen; omega
  case e4 => omega
  case e5 => first | omega | (simp; omega)
  intro g6 cap6 w2 hown2 hgrow hat hlt2
  have hB2 : Below w.heap.size w w2 := (hB1.alloc (by omega) _).grown hgrow (by simp; omega) (fun q hq => by have := (hown1.lt q hq).1; omega)
  have hs2 : w.heap.size + 1 < w2.heap.size := by have := hgrow.size; rw [nblk_alloc] at this; omega
  have hs2' : w.heap.size < w2.heap.size := by omega
  have hty : ∀ b, b < w.heap.size + 2 → some b ≠ vR.ownBlock := fun b hb e => by have := (hown1.lt b e.symm).1; omega
  have a0' : w2.cell? ⟨w.heap.size, 0, none⟩ = some (.int .i64 ax) := (hgrow.cell_far ⟨w.heap.size, 0, none⟩ (by simp; omega) (hty _ (by simp))).trans (by go_simp)
  have a1' : w2.cell? ⟨w.heap.size, 1, none⟩ = some (.int .i64 ay) := (hgrow.cell_far ⟨w.heap.size, 1, none⟩ (by simp; omega) (hty _ (by simp))).trans (by go_simp)
  have hg6 : w.heap.size + 2 ≤ g6 := (hown2.lt g6 rfl).1
  rw [← HRf.out, ← hRRl] at hown2
  have HO2 := hide hown2
  clear hown2 hgrow hat hown1 hB1 a0 a1 e0 e1 hty
  obtain ⟨n, hn⟩ : ∃ n, n = RR.length := ⟨_, rfl⟩
  have hmn : m + 1 = n := by omega
  rw [hmn]
  have HN := hide hn
  have hRR2 : RR.length ≤ 1027 := by omega
  have n2 : n ≤ 1027 := by omega
  have HLt := hide hRR2
  clear hn hmn hRRl hRle hRR2
  have HF0 := hide (sp2_row ax ay (w2.alloc (.cells #[.int .i64 ax, .int .i64 ay] 41)) 41)
  have HV0 := hide (World.ownsRow_lit (base := w.heap.size) (e := 41) (size := 2) w2 #[.int .i64 ax, .int .i64 ay] 1 (by omega) (by unfold maxLen; omega) rfl)
  rw [nblk_alloc] at HF0
  obtain ⟨FB, hFB⟩ : ∃ FB, FB = w2.heap.size + 1 := ⟨_, rfl⟩
  go_wp2_with fail
  rw [← hFB] at HF0 ⊢
  have hFB1 : w2.heap.size < FB := by omega
  have hFB2 : FB < w2.heap.size + 2 := by omega
  clear hFB
  go_loopw [7, 32] (fun v t wr => ∃ (j : Nat) (x y : Int), j ≤ n ∧ t = .int .i64 j ∧ FB < wr.heap.size ∧ Below w.heap.size w wr ∧ wr.rowIs FB 41 2 (sp2 x y) ∧ Num.lastS ax ay (RR.take j) = (x, y) ∧ wr.heap[g6]? = w2.heap[g6]? ∧ v.ownBlock ≠ some g6 ∧ v.ownBlock ≠ some FB ∧ wr.ownsRow w.heap.size 41 2 v (cutU ax ay RR j).length ((cutU ax ay RR j).flatMap spC)) (fun _ t _ => n - (intOf t).toNat)
  case atStart =>
    refine ⟨0, ax, ay, by omega, rfl, ?_, ?_, HF0.out, rfl, ?_, ?_, ?_, ?_⟩
    · have := HF0.out.lt; exact this
    · exact (hB2.alloc (by omega) _).alloc (by simp; omega) _
    · rw [blk_alloc_lt _ _ _ (by simp; omega), blk_alloc_lt _ _ _ (by omega)]
    · simp [Value.ownBlock]; omega
    · simp [Value.ownBlock]; omega
    · have e : cutU ax ay RR 0 = [(ax, ay)] := by simp [cutU, Num.cutF]
      rw [e]
      exact HV0.out.alloc _
  case round =>
    obtain ⟨v, rfl⟩ : ∃ v, v = u7 := ⟨_, rfl⟩
    obtain ⟨j, fx, fy, hj, rfl, hsr, hB, hFr, hlast, hblk, hne6, hneF, hown⟩ := hrel
    by_cases hlt : j < n
    · have hjl : j < RR.length := by rw [← HN.out]; exact hlt
      have hO6 := owns_of_block (w' := wr) HO2.out (fun b hbb => by simp [Value.ownBlock] at hbb; subst hbb; exact hblk)
      obtain ⟨q0, q1⟩ := owns_sp hO6 j hjl
      have hlen := cutU_len ax ay RR j HLt.out
      have hlen2 := cutU_len ax ay RR (j + 1) HLt.out
      have HSu := hide (cutU_succ hjl hlast)
      have hfin : Num.inB fx fy = true := by
        have := Num.lastS_in (RR.take j) ax ay ha (fun t ht => HIn.out t (List.mem_of_mem_take ht))
        rw [hlast] at this
        exact this
      have htin := HIn.out _ (List.getElem_mem hjl)
      have HLa : Hid (Num.lastS ax ay (RR.take (j + 1)) = RR[j]) := by unfold Hid; rw [List.take_succ_eq_append_getElem hjl, Num.lastS_snoc]
      obtain ⟨tt, htt⟩ : ∃ tt, tt = RR[j] := ⟨_, rfl⟩
      rw [← htt] at q0 q1 HSu htin HLa
      obtain ⟨tx, ty⟩ := tt
      simp only at q0 q1 HSu htin
      have HC := hide (fun w => atCols_any fx fy tx ty w (Num.inB_yes hfin) (Num.inB_yes htin))
      have hcl := Num.colsV_len fx fy tx ty
      obtain ⟨CV, hCV⟩ : ∃ CV, CV = Num.colsV fx fy tx ty := ⟨_, rfl⟩
      rw [← hCV] at HC HSu hcl
      obtain ⟨f0, f1⟩ := sp2_cells hFr
      have HFr := hide hFr
      have HBk := hide hblk
      have HNe6 := hide hne6
      have HNeF := hide hneF
      obtain ⟨U, hU⟩ : ∃ U, U = cutU ax ay RR j := ⟨_, rfl⟩
      rw [← hU] at HSu hown hlen
      have hd1 : decide ((j : Int) < (n : Int)) = true := by simp; omega
      have hg6w : g6 < wr.heap.size := (hO6.lt g6 rfl).2
      clear hO6 htt hfin htin hCV hU hlast hFr hblk hne6 hneF
      go_wp2_with fail
      refine (HC.out _).mono ?_
      rintro e w5 ⟨vC, rfl, hb5, hown5, hnil5⟩
      have hs5 : wr.heap.size < w5.heap.size := by have := hb5.size; simp at this; omega
      have k0 : w5.cell? ⟨wr.heap.size, 0, none⟩ = some (.int .i64 tx) := (hb5.cell (p := ⟨wr.heap.size, 0, none⟩) (by simp)).trans (by go_simp)
      have k1 : w5.cell? ⟨wr.heap.size, 1, none⟩ = some (.int .i64 ty) := (hb5.cell (p := ⟨wr.heap.size, 1, none⟩) (by simp)).trans (by go_simp)
      have hB5 : Below w.heap.size w w5 := (hB.alloc (by omega) _).trans (hb5.mono (by simp; omega))
      have HF5 := hide (row_below (HFr.out.alloc (.cells #[.int .i64 tx, .int .i64 ty] 41)) hb5 (by simp; omega))
      have hownA := hown.alloc (.cells #[.int .i64 tx, .int .i64 ty] 41)
      have hownV := owns_of_block hownA (fun b hbb => hb5.block b (hownA.lt b hbb).2)
      have hvlt : ∀ b, v.ownBlock = some b → b < wr.heap.size := fun b hbb => (hown.lt b hbb).2
      have HBk5 : Hid (w5.heap[g6]? = w2.heap[g6]?) := by
        unfold Hid
        rw [hb5.block g6 (by simp; omega), blk_alloc_lt _ _ _ hg6w]
        exact HBk.out
      have HVl := hide hvlt
      clear hb5 hownA hown hB f0 f1 q0 q1 hvlt
      by_cases hc0 : CV.length = 0
      · have hv0 := hnil5 hc0
        have hCV0 : CV = [] := List.eq_nil_of_length_eq_zero hc0
        subst hv0 hCV0
        rw [List.append_nil] at HSu
        obtain ⟨ln, hln⟩ : ∃ ln, ln = U.length := ⟨_, rfl⟩
        obtain ⟨ys, hys⟩ : ∃ ys, ys = U.flatMap spC := ⟨_, rfl⟩
        rw [← hln, ← hys] at hownV
        rw [← hln] at hlen
        have HLn := hide hln
        have HYs := hide hys
        clear hln hys hnil5 hown5
        go_wp2_with (at_builtin; first | refine wpList_append_own_none rfl _ _ 48 rfl w.heap.size 41 i0 2 Try.underlying48 hi0 v ln ys rfl hownV rfl ?_ | refine wpList_append_lies _ rfl _ _ 48 rfl w.heap.size 41 i0 (.agg #[.int .i64 0, .int .i64 0]) 2 16 Try.underlying48 hi0 hz0 hz1 hz2 rfl (by omega) v ln ys rfl (hownV.alloc _) ⟨w5.heap.size, 0, none⟩ 1 1 [.int .i64 tx, .int .i64 ty] rfl rfl ?h1 ?h2 (by omega) ?h3 ?h4 ?h5 (w5.heap.size + 1) (by simp) ?_)
        try (case h1 => exact news_sp w5 [.int .i64 tx, .int .i64 ty] _ _ rfl)
        case h2 => first | exact one_two _ _ | exact ⟨rfl, rfl⟩
        case h3 => unfold maxLen; omega
        case h4 => omega
        case h5 => first | omega | (simp; omega)
        intro g8 cap8 w8 hown8 hgrow8 hat8 hlt8
        have hs8 := hgrow8.size
        rw [nblk_alloc] at hs8
        have hb8 : Below w.heap.size w w8 := (hB5.alloc (by omega) _).grown hgrow8 (by simp; omega) (fun q hq => (hownV.lt q hq).1)
        have hF8 : w8.rowIs FB 41 2 (sp2 fx fy) := (HF5.out.alloc _).of_block (hgrow8.block FB (by rw [nblk_alloc]; omega) (fun e => HNeF.out e.symm))
        obtain ⟨f0, f1⟩ := sp2_cells hF8
        have z0 := hF8.frozen 0
        have z1 := hF8.frozen 1
        have hF8lt := hF8.lt
        have HF9 := hide (sp2_set hF8 tx ty)
        have hbk8 : w8.heap[g6]? = w2.heap[g6]? := by
          rw [hgrow8.block g6 (by rw [nblk_alloc]; omega) (fun e => HNe6.out e.symm), blk_alloc_lt _ _ _ (by omega)]
          exact HBk5.out
        have hg6F : g6 ≠ FB := by omega
        have HBk9 : Hid (((w8.setCell ⟨FB, 0, none⟩ (.int .i64 tx)).setCell ⟨FB, 1, none⟩ (.int .i64 ty)).heap[g6]? = w2.heap[g6]?) := by
          unfold Hid
          rw [set_otherB hg6F, set_otherB hg6F]
          exact hbk8
        have hn6' : (Value.slice (some ⟨g8, 0, none⟩) (ln + 1) cap8).ownBlock ≠ some g6 := fun e => by
          simp [Value.ownBlock] at e
          rcases hat8 with hat8 | hat8
          · exact HNe6.out (by rw [hat8, e])
          · omega
        have hnF' : (Value.slice (some ⟨g8, 0, none⟩) (ln + 1) cap8).ownBlock ≠ some FB := fun e => by
          simp [Value.ownBlock] at e
          rcases hat8 with hat8 | hat8
          · exact HNeF.out (by rw [hat8, e])
          · omega
        have HO9 : Hid (((w8.setCell ⟨FB, 0, none⟩ (.int .i64 tx)).setCell ⟨FB, 1, none⟩ (.int .i64 ty)).ownsRow w.heap.size 41 2 (.slice (some ⟨g8, 0, none⟩) (ln + 1) cap8) (cutU ax ay RR (j + 1)).length ((cutU ax ay RR (j + 1)).flatMap spC)) := by
          unfold Hid
          have h := push_sp (l := U) (l' := cutU ax ay RR (j + 1)) (p := (tx, ty)) (m := ln + 1) (by rw [← HYs.out]; exact hown8) HSu.out (by rw [HLn.out])
          exact owns_of_block h (fun b hbb => by rw [set_otherB (fun e => hnF' (by rw [hbb, e])), set_otherB (fun e => hnF' (by rw [hbb, e]))])
        have HB9 : Hid (Below w.heap.size w ((w8.setCell ⟨FB, 0, none⟩ (.int .i64 tx)).setCell ⟨FB, 1, none⟩ (.int .i64 ty))) := (hb8.setCell (by show w.heap.size ≤ FB; omega) _).setCell (by show w.heap.size ≤ FB; omega) _
        have HN9 := hide (And.intro hn6' hnF')
        have hs9 : FB < ((w8.setCell ⟨FB, 0, none⟩ (.int .i64 tx)).setCell ⟨FB, 1, none⟩ (.int .i64 ty)).heap.size := HF9.out.lt
        have HS9 := hide hs9
        have hnw : some wr.heap.size ≠ v.ownBlock := fun e => by have := (hownV.lt _ e.symm); exact absurd (HVl.out _ e.symm) (Nat.lt_irrefl _)
        have p0 : w8.cell? ⟨wr.heap.size, 0, none⟩ = some (.int .i64 tx) := (hgrow8.cell_far ⟨wr.heap.size, 0, none⟩ (by simp; omega) hnw).trans (by go_simp)
        have p1 : w8.cell? ⟨wr.heap.size, 1, none⟩ = some (.int .i64 ty) := (hgrow8.cell_far ⟨wr.heap.size, 1, none⟩ (by simp; omega) hnw).trans (by go_simp)
        have hwr8 : wr.heap.size < w8.heap.size := by omega
        have hFBr : FB < wr.heap.size := hsr
        clear hown8 hgrow8 hat8 hF8 hbk8 hn6' hnF' hb8 hnw hownV hs9
        go_wp2
        go_roundw
        case rel => exact ⟨j + 1, tx, ty, by omega, by go_num, HS9.out, HB9.out, HF9.out, HLa.out, HBk9.out, HN9.out.1, HN9.out.2, HO9.out⟩
        case measure => simp [intOf]; omega
      · obtain ⟨gC, capC, rfl, hgC1, hgC2⟩ := hown5.form (by omega)
        have HNews := hide (news_row hown5)
        have HFl := hide (flat2_len CV)
        have HOne := hide (flat2_one CV)
        obtain ⟨lc, hlc⟩ : ∃ lc, lc = CV.length := ⟨_, rfl⟩
        obtain ⟨zs, hzs⟩ : ∃ zs, zs = CV.flatMap spC := ⟨_, rfl⟩
        obtain ⟨lu, hlu⟩ : ∃ lu, lu = U.length := ⟨_, rfl⟩
        obtain ⟨us, hus⟩ : ∃ us, us = U.flatMap spC := ⟨_, rfl⟩
        rw [← hzs] at HNews HFl HOne
        rw [← hlc] at HFl hc0 hcl ⊢
        rw [← hlu, ← hus] at hownV
        rw [← hlu] at hlen
        have HSum : Hid ((U ++ CV).length = lu + lc ∧ (U ++ CV).flatMap spC = us ++ zs) := by
          unfold Hid; rw [hlu, hlc, hus, hzs]; simp
        clear hlc hzs hlu hus hnil5 hown5
        go_wp2_with (at_builtin; refine wpList_append_lies _ rfl _ _ 48 rfl w.heap.size 41 i0 (.agg #[.int .i64 0, .int .i64 0]) 2 16 Try.underlying48 hi0 hz0 hz1 hz2 rfl (by omega) v lu us rfl hownV ⟨gC, 0, none⟩ lc capC zs rfl HFl.out HNews.out HOne.out (by omega) ?r3 ?r4 ?r5 w5.heap.size rfl ?_)
        case r3 => unfold maxLen; omega
        case r4 => omega
        case r5 => first | omega | (simp; omega)
        intro g7 cap7 w7 hown7 hgrow7 hat7 hlt7
        have hs7 := hgrow7.size
        have hB7 : Below w.heap.size w w7 := hB5.grown hgrow7 (by omega) (fun q hq => (hownV.lt q hq).1)
        have hFBlt : FB < w5.heap.size := by omega
        have HF7 := hide (HF5.out.of_block (hgrow7.block FB hFBlt (fun e => HNeF.out e.symm)))
        have HBk7 : Hid (w7.heap[g6]? = w2.heap[g6]?) := by
          unfold Hid
          rw [hgrow7.block g6 (by omega) (fun e => HNe6.out e.symm)]
          exact HBk5.out
        have hnk : some wr.heap.size ≠ v.ownBlock := fun e => by have := HVl.out _ e.symm; omega
        have k0' : w7.cell? ⟨wr.heap.size, 0, none⟩ = some (.int .i64 tx) := (hgrow7.cell_far ⟨wr.heap.size, 0, none⟩ hs5 hnk).trans k0
        have k1' : w7.cell? ⟨wr.heap.size, 1, none⟩ = some (.int .i64 ty) := (hgrow7.cell_far ⟨wr.heap.size, 1, none⟩ hs5 hnk).trans k1
        have hs7' : wr.heap.size < w7.heap.size := by omega
        have HNe6' : Hid ((Value.slice (some ⟨g7, 0, none⟩) (lu + lc) cap7).ownBlock ≠ some g6) := by
          unfold Hid
          intro e
          simp [Value.ownBlock] at e
          rcases hat7 with hat7 | hat7
          · exact HNe6.out (by rw [hat7, e])
          · omega
        have HNeF' : Hid ((Value.slice (some ⟨g7, 0, none⟩) (lu + lc) cap7).ownBlock ≠ some FB) := by
          unfold Hid
          intro e
          simp [Value.ownBlock] at e
          rcases hat7 with hat7 | hat7
          · exact HNeF.out (by rw [hat7, e])
          · omega
        have HNw' : Hid (some wr.heap.size ≠ (Value.slice (some ⟨g7, 0, none⟩) (lu + lc) cap7).ownBlock) := by
          unfold Hid
          intro e
          simp [Value.ownBlock] at e
          rcases hat7 with hat7 | hat7
          · have := HVl.out g7 hat7; omega
          · omega
        clear hgrow7 hat7 hownV hB5 k0 k1 HF5 HBk5 HNe6 HNeF
        obtain ⟨v7, hv7⟩ : ∃ v7, v7 = Value.slice (some ⟨g7, 0, none⟩) (lu + lc) cap7 := ⟨_, rfl⟩
        rw [← hv7] at HNe6' HNeF' HNw' hown7 ⊢
        have HNe6 := HNe6'
        have HNeF := HNeF'
        have HNw := HNw'
        clear hv7 HNe6' HNeF' HNw'
        obtain ⟨ln, hln⟩ : ∃ ln, ln = lu + lc := ⟨_, rfl⟩
        obtain ⟨ys, hys⟩ : ∃ ys, ys = us ++ zs := ⟨_, rfl⟩
        rw [← hln, ← hys] at hown7
        rw [← hln, ← hys] at HSum
        have hlen' : ln ≤ 1100000 := by omega
        have HLn : Hid (ln = (U ++ CV).length) := HSum.out.1.symm
        have HYs : Hid (ys = (U ++ CV).flatMap spC) := HSum.out.2.symm
        clear hln hys
        go_wp2_with (at_builtin; refine wpList_append_lies _ rfl _ _ 48 rfl w.heap.size 41 i0 (.agg #[.int .i64 0, .int .i64 0]) 2 16 Try.underlying48 hi0 hz0 hz1 hz2 rfl (by omega) v7 ln ys rfl (hown7.alloc _) ⟨w7.heap.size, 0, none⟩ 1 1 [.int .i64 tx, .int .i64 ty] rfl rfl ?l1 ?l2 (by omega) ?l3 ?l4 ?l5 (w7.heap.size + 1) (by simp) ?_)
        try (case l1 => exact news_sp w7 [.int .i64 tx, .int .i64 ty] _ _ rfl)
        case l2 => first | exact one_two _ _ | exact ⟨rfl, rfl⟩
        case l3 => unfold maxLen; omega
        case l4 => omega
        case l5 => first | omega | (simp; omega)
        intro g8 cap8 w8 hown8 hgrow8 hat8 hlt8
        have hs8 := hgrow8.size
        rw [nblk_alloc] at hs8
        have hb8 : Below w.heap.size w w8 := (hB7.alloc (by omega) _).grown hgrow8 (by simp; omega) (fun q hq => (hown7.lt q hq).1)
        have hF8 : w8.rowIs FB 41 2 (sp2 fx fy) := (HF7.out.alloc _).of_block (hgrow8.block FB (by rw [nblk_alloc]; omega) (fun e => HNeF.out e.symm))
        obtain ⟨f0, f1⟩ := sp2_cells hF8
        have z0 := hF8.frozen 0
        have z1 := hF8.frozen 1
        have hF8lt := hF8.lt
        have HF9 := hide (sp2_set hF8 tx ty)
        have hbk8 : w8.heap[g6]? = w2.heap[g6]? := by
          rw [hgrow8.block g6 (by rw [nblk_alloc]; omega) (fun e => HNe6.out e.symm), blk_alloc_lt _ _ _ (by omega)]
          exact HBk7.out
        have hg6F : g6 ≠ FB := by omega
        have HBk9 : Hid (((w8.setCell ⟨FB, 0, none⟩ (.int .i64 tx)).setCell ⟨FB, 1, none⟩ (.int .i64 ty)).heap[g6]? = w2.heap[g6]?) := by
          unfold Hid
          rw [set_otherB hg6F, set_otherB hg6F]
          exact hbk8
        have hn6' : (Value.slice (some ⟨g8, 0, none⟩) (ln + 1) cap8).ownBlock ≠ some g6 := fun e => by
          simp [Value.ownBlock] at e
          rcases hat8 with hat8 | hat8
          · exact HNe6.out (by rw [hat8, e])
          · omega
        have hnF' : (Value.slice (some ⟨g8, 0, none⟩) (ln + 1) cap8).ownBlock ≠ some FB := fun e => by
          simp [Value.ownBlock] at e
          rcases hat8 with hat8 | hat8
          · exact HNeF.out (by rw [hat8, e])
          · omega
        have HO9 : Hid (((w8.setCell ⟨FB, 0, none⟩ (.int .i64 tx)).setCell ⟨FB, 1, none⟩ (.int .i64 ty)).ownsRow w.heap.size 41 2 (.slice (some ⟨g8, 0, none⟩) (ln + 1) cap8) (cutU ax ay RR (j + 1)).length ((cutU ax ay RR (j + 1)).flatMap spC)) := by
          unfold Hid
          have h := push_sp (l := (U ++ CV)) (l' := cutU ax ay RR (j + 1)) (p := (tx, ty)) (m := ln + 1) (by rw [← HYs.out]; exact hown8) HSu.out (by rw [HLn.out])
          exact owns_of_block h (fun b hbb => by rw [set_otherB (fun e => hnF' (by rw [hbb, e])), set_otherB (fun e => hnF' (by rw [hbb, e]))])
        have HB9 : Hid (Below w.heap.size w ((w8.setCell ⟨FB, 0, none⟩ (.int .i64 tx)).setCell ⟨FB, 1, none⟩ (.int .i64 ty))) := (hb8.setCell (by show w.heap.size ≤ FB; omega) _).setCell (by show w.heap.size ≤ FB; omega) _
        have HN9 := hide (And.intro hn6' hnF')
        have hs9 : FB < ((w8.setCell ⟨FB, 0, none⟩ (.int .i64 tx)).setCell ⟨FB, 1, none⟩ (.int .i64 ty)).heap.size := HF9.out.lt
        have HS9 := hide hs9
        have hnw : some wr.heap.size ≠ v7.ownBlock := fun e => by have := (hown7.lt _ e.symm); exact HNw.out e
        have p0 : w8.cell? ⟨wr.heap.size, 0, none⟩ = some (.int .i64 tx) := (hgrow8.cell_far ⟨wr.heap.size, 0, none⟩ (by simp; omega) hnw).trans (by go_simp)
        have p1 : w8.cell? ⟨wr.heap.size, 1, none⟩ = some (.int .i64 ty) := (hgrow8.cell_far ⟨wr.heap.size, 1, none⟩ (by simp; omega) hnw).trans (by go_simp)
        have hwr8 : wr.heap.size < w8.heap.size := by omega
        have hFBr : FB < wr.heap.size := hsr
        clear hown8 hgrow8 hat8 hF8 hbk8 hn6' hnF' hb8 hnw hown7 hs9
        go_wp2
        go_roundw
        case rel => exact ⟨j + 1, tx, ty, by omega, by go_num, HS9.out, HB9.out, HF9.out, HLa.out, HBk9.out, HN9.out.1, HN9.out.2, HO9.out⟩
        case measure => simp [intOf]; omega
    · have e : j = n := by omega
      have hd0 : decide ((j : Int) < (n : Int)) = false := by simp; omega
      have HO := hide hown
      have HB := hide hB
      clear hown hB hFr hlast hblk hne6 hneF
      go_wp2
      go_ret2
      refine ⟨v, rfl, HB.out, ?_⟩
      have h := HO.out
      rw [e, HN.out] at h
      exact h

set_option maxHeartbeats 400000 in
theorem glyphCuts_any (ax ay bx b2 : Int) (w : World) :
    Calls Try.prog 67 #[.agg #[.int .i64 ax, .int .i64 ay], .agg #[.int .i64 bx, .int .i64 b2]] w fun e w' => ∃ v, e = .returned (.tuple #[v, .int .i64 (Num.cutsE ax ay bx b2)]) ∧ Below w.heap.size w w' ∧ w'.ownsRow w.heap.size 41 2 v (Num.cutsL ax ay bx b2).length ((Num.cutsL ax ay bx b2).flatMap spC) := by
  go_enter Try.func67, Try.ntmps67
  go_wp2_with fail
  refine (chordCuts_any _ _ _ _ _).mono ?_
  rintro e w1 ⟨v, rfl, hb, hown⟩
  have hb0 : Below w.heap.size w w1 := Below.trans (by (repeat (any_goals (first | exact Below.refl _ _ | assumption | refine Below.drew ?_ | refine below_drewN ?_ _ | refine Below.setCell ?_ ?_ _ | refine Below.alloc ?_ ?_ _ | omega | (simp; done) | (simp; omega))))) (hb.mono (by simp; omega))
  have HW := hide (owns_mono (base' := w.heap.size) hown (by simp; omega))
  clear hown hb
  go_wp2
  go_ret2
  exact ⟨v, rfl, hb0, HW.out⟩
end Go.Proofs.Ytkhcjkmifddlbaa
