/- Does all that is held still read as its mark? The rest. -/
import Derived.Test.YtkhcjkmifddlbabDoorDry
namespace Go.Proofs.YtkhcjkmifddlbabDoor
open Go.RowKit Go.Deep

set_option maxHeartbeats 400000 in
theorem markSegment_exact (n : Int) (w : World) (h0 : 0 ≤ n) (h1 : n ≤ 1099511627776) :
    Calls Tryd.prog 23 #[.int .i64 n] w fun e w' => e = .returned (.agg #[.int .i64 9, .int .i64 (2199023255552 + n), .int .i64 (-7), .int .i64 (2199023255552 + n), .int .i64 (-7), .int .i64 (2199023255552 + n), .int .i64 (-7), .int .i64 (2199023255552 + n), .int .i64 (-7)]) ∧ w' = ((w.alloc (.cells #[.int .i64 9, .int .i64 (2199023255552 + n), .int .i64 (-7), .int .i64 (2199023255552 + n), .int .i64 (-7), .int .i64 (2199023255552 + n), .int .i64 (-7), .int .i64 (2199023255552 + n), .int .i64 (-7)] 67)).alloc (.cells #[.int .i64 (2199023255552 + n), .int .i64 (-7)] 65)).alloc (.cells #[.int .i64 (2199023255552 + n), .int .i64 (-7)] 65) := by
  go_enter Tryd.func23, Tryd.ntmps23
  go_wp2_with fail
  refine (markSpot_any _ _ h0 h1).mono ?_
  rintro e w1 ⟨rfl, rfl⟩
  go_wp2
  exact bodyPost_ret (v := .agg #[.int .i64 9, .int .i64 (2199023255552 + n), .int .i64 (-7), .int .i64 (2199023255552 + n), .int .i64 (-7), .int .i64 (2199023255552 + n), .int .i64 (-7), .int .i64 (2199023255552 + n), .int .i64 (-7)]) (by simp [results, Tryd.results23, go_sem]) rfl ⟨rfl, rfl⟩

theorem keep3 {w : World} {o1 o2 o3 : Obj} {b o : Nat} {v : Value} (hb : b < w.heap.size) (h : w.cell? ⟨b, o, none⟩ = some v) : (((w.alloc o1).alloc o2).alloc o3).drew.cell? ⟨b, o, none⟩ = some v := by
  have e : Below w.heap.size w (((w.alloc o1).alloc o2).alloc o3).drew := by (repeat (any_goals (first | exact Below.refl _ _ | assumption | refine Below.drew ?_ | refine below_drewN ?_ _ | refine Below.setCell ?_ ?_ _ | refine Below.alloc ?_ ?_ _ | omega | (simp; done) | (simp; omega))))
  exact (e.cell (p := ⟨b, o, none⟩) hb).trans h

theorem mkS_row {w : World} {b m : Nat} {t : TypeId} {n : Int} (h : w.rowIs b t (m * 9) (mkS n)) (k : Nat) (hk : k < m) :
    w.cell? ⟨b, k * 9, none⟩ = some (.int .i64 9) ∧ w.cell? ⟨b, k * 9 + 1, none⟩ = some (.int .i64 (2199023255552 + n)) ∧ w.cell? ⟨b, k * 9 + 2, none⟩ = some (.int .i64 (-7)) ∧ w.cell? ⟨b, k * 9 + 3, none⟩ = some (.int .i64 (2199023255552 + n)) ∧ w.cell? ⟨b, k * 9 + 4, none⟩ = some (.int .i64 (-7)) ∧ w.cell? ⟨b, k * 9 + 5, none⟩ = some (.int .i64 (2199023255552 + n)) ∧ w.cell? ⟨b, k * 9 + 6, none⟩ = some (.int .i64 (-7)) ∧ w.cell? ⟨b, k * 9 + 7, none⟩ = some (.int .i64 (2199023255552 + n)) ∧ w.cell? ⟨b, k * 9 + 8, none⟩ = some (.int .i64 (-7)) := by
  refine ⟨?_, ?_, ?_, ?_, ?_, ?_, ?_, ?_, ?_⟩
  · rw [h.cell (i := k * 9) (by omega)]; unfold mkS; rw [if_pos (by omega)]
  · rw [h.cell (i := k * 9 + 1) (by omega)]; unfold mkS; rw [if_neg (by omega), if_pos (by omega)]
  · rw [h.cell (i := k * 9 + 2) (by omega)]; unfold mkS; rw [if_neg (by omega), if_neg (by omega)]
  · rw [h.cell (i := k * 9 + 3) (by omega)]; unfold mkS; rw [if_neg (by omega), if_pos (by omega)]
  · rw [h.cell (i := k * 9 + 4) (by omega)]; unfold mkS; rw [if_neg (by omega), if_neg (by omega)]
  · rw [h.cell (i := k * 9 + 5) (by omega)]; unfold mkS; rw [if_neg (by omega), if_pos (by omega)]
  · rw [h.cell (i := k * 9 + 6) (by omega)]; unfold mkS; rw [if_neg (by omega), if_neg (by omega)]
  · rw [h.cell (i := k * 9 + 7) (by omega)]; unfold mkS; rw [if_neg (by omega), if_pos (by omega)]
  · rw [h.cell (i := k * 9 + 8) (by omega)]; unfold mkS; rw [if_neg (by omega), if_neg (by omega)]

theorem mkT_row {w : World} {b m : Nat} {t : TypeId} {n : Int} (h : w.rowIs b t (m * 2) (mkT n)) (k : Nat) (hk : k < m) :
    w.cell? ⟨b, k * 2, none⟩ = some (.int .i64 (2199023255552 + n)) ∧ w.cell? ⟨b, k * 2 + 1, none⟩ = some (.int .i64 (-7)) := by
  refine ⟨?_, ?_⟩
  · rw [h.cell (i := k * 2) (by omega)]; unfold mkT; rw [if_pos (by omega)]
  · rw [h.cell (i := k * 2 + 1) (by omega)]; unfold mkT; rw [if_neg (by omega)]
theorem spot_form (e : Option Nat × Nat × Int) {w : World} (h1 : ∀ b, e.1 = some b → w.rowIs b 65 (e.2.1 * 2) (mkT e.2.2)) (h2 : e.1 = none → e.2.1 = 0) :
    ∃ ao, (seC e)[0]? = some (.slice ao e.2.1 e.2.1) ∧ (seC e)[1]? = some (.int .i64 e.2.2) ∧ (0 < e.2.1 → ∃ b, ao = some ⟨b, 0, none⟩ ∧ w.rowIs b 65 (e.2.1 * 2) (mkT e.2.2)) := by
  obtain ⟨eb, m, n⟩ := e
  cases eb with
  | none => exact ⟨none, rfl, rfl, fun h => by have := h2 rfl; simp at this h; omega⟩
  | some b => exact ⟨some ⟨b, 0, none⟩, rfl, rfl, fun _ => ⟨b, rfl, h1 b rfl⟩⟩
theorem ring_form (e : Option Nat × Nat × (Nat → Nat) × Int) {w : World} (h1 : ∀ b, e.1 = some b → w.rowIs b 88 e.2.1 (fun i => .slice (some ⟨e.2.2.1 i, 0, none⟩) 1 1)) (h2 : e.1 = none → e.2.1 = 0) :
    ∃ ao, (reC e)[0]? = some (.slice ao e.2.1 e.2.1) ∧ (reC e)[1]? = some (.int .i64 e.2.2.2) ∧ (0 < e.2.1 → ∃ b, ao = some ⟨b, 0, none⟩ ∧ w.rowIs b 88 e.2.1 (fun i => .slice (some ⟨e.2.2.1 i, 0, none⟩) 1 1)) := by
  obtain ⟨eb, m, F, n⟩ := e
  cases eb with
  | none => exact ⟨none, rfl, rfl, fun h => by have := h2 rfl; simp at this h; omega⟩
  | some b => exact ⟨some ⟨b, 0, none⟩, rfl, rfl, fun _ => ⟨b, rfl, h1 b rfl⟩⟩

set_option maxHeartbeats 1000000 in
theorem heldPlaces_any (h : Nat) (s : HS) (w : World) (H : HeldInv w h s) :
    Calls Tryd.prog 26 #[.pointer (some ⟨h, 2, none⟩)] w fun e w' => e = .returned (.bool true) ∧ Below w.heap.size w w' := by
  have HH := hide H
  have hlo := H.lo
  have hhi := H.hi
  obtain ⟨aP, cP, evP, hP⟩ := owns_form (fun e => rfl) H.oT
  obtain ⟨aO, cO, evO, hO⟩ := owns_form (fun e => rfl) H.oR
  have c3 : w.cell? ⟨h, 2 + 4, none⟩ = some (.slice aP s.T.length cP) := by rw [H.wd.cell (by omega), ← evP]; rfl
  have c4 : w.cell? ⟨h, 2 + 5, none⟩ = some (.slice aO s.R.length cO) := by rw [H.wd.cell (by omega), ← evO]; rfl
  have hhl := H.wd.lt
  have HP := hide hP
  have HO := hide hO
  clear H evP evO hP hO
  have lP : (s.T.length : Int) ≤ 1099511627776 := by omega
  have lO : (s.R.length : Int) ≤ 1099511627776 := by omega
  go_enter Tryd.func26, Tryd.ntmps26
  go_wp2_with fail
  go_loopw [3] (fun t wr => ∃ i : Nat, i ≤ s.T.length ∧ t = .int .i64 i ∧ Below w.heap.size w wr) (fun t _ => s.T.length - (intOf t).toNat)
  case atStart => exact ⟨0, by omega, rfl, Below.refl _ _⟩
  case round =>
    obtain ⟨wo, rfl⟩ : ∃ wo, wo = wr := ⟨wr, rfl⟩
    obtain ⟨i, hi, rfl, hb⟩ := hrel
    have hsz := hb.size
    have d3 := (hb.cell (p := ⟨h, 2 + 4, none⟩) hhl).trans c3
    by_cases hlt : i < s.T.length
    · obtain ⟨g, rfl, hgl, hg⟩ := HP.out (by omega)
      obtain ⟨x0, x1⟩ := hg i hlt
      obtain ⟨e, he⟩ : ∃ e, s.T[i] = e := ⟨_, rfl⟩
      have hmem : e ∈ s.T := by rw [← he]; exact List.getElem_mem hlt
      rw [he] at x0 x1
      have y0 := (hb.cell (p := ⟨g, i * 2, none⟩) hgl).trans x0
      have y1 := (hb.cell (p := ⟨g, i * 2 + 1, none⟩) hgl).trans x1
      obtain ⟨n0, n1, n2⟩ : 0 ≤ e.2.2 ∧ e.2.2 ≤ 1099511627776 ∧ (e.2.1 : Int) ≤ 9223372036854775807 := HH.out.mT _ hmem
      obtain ⟨ao, s0, s1, hrow⟩ := spot_form e (HH.out.eT e hmem) (HH.out.eU e hmem)
      rw [s0] at y0
      rw [s1] at y1
      obtain ⟨eb, m, n⟩ := e
      simp only at y0 y1 hrow n0 n1 n2
      have HR := hide hrow
      clear hg x0 x1 he hmem hrow s0 s1
      have hd1 : decide ((i : Int) < (s.T.length : Int)) = true := by simp; omega
      go_wp2_with fail
      go_loopw [5] (fun t wr => ∃ k : Nat, k ≤ m ∧ t = .int .i64 k ∧ wo.heap.size < wr.heap.size ∧ Below w.heap.size w wr ∧ wr.cell? ⟨wo.heap.size, 0, none⟩ = some (.slice ao m m) ∧ wr.cell? ⟨wo.heap.size, 1, none⟩ = some (.int .i64 n)) (fun t _ => m - (intOf t).toNat)
      case atStart =>
        refine ⟨0, by omega, rfl, by simp, by (repeat (any_goals (first | exact Below.refl _ _ | assumption | refine Below.drew ?_ | refine below_drewN ?_ _ | refine Below.setCell ?_ ?_ _ | refine Below.alloc ?_ ?_ _ | omega | (simp; done) | (simp; omega)))), ?_, ?_⟩
        all_goals go_simp
      case round =>
        obtain ⟨k, hk, rfl, hszr, hbr, b0, b1⟩ := hrel
        by_cases hkm : k < m
        · obtain ⟨b, rfl, hrow⟩ := HR.out (by omega)
          obtain ⟨q0, q1⟩ := mkT_row (row_below hrow hbr hrow.lt) k hkm
          have hbw : b < wr.heap.size := (row_below hrow hbr hrow.lt).lt
          clear hrow
          have hd2 : decide ((k : Int) < (m : Int)) = true := by simp; omega
          have g0 : (0 : Int) ≤ (k : Int) := by omega
          have g1 : (k : Int) < (m : Int) := by omega
          go_wp2_with fail
          go_region_held3 (fun w' => w'.cell? ⟨wo.heap.size, 0, none⟩ = some (.slice (some ⟨b, 0, none⟩) m m) ∧ w'.cell? ⟨wo.heap.size, 1, none⟩ = some (.int .i64 n) ∧ w'.cell? ⟨b, k * 2, none⟩ = some (.int .i64 (2199023255552 + n)) ∧ w'.cell? ⟨b, k * 2 + 1, none⟩ = some (.int .i64 (-7))) (go_keep) ((go_at_call 38; refine (markSpot_any _ _ n0 n1).mono ?_; rintro e w' ⟨rfl, rfl⟩))
          go_wp2
          go_roundw
          case rel =>
            refine ⟨k + 1, by omega, by go_num, by simp; omega, by (repeat (any_goals (first | exact Below.refl _ _ | assumption | refine Below.drew ?_ | refine below_drewN ?_ _ | refine Below.setCell ?_ ?_ _ | refine Below.alloc ?_ ?_ _ | omega | (simp; done) | (simp; omega)))), ?_, ?_⟩
            all_goals go_simp
          case measure => simp [intOf]; omega
        · go_wp2
          go_roundw
          case rel => exact ⟨i + 1, by omega, by go_num, hbr⟩
          case measure => simp [intOf]; omega
    · have hd0 : decide ((i : Int) < (s.T.length : Int)) = false := by simp; omega
      go_wp2_with fail
      go_loopw [6] (fun t wr => ∃ j : Nat, j ≤ s.R.length ∧ t = .int .i64 j ∧ Below w.heap.size w wr) (fun t _ => s.R.length - (intOf t).toNat)
      case atStart => exact ⟨0, by omega, rfl, hb⟩
      case round =>
        obtain ⟨wp, rfl⟩ : ∃ wp, wp = wr := ⟨wr, rfl⟩
        obtain ⟨j, hj, rfl, hbj⟩ := hrel
        have hszj := hbj.size
        have d4 := (hbj.cell (p := ⟨h, 2 + 5, none⟩) hhl).trans c4
        by_cases hltj : j < s.R.length
        · obtain ⟨g, rfl, hgl, hg⟩ := HO.out (by omega)
          obtain ⟨x0, x1⟩ := hg j hltj
          obtain ⟨e, he⟩ : ∃ e, s.R[j] = e := ⟨_, rfl⟩
          have hmem : e ∈ s.R := by rw [← he]; exact List.getElem_mem hltj
          rw [he] at x0 x1
          have y0 := (hbj.cell (p := ⟨g, j * 2, none⟩) hgl).trans x0
          have y1 := (hbj.cell (p := ⟨g, j * 2 + 1, none⟩) hgl).trans x1
          obtain ⟨n0, n1, n2⟩ : 0 ≤ e.2.2.2 ∧ e.2.2.2 ≤ 1099511627776 ∧ (e.2.1 : Int) ≤ 9223372036854775807 := HH.out.mR _ hmem
          obtain ⟨ao, s0, s1, hrow⟩ := ring_form e (HH.out.eR e hmem) (HH.out.eM e hmem)
          have hin : ∀ q, q < e.2.1 → w.rowIs (e.2.2.1 q) 65 2 (mkT e.2.2.2) := HH.out.eJ _ hmem
          rw [s0] at y0
          rw [s1] at y1
          obtain ⟨eb, m, F, n⟩ := e
          simp only at y0 y1 hrow hin n0 n1 n2
          have HR := hide hrow
          have HIn := hide hin
          clear hg x0 x1 he hmem hrow hin s0 s1
          have hd1 : decide ((j : Int) < (s.R.length : Int)) = true := by simp; omega
          go_wp2_with fail
          go_loopw [8] (fun t wr => ∃ k : Nat, k ≤ m ∧ t = .int .i64 k ∧ wp.heap.size < wr.heap.size ∧ Below w.heap.size w wr ∧ wr.cell? ⟨wp.heap.size, 0, none⟩ = some (.slice ao m m) ∧ wr.cell? ⟨wp.heap.size, 1, none⟩ = some (.int .i64 n)) (fun t _ => m - (intOf t).toNat)
          case atStart =>
            refine ⟨0, by omega, rfl, by simp, by (repeat (any_goals (first | exact Below.refl _ _ | assumption | refine Below.drew ?_ | refine below_drewN ?_ _ | refine Below.setCell ?_ ?_ _ | refine Below.alloc ?_ ?_ _ | omega | (simp; done) | (simp; omega)))), ?_, ?_⟩
            all_goals go_simp
          case round =>
            obtain ⟨k, hk, rfl, hszr, hbr, b0, b1⟩ := hrel
            by_cases hkm : k < m
            · obtain ⟨b, rfl, hrow⟩ := HR.out (by omega)
              have r0 := (row_below hrow hbr hrow.lt).cell (i := k) hkm
              obtain ⟨q0, q1⟩ := mkT_row (m := 1) (row_below (HIn.out k hkm) hbr (HIn.out k hkm).lt) 0 (by omega)
              simp only [Nat.zero_mul, Nat.zero_add] at q0 q1
              clear hrow
              have hd2 : decide ((k : Int) < (m : Int)) = true := by simp; omega
              have g0 : (0 : Int) ≤ (k : Int) := by omega
              have g1 : (k : Int) < (m : Int) := by omega
              go_wp2_with fail
              go_region_held3 (fun w' => w'.cell? ⟨wp.heap.size, 1, none⟩ = some (.int .i64 n) ∧ w'.cell? ⟨F k, 0, none⟩ = some (.int .i64 (2199023255552 + n)) ∧ w'.cell? ⟨F k, 1, none⟩ = some (.int .i64 (-7))) (go_keep) ((go_at_call 38; refine (markSpot_any _ _ n0 n1).mono ?_; rintro e w' ⟨rfl, rfl⟩))
              go_wp2
              go_roundw
              case rel =>
                refine ⟨k + 1, by omega, by go_num, by simp; omega, by (repeat (any_goals (first | exact Below.refl _ _ | assumption | refine Below.drew ?_ | refine below_drewN ?_ _ | refine Below.setCell ?_ ?_ _ | refine Below.alloc ?_ ?_ _ | omega | (simp; done) | (simp; omega)))), ?_, ?_⟩
                all_goals go_simp
              case measure => simp [intOf]; omega
            · go_wp2
              go_roundw
              case rel => exact ⟨j + 1, by omega, by go_num, hbr⟩
              case measure => simp [intOf]; omega
        · have hd3 : decide ((j : Int) < (s.R.length : Int)) = false := by simp; omega
          go_wp2
          go_ret
          exact ⟨rfl, hbj⟩

theorem seg_form (e : Option Nat × Nat × Int) {w : World} (h1 : ∀ b, e.1 = some b → w.rowIs b 67 (e.2.1 * 9) (mkS e.2.2)) (h2 : e.1 = none → e.2.1 = 0) :
    ∃ ao, (seC e)[0]? = some (.slice ao e.2.1 e.2.1) ∧ (seC e)[1]? = some (.int .i64 e.2.2) ∧ (0 < e.2.1 → ∃ b, ao = some ⟨b, 0, none⟩ ∧ w.rowIs b 67 (e.2.1 * 9) (mkS e.2.2)) := by
  obtain ⟨eb, m, n⟩ := e
  cases eb with
  | none => exact ⟨none, rfl, rfl, fun h => by have := h2 rfl; simp at this h; omega⟩
  | some b => exact ⟨some ⟨b, 0, none⟩, rfl, rfl, fun _ => ⟨b, rfl, h1 b rfl⟩⟩

theorem byte_form (e : Option Nat × Nat × Int) {w : World} (h1 : ∀ b, e.1 = some b → rowIz w b 5 e.2.1 (mkB e.2.2)) (h2 : e.1 = none → e.2.1 = 0) :
    ∃ ao, (seC e)[0]? = some (.slice ao e.2.1 e.2.1) ∧ (seC e)[1]? = some (.int .i64 e.2.2) ∧ (0 < e.2.1 → ∃ b, ao = some ⟨b, 0, none⟩ ∧ rowIz w b 5 e.2.1 (mkB e.2.2)) := by
  obtain ⟨eb, m, n⟩ := e
  cases eb with
  | none => exact ⟨none, rfl, rfl, fun h => by have := h2 rfl; simp at this h; omega⟩
  | some b => exact ⟨some ⟨b, 0, none⟩, rfl, rfl, fun _ => ⟨b, rfl, h1 b rfl⟩⟩

set_option maxHeartbeats 1000000 in
theorem dry_any (h : Nat) (s : HS) (w : World) (H : HeldInv w h s) :
    Calls Tryd.prog 7 #[.pointer (some ⟨h, 2, none⟩)] w fun e w' => e = .returned (.bool true) ∧ Below w.heap.size w w' := by
  have HH := hide H
  have hlo := H.lo
  have hhi := H.hi
  obtain ⟨aS, cS, evS, hS⟩ := owns_form (fun e => rfl) H.oS
  have c5 : w.cell? ⟨h, 2 + 3, none⟩ = some (.slice aS s.S.length cS) := by rw [H.wd.cell (by omega), ← evS]; rfl
  obtain ⟨aB, cB, evB, hB⟩ := owns_form (fun e => rfl) H.oB
  have c8 : w.cell? ⟨h, 2 + 6, none⟩ = some (.slice aB s.B.length cB) := by rw [H.wd.cell (by omega), ← evB]; rfl
  have hhl := H.wd.lt
  have HP := hide hS
  have HPB := hide hB
  clear H evS hS evB hB
  have lS : (s.S.length : Int) ≤ 1099511627776 := by omega
  have lB : (s.B.length : Int) ≤ 1099511627776 := by omega
  go_enter Tryd.func7, Tryd.ntmps7
  go_wp2_with fail
  go_loopw [3] (fun t wr => ∃ i : Nat, i ≤ s.S.length ∧ t = .int .i64 i ∧ Below w.heap.size w wr) (fun t _ => s.S.length - (intOf t).toNat)
  case atStart => exact ⟨0, by omega, rfl, Below.refl _ _⟩
  case round =>
    obtain ⟨wo, rfl⟩ : ∃ wo, wo = wr := ⟨wr, rfl⟩
    obtain ⟨i, hi, rfl, hb⟩ := hrel
    have hsz := hb.size
    have d5 := (hb.cell (p := ⟨h, 2 + 3, none⟩) hhl).trans c5
    have d8 := (hb.cell (p := ⟨h, 2 + 6, none⟩) hhl).trans c8
    by_cases hlt : i < s.S.length
    · obtain ⟨g, rfl, hgl, hg⟩ := HP.out (by omega)
      obtain ⟨x0, x1⟩ := hg i hlt
      obtain ⟨e, he⟩ : ∃ e, s.S[i] = e := ⟨_, rfl⟩
      have hmem : e ∈ s.S := by rw [← he]; exact List.getElem_mem hlt
      rw [he] at x0 x1
      have y0 := (hb.cell (p := ⟨g, i * 2, none⟩) hgl).trans x0
      have y1 := (hb.cell (p := ⟨g, i * 2 + 1, none⟩) hgl).trans x1
      obtain ⟨n0, n1, n2⟩ : 0 ≤ e.2.2 ∧ e.2.2 ≤ 1099511627776 ∧ (e.2.1 : Int) ≤ 9223372036854775807 := HH.out.mS _ hmem
      obtain ⟨ao, s0, s1, hrow⟩ := seg_form e (HH.out.eS e hmem) (HH.out.eN e hmem)
      rw [s0] at y0
      rw [s1] at y1
      obtain ⟨eb, m, n⟩ := e
      simp only at y0 y1 hrow n0 n1 n2
      have HR := hide hrow
      clear hg x0 x1 he hmem hrow s0 s1
      have hd1 : decide ((i : Int) < (s.S.length : Int)) = true := by simp; omega
      go_wp2_with fail
      go_loopw [5] (fun t wr => ∃ k : Nat, k ≤ m ∧ t = .int .i64 k ∧ wo.heap.size < wr.heap.size ∧ Below w.heap.size w wr ∧ wr.cell? ⟨wo.heap.size, 0, none⟩ = some (.slice ao m m) ∧ wr.cell? ⟨wo.heap.size, 1, none⟩ = some (.int .i64 n)) (fun t _ => m - (intOf t).toNat)
      case atStart =>
        refine ⟨0, by omega, rfl, by simp, by (repeat (any_goals (first | exact Below.refl _ _ | assumption | refine Below.drew ?_ | refine below_drewN ?_ _ | refine Below.setCell ?_ ?_ _ | refine Below.alloc ?_ ?_ _ | omega | (simp; done) | (simp; omega)))), ?_, ?_⟩
        all_goals go_simp
      case round =>
        obtain ⟨k, hk, rfl, hszr, hbr, b0, b1⟩ := hrel
        by_cases hkm : k < m
        · obtain ⟨b, rfl, hrow⟩ := HR.out (by omega)
          obtain ⟨q0, q1, q2, q3, q4, q5, q6, q7, q8⟩ := mkS_row (row_below hrow hbr hrow.lt) k hkm
          have hbw : b < wr.heap.size := (row_below hrow hbr hrow.lt).lt
          clear hrow
          have hd2 : decide ((k : Int) < (m : Int)) = true := by simp; omega
          have g0 : (0 : Int) ≤ (k : Int) := by omega
          have g1 : (k : Int) < (m : Int) := by omega
          go_wp2_with fail
          go_region_held3 (fun w' => w'.cell? ⟨wo.heap.size, 0, none⟩ = some (.slice (some ⟨b, 0, none⟩) m m) ∧ w'.cell? ⟨wo.heap.size, 1, none⟩ = some (.int .i64 n) ∧ w'.cell? ⟨b, k * 9, none⟩ = some (.int .i64 9) ∧ w'.cell? ⟨b, k * 9 + 1, none⟩ = some (.int .i64 (2199023255552 + n)) ∧ w'.cell? ⟨b, k * 9 + 2, none⟩ = some (.int .i64 (-7)) ∧ w'.cell? ⟨b, k * 9 + 3, none⟩ = some (.int .i64 (2199023255552 + n)) ∧ w'.cell? ⟨b, k * 9 + 4, none⟩ = some (.int .i64 (-7)) ∧ w'.cell? ⟨b, k * 9 + 5, none⟩ = some (.int .i64 (2199023255552 + n)) ∧ w'.cell? ⟨b, k * 9 + 6, none⟩ = some (.int .i64 (-7)) ∧ w'.cell? ⟨b, k * 9 + 7, none⟩ = some (.int .i64 (2199023255552 + n)) ∧ w'.cell? ⟨b, k * 9 + 8, none⟩ = some (.int .i64 (-7))) (first | exact ⟨keep3 hszr b0, keep3 hszr b1, keep3 hbw q0, keep3 hbw q1, keep3 hbw q2, keep3 hbw q3, keep3 hbw q4, keep3 hbw q5, keep3 hbw q6, keep3 hbw q7, keep3 hbw q8⟩ | go_keep) ((go_at_call 23; refine (markSegment_exact _ _ n0 n1).mono ?_; rintro e w' ⟨rfl, rfl⟩))
          go_wp2
          go_roundw
          case rel =>
            refine ⟨k + 1, by omega, by go_num, by simp; omega, by (repeat (any_goals (first | exact Below.refl _ _ | assumption | refine Below.drew ?_ | refine below_drewN ?_ _ | refine Below.setCell ?_ ?_ _ | refine Below.alloc ?_ ?_ _ | omega | (simp; done) | (simp; omega)))), ?_, ?_⟩
            all_goals go_simp
          case measure => simp [intOf]; omega
        · go_wp2
          go_roundw
          case rel => exact ⟨i + 1, by omega, by go_num, hbr⟩
          case measure => simp [intOf]; omega
    · have hd0 : decide ((i : Int) < (s.S.length : Int)) = false := by simp; omega
      go_wp2_with fail
      go_loopw [6] (fun t wr => ∃ j : Nat, j ≤ s.B.length ∧ t = .int .i64 j ∧ Below w.heap.size w wr) (fun t _ => s.B.length - (intOf t).toNat)
      case atStart => exact ⟨0, by omega, rfl, hb⟩
      case round =>
        obtain ⟨wp, rfl⟩ : ∃ wp, wp = wr := ⟨wr, rfl⟩
        obtain ⟨j, hj, rfl, hbj⟩ := hrel
        have hszj := hbj.size
        have d8j := (hbj.cell (p := ⟨h, 2 + 6, none⟩) hhl).trans c8
        by_cases hltj : j < s.B.length
        · obtain ⟨g, rfl, hgl, hg⟩ := HPB.out (by omega)
          obtain ⟨x0, x1⟩ := hg j hltj
          obtain ⟨e, he⟩ : ∃ e, s.B[j] = e := ⟨_, rfl⟩
          have hmem : e ∈ s.B := by rw [← he]; exact List.getElem_mem hltj
          rw [he] at x0 x1
          have y0 := (hbj.cell (p := ⟨g, j * 2, none⟩) hgl).trans x0
          have y1 := (hbj.cell (p := ⟨g, j * 2 + 1, none⟩) hgl).trans x1
          obtain ⟨n0, n1, n2⟩ : 0 ≤ e.2.2 ∧ e.2.2 ≤ 1099511627776 ∧ (e.2.1 : Int) ≤ 9223372036854775807 := HH.out.mB _ hmem
          obtain ⟨ao, s0, s1, hrow⟩ := byte_form e (HH.out.eB e hmem) (HH.out.eV e hmem)
          rw [s0] at y0
          rw [s1] at y1
          obtain ⟨eb, m, n⟩ := e
          simp only at y0 y1 hrow n0 n1 n2
          have HR := hide hrow
          clear hg x0 x1 he hmem hrow s0 s1
          have hd1 : decide ((j : Int) < (s.B.length : Int)) = true := by simp; omega
          go_wp2_with fail
          go_loopw [8] (fun t wr => ∃ k : Nat, k ≤ m ∧ t = .int .i64 k ∧ wp.heap.size < wr.heap.size ∧ Below w.heap.size w wr ∧ wr.cell? ⟨wp.heap.size, 0, none⟩ = some (.slice ao m m) ∧ wr.cell? ⟨wp.heap.size, 1, none⟩ = some (.int .i64 n)) (fun t _ => m - (intOf t).toNat)
          case atStart =>
            refine ⟨0, by omega, rfl, by simp, by (repeat (any_goals (first | exact Below.refl _ _ | assumption | refine Below.drew ?_ | refine below_drewN ?_ _ | refine Below.setCell ?_ ?_ _ | refine Below.alloc ?_ ?_ _ | omega | (simp; done) | (simp; omega)))), ?_, ?_⟩
            all_goals go_simp
          case round =>
            obtain ⟨k, hk, rfl, hszr, hbr, b0, b1⟩ := hrel
            by_cases hkm : k < m
            · obtain ⟨b, rfl, hrow⟩ := HR.out (by omega)
              have q0 := (rowz_below hrow hbr hrow.lt).cell (i := k) hkm
              clear hrow
              have hd2 : decide ((k : Int) < (m : Int)) = true := by simp; omega
              have g0 : (0 : Int) ≤ (k : Int) := by omega
              have g1 : (k : Int) < (m : Int) := by omega
              obtain ⟨MB, hMB⟩ : ∃ MB, mkB n k = .int .u8 MB := ⟨_, rfl⟩
              rw [hMB] at q0
              go_wp2_with fail
              go_region_held3 (fun w' => w'.cell? ⟨wp.heap.size, 0, none⟩ = some (.slice (some ⟨b, 0, none⟩) m m) ∧ w'.cell? ⟨wp.heap.size, 1, none⟩ = some (.int .i64 n) ∧ w'.cell? ⟨b, k, none⟩ = some (.int .u8 MB)) (go_keep) ((go_at_call 24; refine (markByte_any _ _ _ n0 n1).mono ?_; rintro e w' ⟨rfl, rfl⟩; rw [hMB]))
              go_wp2
              go_roundw
              case rel =>
                refine ⟨k + 1, by omega, by go_num, by simp; omega, by (repeat (any_goals (first | exact Below.refl _ _ | assumption | refine Below.drew ?_ | refine below_drewN ?_ _ | refine Below.setCell ?_ ?_ _ | refine Below.alloc ?_ ?_ _ | omega | (simp; done) | (simp; omega)))), ?_, ?_⟩
                all_goals go_simp
              case measure => simp [intOf]; omega
            · go_wp2
              go_roundw
              case rel => exact ⟨j + 1, by omega, by go_num, hbr⟩
              case measure => simp [intOf]; omega
        · have hd3 : decide ((j : Int) < (s.B.length : Int)) = false := by simp; omega
          go_wp2_with fail
          have H1 := hide (HH.out.below hbj)
          refine (points_any h s _ H1.out).mono ?_
          rintro e w1 ⟨rfl, hb1⟩
          have hb2 : Below w.heap.size w w1 := hbj.trans (hb1.mono hszj)
          have H2 := hide (H1.out.below hb1)
          clear hb1
          go_wp2_with fail
          refine (heldPlaces_any h s _ H2.out).mono ?_
          rintro e w2 ⟨rfl, hb3⟩
          have hs2 := hb2.size
          have hb4 : Below w.heap.size w w2 := hb2.trans (hb3.mono hs2)
          clear hb3
          go_wp2
          go_ret
          exact ⟨rfl, hb4⟩
end Go.Proofs.YtkhcjkmifddlbabDoor
