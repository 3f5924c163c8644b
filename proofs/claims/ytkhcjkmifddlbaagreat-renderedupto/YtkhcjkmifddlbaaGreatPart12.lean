/- Joined: DryB, Start, TrcW, RenW, Read, Open, OpenK. -/
import Derived.Test.YtkhcjkmifddlbaaGreatPart11
import Derived.Test.YtkhcjkmifddlbaaGreatPart2
import Derived.Test.YtkhcjkmifddlbaaGreatPart10
import Derived.ProofKit
import Derived.Below
import Derived.Test.YtkhcjkmifddlbaaGreatRows
import Derived.Deep.Slices
import Derived.Carry
import Derived.OpenShut
/- DryB -/
namespace Go.Proofs.YtkhcjkmifddlbaaGreat
open Go.RowKit Go.Deep

set_option maxHeartbeats 400000 in
theorem markSegment_exact (n : Int) (w : World) (h0 : 0 ≤ n) (h1 : n ≤ 1099511627776) :
    Calls Tryz.prog 14 #[.int .i64 n] w fun e w' => e = .returned (.agg #[.int .i64 9, .int .i64 (2199023255552 + n), .int .i64 (-7), .int .i64 (2199023255552 + n), .int .i64 (-7), .int .i64 (2199023255552 + n), .int .i64 (-7), .int .i64 (2199023255552 + n), .int .i64 (-7)]) ∧ w' = ((w.alloc (.cells #[.int .i64 9, .int .i64 (2199023255552 + n), .int .i64 (-7), .int .i64 (2199023255552 + n), .int .i64 (-7), .int .i64 (2199023255552 + n), .int .i64 (-7), .int .i64 (2199023255552 + n), .int .i64 (-7)] 61)).alloc (.cells #[.int .i64 (2199023255552 + n), .int .i64 (-7)] 59)).alloc (.cells #[.int .i64 (2199023255552 + n), .int .i64 (-7)] 59) := by
  go_enter Tryz.func14, Tryz.ntmps14
  go_wp2_with fail
  refine (markSpot_any _ _ h0 h1).mono ?_
  rintro e w1 ⟨rfl, rfl⟩
  go_wp2
  exact bodyPost_ret (v := .agg #[.int .i64 9, .int .i64 (2199023255552 + n), .int .i64 (-7), .int .i64 (2199023255552 + n), .int .i64 (-7), .int .i64 (2199023255552 + n), .int .i64 (-7), .int .i64 (2199023255552 + n), .int .i64 (-7)]) (by simp [results, Tryz.results14, go_sem]) rfl ⟨rfl, rfl⟩

theorem keep3 {w : World} {o1 o2 o3 : Obj} {b o : Nat} {v : Value} (hb : b < w.heap.size) (h : w.cell? ⟨b, o, none⟩ = some v) : (((w.alloc o1).alloc o2).alloc o3).drew.cell? ⟨b, o, none⟩ = some v := by
  have e : Below w.heap.size w (((w.alloc o1).alloc o2).alloc o3).drew := by (repeat (any_goals (first | exact Below.refl _ _ | assumption | refine Below.drew ?_ | refine below_drewN ?_ _ | refine Below.setCell ?_ ?_ _ | refine Below.alloc ?_ ?_ _ | omega | (simp; done) | (simp; omega))))
  exact (e.cell (p := ⟨b, o, none⟩) hb).trans h

theorem mkS_row {w : World} {b m : Nat} {t : TypeId} {n : Int} (h : w.rowIs b t (m * 9) (mkS n)) (k : Nat) (hk : k < m) :
    w.cell? ⟨b, k * 9, none⟩ = some (.int .i64 9) ∧ w.cell? ⟨b, k * 9 + 1, none⟩ = some (.int .i64 (2199023255552 + n)) ∧ w.cell? ⟨b, k * 9 + 2, none⟩ = some (.int .i64 (-7)) ∧ w.cell? ⟨b, k * 9 + 3, none⟩ = some (.int .i64 (2199023255552 + n)) ∧ w.cell? ⟨b, k * 9 + 4, none⟩ = some (.int .i64 (-7)) ∧ w.cell? ⟨b, k * 9 + 5, none⟩ = some (.int .i64 (2199023255552 + n)) ∧ w.cell? ⟨b, k * 9 + 6, none⟩ = some (.int .i64 (-7)) ∧ w.cell? ⟨b, k * 9 + 7, none⟩ = some (.int .i64 (2199023255552 + n)) ∧ w.cell? ⟨b, k * 9 + 8, none⟩ = some (.int .i64 (-7)) := by
  refine ⟨?_, ?_, ?_, ?_, ?_, ?_, ?_, ?_, ?_⟩
  · rw [h.cell (i := k * 9) (by omega)]; unfold mkS; rw [if_pos (by omega)]
  · rw [h.cell (i := k * 9 + 1) (by omega)]; unfold mkS; rw [if_neg (by omega), if_pos (by omega)]
  · rw [h.cell (i := k * 9 + 2) (by omega)]; unfold mkS; rw [if_neg (by omega), if_neg (by omega)]
  · rw [h.cell (i := k * 9 + 3) (by omega)]; unfold mkS; rw [if_neg (by omega), if_pos (by omega)]
  · rw [h.cell (i := k * 9 + 4) (by omega)]; unfold mkS; rw [if_neg (by omega), if_neg (by omega)]
  · rw [h.cell (i := k * 9 + 5) (by omega)]; unfold mkS; rw [if_neg (by omega), if_pos (by omega)]
  · rw [h.cell (i := k * 9 + 6) (by omega)]; unfold mkS; rw [if_neg (by omega), if_neg (by omega)]
  · rw [h.cell (i := k * 9 + 7) (by omega)]; unfold mkS; rw [if_neg (by omega), if_pos (by omega)]
  · rw [h.cell (i := k * 9 + 8) (by omega)]; unfold mkS; rw [if_neg (by omega), if_neg (by omega)]

theorem mkT_row {w : World} {b m : Nat} {t : TypeId} {n : Int} (h : w.rowIs b t (m * 2) (mkT n)) (k : Nat) (hk : k < m) :
    w.cell? ⟨b, k * 2, none⟩ = some (.int .i64 (2199023255552 + n)) ∧ w.cell? ⟨b, k * 2 + 1, none⟩ = some (.int .i64 (-7)) := by
  refine ⟨?_, ?_⟩
  · rw [h.cell (i := k * 2) (by omega)]; unfold mkT; rw [if_pos (by omega)]
  · rw [h.cell (i := k * 2 + 1) (by omega)]; unfold mkT; rw [if_neg (by omega)]
theorem spot_form (e : Option Nat × Nat × Int) {w : World} (h1 : ∀ b, e.1 = some b → w.rowIs b 59 (e.2.1 * 2) (mkT e.2.2)) (h2 : e.1 = none → e.2.1 = 0) :
    ∃ ao, (seC e)[0]? = some (.slice ao e.2.1 e.2.1) ∧ (seC e)[1]? = some (.int .i64 e.2.2) ∧ (0 < e.2.1 → ∃ b, ao = some ⟨b, 0, none⟩ ∧ w.rowIs b 59 (e.2.1 * 2) (mkT e.2.2)) := by
  obtain ⟨eb, m, n⟩ := e
  cases eb with
  | none => exact ⟨none, rfl, rfl, fun h => by have := h2 rfl; simp at this h; omega⟩
  | some b => exact ⟨some ⟨b, 0, none⟩, rfl, rfl, fun _ => ⟨b, rfl, h1 b rfl⟩⟩
theorem ring_form (e : Option Nat × Nat × (Nat → Nat) × Int) {w : World} (h1 : ∀ b, e.1 = some b → w.rowIs b 84 e.2.1 (fun i => .slice (some ⟨e.2.2.1 i, 0, none⟩) 1 1)) (h2 : e.1 = none → e.2.1 = 0) :
    ∃ ao, (reC e)[0]? = some (.slice ao e.2.1 e.2.1) ∧ (reC e)[1]? = some (.int .i64 e.2.2.2) ∧ (0 < e.2.1 → ∃ b, ao = some ⟨b, 0, none⟩ ∧ w.rowIs b 84 e.2.1 (fun i => .slice (some ⟨e.2.2.1 i, 0, none⟩) 1 1)) := by
  obtain ⟨eb, m, F, n⟩ := e
  cases eb with
  | none => exact ⟨none, rfl, rfl, fun h => by have := h2 rfl; simp at this h; omega⟩
  | some b => exact ⟨some ⟨b, 0, none⟩, rfl, rfl, fun _ => ⟨b, rfl, h1 b rfl⟩⟩

set_option maxHeartbeats 1000000 in
theorem heldPlaces_any (h : Nat) (s : HS) (w : World) (H : HeldInv w h s) :
    Calls Tryz.prog 17 #[.pointer (some ⟨h, 2, none⟩)] w fun e w' => e = .returned (.bool true) ∧ Below w.heap.size w w' := by
  have HH := hide H
  have hlo := H.lo
  have hhi := H.hi
  obtain ⟨aP, cP, evP, hP⟩ := owns_form (fun e => rfl) H.oT
  obtain ⟨aO, cO, evO, hO⟩ := owns_form (fun e => rfl) H.oR
  have c3 : w.cell? ⟨h, 2 + 4, none⟩ = some (.slice aP s.T.length cP) := by rw [H.wd.cell (by omega), ← evP]; rfl
  have c4 : w.cell? ⟨h, 2 + 5, none⟩ = some (.slice aO s.R.length cO) := by rw [H.wd.cell (by omega), ← evO]; rfl
  have hhl := H.wd.lt
  have HP := hide hP
  have HO := hide hO
  clear H evP evO hP hO
  have lP : (s.T.length : Int) ≤ 1099511627776 := by omega
  have lO : (s.R.length : Int) ≤ 1099511627776 := by omega
  go_enter Tryz.func17, Tryz.ntmps17
  go_wp2_with fail
  go_loopw [3] (fun t wr => ∃ i : Nat, i ≤ s.T.length ∧ t = .int .i64 i ∧ Below w.heap.size w wr) (fun t _ => s.T.length - (intOf t).toNat)
  case atStart => exact ⟨0, by omega, rfl, Below.refl _ _⟩
  case round =>
    obtain ⟨wo, rfl⟩ : ∃ wo, wo = wr := ⟨wr, rfl⟩
    obtain ⟨i, hi, rfl, hb⟩ := hrel
    have hsz := hb.size
    have d3 := (hb.cell (p := ⟨h, 2 + 4, none⟩) hhl).trans c3
    by_cases hlt : i < s.T.length
    · obtain ⟨g, rfl, hgl, hg⟩ := HP.out (by omega)
      obtain ⟨x0, x1⟩ := hg i hlt
      obtain ⟨e, he⟩ : ∃ e, s.T[i] = e := ⟨_, rfl⟩
      have hmem : e ∈ s.T := by rw [← he]; exact List.getElem_mem hlt
      rw [he] at x0 x1
      have y0 := (hb.cell (p := ⟨g, i * 2, none⟩) hgl).trans x0
      have y1 := (hb.cell (p := ⟨g, i * 2 + 1, none⟩) hgl).trans x1
      obtain ⟨n0, n1, n2⟩ : 0 ≤ e.2.2 ∧ e.2.2 ≤ 1099511627776 ∧ (e.2.1 : Int) ≤ 9223372036854775807 := HH.out.mT _ hmem
      obtain ⟨ao, s0, s1, hrow⟩ := spot_form e (HH.out.eT e hmem) (HH.out.eU e hmem)
      rw [s0] at y0
      rw [s1] at y1
      obtain ⟨eb, m, n⟩ := e
      simp only at y0 y1 hrow n0 n1 n2
      have HR := hide hrow
      clear hg x0 x1 he hmem hrow s0 s1
      have hd1 : decide ((i : Int) < (s.T.length : Int)) = true := by simp; omega
      go_wp2_with fail
      go_loopw [5] (fun t wr => ∃ k : Nat, k ≤ m ∧ t = .int .i64 k ∧ wo.heap.size < wr.heap.size ∧ Below w.heap.size w wr ∧ wr.cell? ⟨wo.heap.size, 0, none⟩ = some (.slice ao m m) ∧ wr.cell? ⟨wo.heap.size, 1, none⟩ = some (.int .i64 n)) (fun t _ => m - (intOf t).toNat)
      case atStart =>
        refine ⟨0, by omega, rfl, by simp, by (repeat (any_goals (first | exact Below.refl _ _ | assumption | refine Below.drew ?_ | refine below_drewN ?_ _ | refine Below.setCell ?_ ?_ _ | refine Below.alloc ?_ ?_ _ | omega | (simp; done) | (simp; omega)))), ?_, ?_⟩
        all_goals go_simp
      case round =>
        obtain ⟨k, hk, rfl, hszr, hbr, b0, b1⟩ := hrel
        by_cases hkm : k < m
        · obtain ⟨b, rfl, hrow⟩ := HR.out (by omega)
          obtain ⟨q0, q1⟩ := mkT_row (row_below hrow hbr hrow.lt) k hkm
          have hbw : b < wr.heap.size := (row_below hrow hbr hrow.lt).lt
          clear hrow
          have hd2 : decide ((k : Int) < (m : Int)) = true := by simp; omega
          have g0 : (0 : Int) ≤ (k : Int) := by omega
          have g1 : (k : Int) < (m : Int) := by omega
          go_wp2_with fail
          go_region_held3 (fun w' => w'.cell? ⟨wo.heap.size, 0, none⟩ = some (.slice (some ⟨b, 0, none⟩) m m) ∧ w'.cell? ⟨wo.heap.size, 1, none⟩ = some (.int .i64 n) ∧ w'.cell? ⟨b, k * 2, none⟩ = some (.int .i64 (2199023255552 + n)) ∧ w'.cell? ⟨b, k * 2 + 1, none⟩ = some (.int .i64 (-7))) (go_keep) ((go_at_call 27; refine (markSpot_any _ _ n0 n1).mono ?_; rintro e w' ⟨rfl, rfl⟩))
          go_wp2
          go_roundw
          case rel =>
            refine ⟨k + 1, by omega, by go_num, by simp; omega, by (repeat (any_goals (first | exact Below.refl _ _ | assumption | refine Below.drew ?_ | refine below_drewN ?_ _ | refine Below.setCell ?_ ?_ _ | refine Below.alloc ?_ ?_ _ | omega | (simp; done) | (simp; omega)))), ?_, ?_⟩
            all_goals go_simp
          case measure => simp [intOf]; omega
        · go_wp2
          go_roundw
          case rel => exact ⟨i + 1, by omega, by go_num, hbr⟩
          case measure => simp [intOf]; omega
    · have hd0 : decide ((i : Int) < (s.T.length : Int)) = false := by simp; omega
      go_wp2_with fail
      go_loopw [6] (fun t wr => ∃ j : Nat, j ≤ s.R.length ∧ t = .int .i64 j ∧ Below w.heap.size w wr) (fun t _ => s.R.length - (intOf t).toNat)
      case atStart => exact ⟨0, by omega, rfl, hb⟩
      case round =>
        obtain ⟨wp, rfl⟩ : ∃ wp, wp = wr := ⟨wr, rfl⟩
        obtain ⟨j, hj, rfl, hbj⟩ := hrel
        have hszj := hbj.size
        have d4 := (hbj.cell (p := ⟨h, 2 + 5, none⟩) hhl).trans c4
        by_cases hltj : j < s.R.length
        · obtain ⟨g, rfl, hgl, hg⟩ := HO.out (by omega)
          obtain ⟨x0, x1⟩ := hg j hltj
          obtain ⟨e, he⟩ : ∃ e, s.R[j] = e := ⟨_, rfl⟩
          have hmem : e ∈ s.R := by rw [← he]; exact List.getElem_mem hltj
          rw [he] at x0 x1
          have y0 := (hbj.cell (p := ⟨g, j * 2, none⟩) hgl).trans x0
          have y1 := (hbj.cell (p := ⟨g, j * 2 + 1, none⟩) hgl).trans x1
          obtain ⟨n0, n1, n2⟩ : 0 ≤ e.2.2.2 ∧ e.2.2.2 ≤ 1099511627776 ∧ (e.2.1 : Int) ≤ 9223372036854775807 := HH.out.mR _ hmem
          obtain ⟨ao, s0, s1, hrow⟩ := ring_form e (HH.out.eR e hmem) (HH.out.eM e hmem)
          have hin : ∀ q, q < e.2.1 → w.rowIs (e.2.2.1 q) 59 2 (mkT e.2.2.2) := HH.out.eJ _ hmem
          rw [s0] at y0
          rw [s1] at y1
          obtain ⟨eb, m, F, n⟩ := e
          simp only at y0 y1 hrow hin n0 n1 n2
          have HR := hide hrow
          have HIn := hide hin
          clear hg x0 x1 he hmem hrow hin s0 s1
          have hd1 : decide ((j : Int) < (s.R.length : Int)) = true := by simp; omega
          go_wp2_with fail
          go_loopw [8] (fun t wr => ∃ k : Nat, k ≤ m ∧ t = .int .i64 k ∧ wp.heap.size < wr.heap.size ∧ Below w.heap.size w wr ∧ wr.cell? ⟨wp.heap.size, 0, none⟩ = some (.slice ao m m) ∧ wr.cell? ⟨wp.heap.size, 1, none⟩ = some (.int .i64 n)) (fun t _ => m - (intOf t).toNat)
          case atStart =>
            refine ⟨0, by omega, rfl, by simp, by (repeat (any_goals (first | exact Below.refl _ _ | assumption | refine Below.drew ?_ | refine below_drewN ?_ _ | refine Below.setCell ?_ ?_ _ | refine Below.alloc ?_ ?_ _ | omega | (simp; done) | (simp; omega)))), ?_, ?_⟩
            all_goals go_simp
          case round =>
            obtain ⟨k, hk, rfl, hszr, hbr, b0, b1⟩ := hrel
            by_cases hkm : k < m
            · obtain ⟨b, rfl, hrow⟩ := HR.out (by omega)
              have r0 := (row_below hrow hbr hrow.lt).cell (i := k) hkm
              obtain ⟨q0, q1⟩ := mkT_row (m := 1) (row_below (HIn.out k hkm) hbr (HIn.out k hkm).lt) 0 (by omega)
              simp only [Nat.zero_mul, Nat.zero_add] at q0 q1
              clear hrow
              have hd2 : decide ((k : Int) < (m : Int)) = true := by simp; omega
              have g0 : (0 : Int) ≤ (k : Int) := by omega
              have g1 : (k : Int) < (m : Int) := by omega
              go_wp2_with fail
              go_region_held3 (fun w' => w'.cell? ⟨wp.heap.size, 1, none⟩ = some (.int .i64 n) ∧ w'.cell? ⟨F k, 0, none⟩ = some (.int .i64 (2199023255552 + n)) ∧ w'.cell? ⟨F k, 1, none⟩ = some (.int .i64 (-7))) (go_keep) ((go_at_call 27; refine (markSpot_any _ _ n0 n1).mono ?_; rintro e w' ⟨rfl, rfl⟩))
              go_wp2
              go_roundw
              case rel =>
                refine ⟨k + 1, by omega, by go_num, by simp; omega, by (repeat (any_goals (first | exact Below.refl _ _ | assumption | refine Below.drew ?_ | refine below_drewN ?_ _ | refine Below.setCell ?_ ?_ _ | refine Below.alloc ?_ ?_ _ | omega | (simp; done) | (simp; omega)))), ?_, ?_⟩
                all_goals go_simp
              case measure => simp [intOf]; omega
            · go_wp2
              go_roundw
              case rel => exact ⟨j + 1, by omega, by go_num, hbr⟩
              case measure => simp [intOf]; omega
        · have hd3 : decide ((j : Int) < (s.R.length : Int)) = false := by simp; omega
          go_wp2
          go_ret
          exact ⟨rfl, hbj⟩

theorem seg_form (e : Option Nat × Nat × Int) {w : World} (h1 : ∀ b, e.1 = some b → w.rowIs b 61 (e.2.1 * 9) (mkS e.2.2)) (h2 : e.1 = none → e.2.1 = 0) :
    ∃ ao, (seC e)[0]? = some (.slice ao e.2.1 e.2.1) ∧ (seC e)[1]? = some (.int .i64 e.2.2) ∧ (0 < e.2.1 → ∃ b, ao = some ⟨b, 0, none⟩ ∧ w.rowIs b 61 (e.2.1 * 9) (mkS e.2.2)) := by
  obtain ⟨eb, m, n⟩ := e
  cases eb with
  | none => exact ⟨none, rfl, rfl, fun h => by have := h2 rfl; simp at this h; omega⟩
  | some b => exact ⟨some ⟨b, 0, none⟩, rfl, rfl, fun _ => ⟨b, rfl, h1 b rfl⟩⟩

theorem byte_form (e : Option Nat × Nat × Int) {w : World} (h1 : ∀ b, e.1 = some b → w.rowIs b 5 e.2.1 (mkB e.2.2)) (h2 : e.1 = none → e.2.1 = 0) :
    ∃ ao, (seC e)[0]? = some (.slice ao e.2.1 e.2.1) ∧ (seC e)[1]? = some (.int .i64 e.2.2) ∧ (0 < e.2.1 → ∃ b, ao = some ⟨b, 0, none⟩ ∧ w.rowIs b 5 e.2.1 (mkB e.2.2)) := by
  obtain ⟨eb, m, n⟩ := e
  cases eb with
  | none => exact ⟨none, rfl, rfl, fun h => by have := h2 rfl; simp at this h; omega⟩
  | some b => exact ⟨some ⟨b, 0, none⟩, rfl, rfl, fun _ => ⟨b, rfl, h1 b rfl⟩⟩

set_option maxHeartbeats 1000000 in
theorem dry_any (h : Nat) (s : HS) (w : World) (H : HeldInv w h s) :
    Calls Tryz.prog 5 #[.pointer (some ⟨h, 2, none⟩)] w fun e w' => e = .returned (.bool true) ∧ Below w.heap.size w w' := by
  have HH := hide H
  have hlo := H.lo
  have hhi := H.hi
  obtain ⟨aS, cS, evS, hS⟩ := owns_form (fun e => rfl) H.oS
  have c5 : w.cell? ⟨h, 2 + 3, none⟩ = some (.slice aS s.S.length cS) := by rw [H.wd.cell (by omega), ← evS]; rfl
  obtain ⟨aB, cB, evB, hB⟩ := owns_form (fun e => rfl) H.oB
  have c8 : w.cell? ⟨h, 2 + 6, none⟩ = some (.slice aB s.B.length cB) := by rw [H.wd.cell (by omega), ← evB]; rfl
  have hhl := H.wd.lt
  have HP := hide hS
  have HPB := hide hB
  clear H evS hS evB hB
  have lS : (s.S.length : Int) ≤ 1099511627776 := by omega
  have lB : (s.B.length : Int) ≤ 1099511627776 := by omega
  go_enter Tryz.func5, Tryz.ntmps5
  go_wp2_with fail
  go_loopw [3] (fun t wr => ∃ i : Nat, i ≤ s.S.length ∧ t = .int .i64 i ∧ Below w.heap.size w wr) (fun t _ => s.S.length - (intOf t).toNat)
  case atStart => exact ⟨0, by omega, rfl, Below.refl _ _⟩
  case round =>
    obtain ⟨wo, rfl⟩ : ∃ wo, wo = wr := ⟨wr, rfl⟩
    obtain ⟨i, hi, rfl, hb⟩ := hrel
    have hsz := hb.size
    have d5 := (hb.cell (p := ⟨h, 2 + 3, none⟩) hhl).trans c5
    have d8 := (hb.cell (p := ⟨h, 2 + 6, none⟩) hhl).trans c8
    by_cases hlt : i < s.S.length
    · obtain ⟨g, rfl, hgl, hg⟩ := HP.out (by omega)
      obtain ⟨x0, x1⟩ := hg i hlt
      obtain ⟨e, he⟩ : ∃ e, s.S[i] = e := ⟨_, rfl⟩
      have hmem : e ∈ s.S := by rw [← he]; exact List.getElem_mem hlt
      rw [he] at x0 x1
      have y0 := (hb.cell (p := ⟨g, i * 2, none⟩) hgl).trans x0
      have y1 := (hb.cell (p := ⟨g, i * 2 + 1, none⟩) hgl).trans x1
      obtain ⟨n0, n1, n2⟩ : 0 ≤ e.2.2 ∧ e.2.2 ≤ 1099511627776 ∧ (e.2.1 : Int) ≤ 9223372036854775807 := HH.out.mS _ hmem
      obtain ⟨ao, s0, s1, hrow⟩ := seg_form e (HH.out.eS e hmem) (HH.out.eN e hmem)
      rw [s0] at y0
      rw [s1] at y1
      obtain ⟨eb, m, n⟩ := e
      simp only at y0 y1 hrow n0 n1 n2
      have HR := hide hrow
      clear hg x0 x1 he hmem hrow s0 s1
      have hd1 : decide ((i : Int) < (s.S.length : Int)) = true := by simp; omega
      go_wp2_with fail
      go_loopw [5] (fun t wr => ∃ k : Nat, k ≤ m ∧ t = .int .i64 k ∧ wo.heap.size < wr.heap.size ∧ Below w.heap.size w wr ∧ wr.cell? ⟨wo.heap.size, 0, none⟩ = some (.slice ao m m) ∧ wr.cell? ⟨wo.heap.size, 1, none⟩ = some (.int .i64 n)) (fun t _ => m - (intOf t).toNat)
      case atStart =>
        refine ⟨0, by omega, rfl, by simp, by (repeat (any_goals (first | exact Below.refl _ _ | assumption | refine Below.drew ?_ | refine below_drewN ?_ _ | refine Below.setCell ?_ ?_ _ | refine Below.alloc ?_ ?_ _ | omega | (simp; done) | (simp; omega)))), ?_, ?_⟩
        all_goals go_simp
      case round =>
        obtain ⟨k, hk, rfl, hszr, hbr, b0, b1⟩ := hrel
        by_cases hkm : k < m
        · obtain ⟨b, rfl, hrow⟩ := HR.out (by omega)
          obtain ⟨q0, q1, q2, q3, q4, q5, q6, q7, q8⟩ := mkS_row (row_below hrow hbr hrow.lt) k hkm
          have hbw : b < wr.heap.size := (row_below hrow hbr hrow.lt).lt
          clear hrow
          have hd2 : decide ((k : Int) < (m : Int)) = true := by simp; omega
          have g0 : (0 : Int) ≤ (k : Int) := by omega
          have g1 : (k : Int) < (m : Int) := by omega
          go_wp2_with fail
          go_region_held3 (fun w' => w'.cell? ⟨wo.heap.size, 0, none⟩ = some (.slice (some ⟨b, 0, none⟩) m m) ∧ w'.cell? ⟨wo.heap.size, 1, none⟩ = some (.int .i64 n) ∧ w'.cell? ⟨b, k * 9, none⟩ = some (.int .i64 9) ∧ w'.cell? ⟨b, k * 9 + 1, none⟩ = some (.int .i64 (2199023255552 + n)) ∧ w'.cell? ⟨b, k * 9 + 2, none⟩ = some (.int .i64 (-7)) ∧ w'.cell? ⟨b, k * 9 + 3, none⟩ = some (.int .i64 (2199023255552 + n)) ∧ w'.cell? ⟨b, k * 9 + 4, none⟩ = some (.int .i64 (-7)) ∧ w'.cell? ⟨b, k * 9 + 5, none⟩ = some (.int .i64 (2199023255552 + n)) ∧ w'.cell? ⟨b, k * 9 + 6, none⟩ = some (.int .i64 (-7)) ∧ w'.cell? ⟨b, k * 9 + 7, none⟩ = some (.int .i64 (2199023255552 + n)) ∧ w'.cell? ⟨b, k * 9 + 8, none⟩ = some (.int .i64 (-7))) (first | exact ⟨keep3 hszr b0, keep3 hszr b1, keep3 hbw q0, keep3 hbw q1, keep3 hbw q2, keep3 hbw q3, keep3 hbw q4, keep3 hbw q5, keep3 hbw q6, keep3 hbw q7, keep3 hbw q8⟩ | go_keep) ((go_at_call 14; refine (markSegment_exact _ _ n0 n1).mono ?_; rintro e w' ⟨rfl, rfl⟩))
          go_wp2
          go_roundw
          case rel =>
            refine ⟨k + 1, by omega, by go_num, by simp; omega, by (repeat (any_goals (first | exact Below.refl _ _ | assumption | refine Below.drew ?_ | refine below_drewN ?_ _ | refine Below.setCell ?_ ?_ _ | refine Below.alloc ?_ ?_ _ | omega | (simp; done) | (simp; omega)))), ?_, ?_⟩
            all_goals go_simp
          case measure => simp [intOf]; omega
        · go_wp2
          go_roundw
          case rel => exact ⟨i + 1, by omega, by go_num, hbr⟩
          case measure => simp [intOf]; omega
    · have hd0 : decide ((i : Int) < (s.S.length : Int)) = false := by simp; omega
      go_wp2_with fail
      go_loopw [6] (fun t wr => ∃ j : Nat, j ≤ s.B.length ∧ t = .int .i64 j ∧ Below w.heap.size w wr) (fun t _ => s.B.length - (intOf t).toNat)
      case atStart => exact ⟨0, by omega, rfl, hb⟩
      case round =>
        obtain ⟨wp, rfl⟩ : ∃ wp, wp = wr := ⟨wr, rfl⟩
        obtain ⟨j, hj, rfl, hbj⟩ := hrel
        have hszj := hbj.size
        have d8j := (hbj.cell (p := ⟨h, 2 + 6, none⟩) hhl).trans c8
        by_cases hltj : j < s.B.length
        · obtain ⟨g, rfl, hgl, hg⟩ := HPB.out (by omega)
          obtain ⟨x0, x1⟩ := hg j hltj
          obtain ⟨e, he⟩ : ∃ e, s.B[j] = e := ⟨_, rfl⟩
          have hmem : e ∈ s.B := by rw [← he]; exact List.getElem_mem hltj
          rw [he] at x0 x1
          have y0 := (hbj.cell (p := ⟨g, j * 2, none⟩) hgl).trans x0
          have y1 := (hbj.cell (p := ⟨g, j * 2 + 1, none⟩) hgl).trans x1
          obtain ⟨n0, n1, n2⟩ : 0 ≤ e.2.2 ∧ e.2.2 ≤ 1099511627776 ∧ (e.2.1 : Int) ≤ 9223372036854775807 := HH.out.mB _ hmem
          obtain ⟨ao, s0, s1, hrow⟩ := byte_form e (HH.out.eB e hmem) (HH.out.eV e hmem)
          rw [s0] at y0
          rw [s1] at y1
          obtain ⟨eb, m, n⟩ := e
          simp only at y0 y1 hrow n0 n1 n2
          have HR := hide hrow
          clear hg x0 x1 he hmem hrow s0 s1
          have hd1 : decide ((j : Int) < (s.B.length : Int)) = true := by simp; omega
          go_wp2_with fail
          go_loopw [8] (fun t wr => ∃ k : Nat, k ≤ m ∧ t = .int .i64 k ∧ wp.heap.size < wr.heap.size ∧ Below w.heap.size w wr ∧ wr.cell? ⟨wp.heap.size, 0, none⟩ = some (.slice ao m m) ∧ wr.cell? ⟨wp.heap.size, 1, none⟩ = some (.int .i64 n)) (fun t _ => m - (intOf t).toNat)
          case atStart =>
            refine ⟨0, by omega, rfl, by simp, by (repeat (any_goals (first | exact Below.refl _ _ | assumption | refine Below.drew ?_ | refine below_drewN ?_ _ | refine Below.setCell ?_ ?_ _ | refine Below.alloc ?_ ?_ _ | omega | (simp; done) | (simp; omega)))), ?_, ?_⟩
            all_goals go_simp
          case round =>
            obtain ⟨k, hk, rfl, hszr, hbr, b0, b1⟩ := hrel
            by_cases hkm : k < m
            · obtain ⟨b, rfl, hrow⟩ := HR.out (by omega)
              have q0 := (row_below hrow hbr hrow.lt).cell (i := k) hkm
              clear hrow
              have hd2 : decide ((k : Int) < (m : Int)) = true := by simp; omega
              have g0 : (0 : Int) ≤ (k : Int) := by omega
              have g1 : (k : Int) < (m : Int) := by omega
              obtain ⟨MB, hMB⟩ : ∃ MB, mkB n k = .int .u8 MB := ⟨_, rfl⟩
              rw [hMB] at q0
              go_wp2_with fail
              go_region_held3 (fun w' => w'.cell? ⟨wp.heap.size, 0, none⟩ = some (.slice (some ⟨b, 0, none⟩) m m) ∧ w'.cell? ⟨wp.heap.size, 1, none⟩ = some (.int .i64 n) ∧ w'.cell? ⟨b, k, none⟩ = some (.int .u8 MB)) (go_keep) ((go_at_call 15; refine (markByte_any _ _ _ n0 n1).mono ?_; rintro e w' ⟨rfl, rfl⟩; rw [hMB]))
              go_wp2
              go_roundw
              case rel =>
                refine ⟨k + 1, by omega, by go_num, by simp; omega, by (repeat (any_goals (first | exact Below.refl _ _ | assumption | refine Below.drew ?_ | refine below_drewN ?_ _ | refine Below.setCell ?_ ?_ _ | refine Below.alloc ?_ ?_ _ | omega | (simp; done) | (simp; omega)))), ?_, ?_⟩
                all_goals go_simp
              case measure => simp [intOf]; omega
            · go_wp2
              go_roundw
              case rel => exact ⟨j + 1, by omega, by go_num, hbr⟩
              case measure => simp [intOf]; omega
        · have hd3 : decide ((j : Int) < (s.B.length : Int)) = false := by simp; omega
          go_wp2_with fail
          have H1 := hide (HH.out.below hbj)
          refine (points_any h s _ H1.out).mono ?_
          rintro e w1 ⟨rfl, hb1⟩
          have hb2 : Below w.heap.size w w1 := hbj.trans (hb1.mono hszj)
          have H2 := hide (H1.out.below hb1)
          clear hb1
          go_wp2_with fail
          refine (heldPlaces_any h s _ H2.out).mono ?_
          rintro e w2 ⟨rfl, hb3⟩
          have hs2 := hb2.size
          have hb4 : Below w.heap.size w w2 := hb2.trans (hb3.mono hs2)
          clear hb3
          go_wp2
          go_ret
          exact ⟨rfl, hb4⟩
end Go.Proofs.YtkhcjkmifddlbaaGreat

/- Start -/
namespace Go.Proofs.YtkhcjkmifddlbaaGreat
open Go.RowKit Go.Deep

def hs0 : HS := ⟨0, .slice none 0 0, .slice none 0 0, .slice none 0 0, .slice none 0 0, .slice none 0 0, .slice none 0 0, .slice none 0 0, .slice none 0 0, [], [], [], [], [], []⟩
theorem held_start (w : World) : HeldInv (w.alloc (.cells #[.slice none 0 0, .slice none 0 0, .int .i64 0, .slice none 0 0, .slice none 0 0, .slice none 0 0, .slice none 0 0, .slice none 0 0, .slice none 0 0] 37)) w.heap.size hs0 := by
  refine { wd := ?wd, oP := World.ownsRow_nil _ _ _ _, oO := World.ownsRow_nil _ _ _ _, oS := World.ownsRow_nil _ _ _ _, oT := World.ownsRow_nil _ _ _ _, oR := World.ownsRow_nil _ _ _ _, eP := (fun e h => by cases h), eO := (fun e h => by cases h), eI := (fun e h => by cases h), eS := (fun e h => by cases h), eN := (fun e h => by cases h), eT := (fun e h => by cases h), eU := (fun e h => by cases h), eR := (fun e h => by cases h), eJ := (fun e h => by cases h), eM := (fun e h => by cases h), lo := by simp [hs0], hi := by simp [hs0], mP := (fun e h => by cases h), mO := (fun e h => by cases h), mS := (fun e h => by cases h), mT := (fun e h => by cases h), mR := (fun e h => by cases h), oB := World.ownsRow_nil _ _ _ _, eB := (fun e h => by cases h), eV := (fun e h => by cases h), mB := (fun e h => by cases h) }
  case wd =>
    refine World.rowIs_alloc w _ _ (wc hs0) (fun q hq => ?_)
    have hq : q < 9 := hq
    rcases (show q = 0 ∨ q = 1 ∨ q = 2 ∨ q = 3 ∨ q = 4 ∨ q = 5 ∨ q = 6 ∨ q = 7 ∨ q = 8 by omega) with rfl | rfl | rfl | rfl | rfl | rfl | rfl | rfl | rfl <;> rfl
end Go.Proofs.YtkhcjkmifddlbaaGreat

/- TrcW -/
namespace Go.Proofs.YtkhcjkmifddlbaaGreat
open Go.RowKit Go.Deep

theorem traceN_le (N : Nat) (n : Nat → Nat) (X Y K : Nat → Nat → Int) (m : Num.Mp) : traceN N n X Y K m ≤ 16 ∧ ∀ i, i < traceN N n X Y K m → (traceL n X Y K m i).length ≤ 4294967296 := by
  unfold traceN
  split
  · rename_i h
    have h0 : (Num.chkV N n X Y K).1 = 0 := by
      unfold traceE at h
      split at h
      · assumption
      · exact h
    rcases Num.chk_cases N n X Y K with ⟨_, hm, _, _⟩ | h1
    · obtain ⟨m1, _, m3⟩ := ok_many hm
      refine ⟨m1, fun i hi => ?_⟩
      have h2 := Num.ringSp_le m (ringL n X Y K i)
      have h3 := refRing_len (X i) (Y i) (K i) (n i)
      have h4 := m3 i hi
      unfold ringL at h2
      unfold traceL ringL
      omega
    · exact absurd h0 h1
  · exact ⟨by omega, fun i hi => by omega⟩

/-- A list of another type does not lie where outline writes. -/
theorem ty_not_outS {w : World} {base h ob N : Nat} {B nn : Nat → Nat} {X Y K : Nat → Nat → Int} {s : HS} {t : TypeId} (H : HeldInv w h s) (L : Lent w base ob N B nn X Y K) {b : Nat} (ty : tyOf w b = some t)
    (t1 : t ≠ 37) (t2 : t ≠ 66) (t3 : t ≠ 68) (t4 : t ≠ 80) (t5 : t ≠ 82) : ¬ outS h ob (N + 2) B s b := by
  rintro (rfl | rfl | ⟨i, hi, rfl⟩ | h1 | h1)
  · rw [row_ty H.wd] at ty; simp at ty; exact t1 ty.symm
  · rw [row_ty L.outer] at ty; simp at ty; exact t2 ty.symm
  · rw [row_ty (L.inner i hi)] at ty; simp at ty; exact t3 ty.symm
  · rw [owns_ty H.oP h1] at ty; simp at ty; exact t4 ty.symm
  · rw [owns_ty H.oO h1] at ty; simp at ty; exact t5 ty.symm

end Go.Proofs.YtkhcjkmifddlbaaGreat

/- RenW -/
namespace Go.Proofs.YtkhcjkmifddlbaaGreat
open Go.RowKit Go.Deep

/-- Bytes that a call handed out, as they are read. -/
theorem owns_by {w : World} {base : Nat} {v : Value} {l : List Int} (h : w.ownsRow base 5 1 v l.length (u8C l)) : ∃ ao cap, v = .slice ao l.length cap ∧ ByAt w ao l.length (fun k => l.getD k 0) := by
  obtain ⟨ao, cap, rfl, hao⟩ := owns_formN h
  refine ⟨ao, cap, rfl, ?_⟩
  rcases Nat.eq_zero_or_pos l.length with h0 | h0
  · exact .inl h0
  · obtain ⟨g, rfl⟩ := hao h0
    refine .inr ⟨g, 0, rfl, fun k hk => ?_⟩
    have hc := h.cellAt k (by omega)
    rw [Nat.zero_add, hc]
    simp [u8C, hk]

/-- What outline writes is new, or held already. -/
theorem outS_used {h ob M B0 : Nat} {B : Nat → Nat} {s : HS} (ho : B0 ≤ ob) (hB : ∀ i, i < M → B0 ≤ B i) {b : Nat} (hb : outS h ob M B s b) : Used h s b ∨ B0 ≤ b := by
  rcases hb with rfl | rfl | ⟨i, hi, rfl⟩ | hb | hb
  · exact .inl (.inl rfl)
  · exact .inr ho
  · exact .inr (hB i hi)
  · exact .inl (.inr (.inl hb))
  · exact .inl (.inr (.inr (.inl hb)))

theorem pixL_small {A : Nat → Nat → Int} {a b : Nat} (ha : a ≤ 64) (hb : b ≤ 64) : (pixL A 0 0 a (a * b)).length ≤ 4096 := by
  rw [pixL_len]
  exact Nat.mul_le_mul ha hb

set_option maxRecDepth 100000 in
set_option maxHeartbeats 4000000 in
theorem renders_any (ad : Option Addr) (N cc h : Nat) (A : Nat → Option Addr) (C n : Nat → Nat) (X Y K : Nat → Nat → Int) (a b c d x y WW HH : Int) (s : HS) (w0 w : World) (hN : N ≤ 2097152) (hn : ∀ i, i < N → n i ≤ 2097152) (hS : Num.sumN n N ≤ 1099511627776)
    (ho : OutAt w0 ad N A C n X Y K) (hb0 : Below w0.heap.size w0 w) (hh : w0.heap.size ≤ h) (H : HeldInv w h s) (hs : s.n + N + 24 ≤ 1099511627776) :
    Calls Tryz.prog 4 #[.pointer (some ⟨h, 0, none⟩), .slice ad N cc, .agg #[.int .i64 a, .int .i64 b, .int .i64 c, .int .i64 d, .int .i64 x, .int .i64 y], .int .i64 WW, .int .i64 HH] w fun e w' => e = .returned (.bool true) ∧ Below w0.heap.size w w' ∧ Touch (Used h s) w w' ∧ ∃ s', HeldInv w' h s' ∧ s'.n ≤ s.n + N + 24 ∧ s'.cs = s.cs ∧ s'.rs = s.rs := by
  have hn1 : ∀ i, i < N → n i ≤ 4294967295 := fun i hi => by have := hn i hi; omega
  have hn2 : ∀ i, i < N → n i ≤ 4294967296 := fun i hi => by have := hn i hi; omega
  have hsz0 := hb0.size
  have hhw := H.wd.lt
  have HN1 := hide hn1
  have HN2 := hide hn2
  obtain ⟨W0, hW0⟩ : ∃ W0, W0 = w.alloc (.cells #[.int .i64 a, .int .i64 b, .int .i64 c, .int .i64 d, .int .i64 x, .int .i64 y] 24) := ⟨_, rfl⟩
  have hbW : Below w.heap.size w W0 := by rw [hW0]; exact (Below.refl _ _).alloc (Nat.le_refl _) _
  have hMr : W0.rowIs w.heap.size 24 6 (mp6 a b c d x y) := by rw [hW0]; exact mp6_row a b c d x y w 24
  have hsW := hMr.lt
  have HH0 := hide (H.below hbW)
  have HUB := hide H.underB
  have HO := hide ((ho.below hb0).below hbW)
  have HBW := hide hbW
  have HMr := hide hMr
  have HW0 := hide hW0
  clear H hn1 hn2 ho hn hb0 hbW hMr hW0
  obtain ⟨RE, hRE⟩ : ∃ RE, RE = renE WW HH (traceE N n X Y K ⟨a, b, c, d, x, y⟩) := ⟨_, rfl⟩
  obtain ⟨RL, hRL⟩ : ∃ RL, RL = pixL (renA (traceL n X Y K ⟨a, b, c, d, x, y⟩) N) 0 0 WW.toNat (WW.toNat * HH.toNat) := ⟨_, rfl⟩
  have HRl : Hid (RE = 0 → RL.length ≤ 4096) := fun e => by
    rw [hRE] at e
    have hnb : newB WW HH 0 = true := by
      cases hq : newB WW HH 0
      · unfold renE at e; rw [if_pos hq] at e; simp at e
      · rfl
    obtain ⟨h1, h2, _⟩ := newB_yes hnb
    rw [hRL]
    exact pixL_small (by omega) (by omega)
  have HRE := hide hRE
  have HRL := hide hRL
  clear hRE hRL
  go_enter Tryz.func4, Tryz.ntmps4
  go_wp2_with fail
  rw [← HW0.out]
  refine (lend_any _ _ _ A C n X Y K _ (by omega) HN1.out HO.out).mono ?_
  rintro e w1 ⟨rfl, hb1, B, hL⟩
  have HL := hide hL
  have HB1 := hide hb1
  have hs1 := hb1.size
  have HM1 := hide (row_below HMr.out hb1 hsW)
  obtain ⟨d0, d1, d2, d3, d4, d5⟩ := mp6_cells HM1.out
  have hM1l := HM1.out.lt
  clear hL hb1
  go_wp2_with fail
  refine (glyphRender_any WW HH _ _ _ _ _ n X Y K _ _ _ _ _ _ _ (by omega) HN2.out HL.out.out).mono ?_
  rw [← HRE.out, ← HRL.out]
  rintro e w2 ⟨rw1, rh1, v, l, rfl, hb2, hown, hq1, hq2⟩
  have hlen : l.length ≤ 4096 := by
    by_cases e : RE = 0
    · rw [(hq2 e).2.2]; exact HRl.out e
    · rw [(hq1 e).2.2]; simp
  obtain ⟨ao, cap, rfl, hby⟩ := owns_by hown
  obtain ⟨W2, hW2⟩ : ∃ W2, W2 = w2.alloc (.cells #[.int .i64 rw1, .int .i64 rh1, .slice ao l.length cap] 43) := ⟨_, rfl⟩
  have hbW2 : Below w2.heap.size w2 W2 := by rw [hW2]; exact (Below.refl _ _).alloc (Nat.le_refl _) _
  have hs2 := hb2.size
  have hsW2 : W2.heap.size = w2.heap.size + 1 := by rw [hW2]; simp
  have hb2' : Below w1.heap.size w1 W2 := hb2.trans (hbW2.mono hs2)
  have HB2 := hide (HB1.out.trans (hb2'.mono hs1))
  have HL2 := hide (HL.out.below hb2')
  have HOw2 := hide (owns_of_block hown (fun q hq => hbW2.block q (hown.lt q hq).2))
  have HBy2 := hide (hby.below hbW2)
  have HG2 : Hid (W2.rowIs w2.heap.size 43 3 (gr3 rw1 rh1 (.slice ao l.length cap))) := by unfold Hid; rw [hW2]; exact gr3_row _ _ _ _ _
  have HM2 := hide (row_below HM1.out hb2' hM1l)
  have HQ := hide (And.intro hq1 hq2)
  have hg2 : w2.heap.size < W2.heap.size := by omega
  have hl2 : w1.heap.size ≤ w2.heap.size := hs2
  have HW2 := hide hW2
  have hM2w := row_below HM1.out hb2 hM1l
  clear d0 d1 d2 d3 d4 d5
  obtain ⟨d0, d1, d2, d3, d4, d5⟩ := mp6_cells hM2w
  have hM2l := hM2w.lt
  clear hb2 hown hby hq1 hq2 hbW2 hb2' hW2 hsW2 hM2w
  go_wp2_with fail
  rw [← HW2.out]
  refine (refRender_any WW HH _ _ _ A C n X Y K _ _ _ _ _ _ _ (by omega) HN2.out hS (HO.out.below HB2.out)).mono ?_
  rw [← HRE.out, ← HRL.out]
  rintro e w3 ⟨rw2, rh2, v', l', rfl, hb3, hown3, hq3, hq4⟩
  have hsame : rw2 = rw1 ∧ rh2 = rh1 ∧ l' = l := by
    by_cases e : RE = 0
    · obtain ⟨k1, k2, k3⟩ := HQ.out.2 e
      obtain ⟨k4, k5, k6⟩ := hq4 e
      exact ⟨k4.trans k1.symm, k5.trans k2.symm, k6.trans k3.symm⟩
    · obtain ⟨k1, k2, k3⟩ := HQ.out.1 e
      obtain ⟨k4, k5, k6⟩ := hq3 e
      exact ⟨k4.trans k1.symm, k5.trans k2.symm, k6.trans k3.symm⟩
  obtain ⟨rfl, rfl, rfl⟩ := hsame
  obtain ⟨ao', cap', rfl, hby3⟩ := owns_by hown3
  obtain ⟨W3, hW3⟩ : ∃ W3, W3 = w3.alloc (.cells #[.int .i64 rw2, .int .i64 rh2, .slice ao' l'.length cap'] 43) := ⟨_, rfl⟩
  have hbW3 : Below w3.heap.size w3 W3 := by rw [hW3]; exact (Below.refl _ _).alloc (Nat.le_refl _) _
  have hs3 := hb3.size
  have hsW3 : W3.heap.size = w3.heap.size + 1 := by rw [hW3]; simp
  have hb3' : Below W2.heap.size W2 W3 := hb3.trans (hbW3.mono hs3)
  have hs12 : W0.heap.size ≤ W2.heap.size := by omega
  have HB3 := hide (HB2.out.trans (hb3'.mono hs12))
  have HL3 := hide (HL2.out.below hb3')
  have HOw3 := hide (owns_of_block HOw2.out (fun q hq => hb3'.block q (HOw2.out.lt q hq).2))
  have HBy3 := hide (HBy2.out.below hb3')
  have HBz3 := hide (hby3.below hbW3)
  have HG3 := hide (row_below HG2.out hb3' hg2)
  have HR3 : Hid (W3.rowIs w3.heap.size 43 3 (gr3 rw2 rh2 (.slice ao' l'.length cap'))) := by unfold Hid; rw [hW3]; exact gr3_row _ _ _ _ _
  have hg3 : w3.heap.size < W3.heap.size := by omega
  have HW3 := hide hW3
  clear hb3 hown3 hby3 hq3 hq4 hbW3 hb3' hW3 hsW3 d0 d1 d2 d3 d4 d5 HW2 HQ
  go_wp2_with fail
  rw [← HW3.out]
  refine (lent_any _ _ _ _ _ A C n B X Y K _ (by omega) HN1.out HL3.out (HO.out.below HB3.out)).mono ?_
  rintro e w4 ⟨rfl, hb4⟩
  have hs4 := hb4.size
  have hs23 : W0.heap.size ≤ W3.heap.size := by omega
  have HB4 := hide (HB3.out.trans (hb4.mono hs23))
  have HL4 := hide (HL3.out.below hb4)
  have HOw4 := hide (owns_of_block HOw3.out (fun q hq => hb4.block q (HOw3.out.lt q hq).2))
  have HBy4 := hide (HBy3.out.below hb4)
  have HBz4 := hide (HBz3.out.below hb4)
  have HG4 := hide (row_below HG3.out hb4 (by omega))
  have HR4 := hide (row_below HR3.out hb4 hg3)
  obtain ⟨e0, e1, e2⟩ := gr3_cells HG4.out
  obtain ⟨f0, f1, f2⟩ := gr3_cells HR4.out
  have hg4 := HG4.out.lt
  have hr4 := HR4.out.lt
  clear hb4 HW3
  go_wp2_with fail
  refine (sameGray_any ao ao' l'.length cap cap' rw2 rh2 _ _ (by omega) HBy4.out HBz4.out).mono ?_
  rintro e w5 ⟨rfl, hb5⟩
  have hs5 := hb5.size
  have hs34 : W0.heap.size ≤ w4.heap.size := by omega
  have HB5 := hide (HB4.out.trans (hb5.mono hs34))
  have HL5 := hide (HL4.out.below hb5)
  have HOw5 := hide (owns_of_block HOw4.out (fun q hq => hb5.block q (HOw4.out.lt q hq).2))
  have HG5 := hide (row_below HG4.out hb5 hg4)
  have H5 := hide (HH0.out.below HB5.out)
  clear hb5 e0 e1 e2 f0 f1 f2 HR4 HBz4 HBy4
  go_wp2_with fail
  refine (outline_any W0.heap.size h W0.heap.size N (N + 2) B _ _ s _ (by omega) H5.out (HL5.out.lists HH0.out.under (by omega) HN1.out) (by omega) (by omega)).mono ?_
  rintro e w6 ⟨rfl, hT6, s1, hI6, hn6, hcs, hrs, _, _, _, _, _, _, hB6e, hvB6⟩
  have hnotS : ∀ q t, tyOf w5 q = some t → t ≠ 37 → t ≠ 66 → t ≠ 68 → t ≠ 80 → t ≠ 82 → ¬ outS h W0.heap.size (N + 2) B s q := fun q t ty t1 t2 t3 t4 t5 => ty_not_outS H5.out HL5.out ty t1 t2 t3 t4 t5
  have hO6 := owns_of_block HOw5.out (fun q hq => hT6.block q (HOw5.out.lt q hq).2 (hnotS q _ (owns_ty HOw5.out hq) (by decide) (by decide) (by decide) (by decide) (by decide)))
  have hG6 := hT6.row HG5.out (hnotS _ _ (row_ty HG5.out) (by decide) (by decide) (by decide) (by decide) (by decide))
  have hF6 : ∀ q, (Value.slice ao l'.length cap).ownBlock = some q → ∀ e ∈ s1.B, e.1 ≠ some q := fun q hq e he e1 => by
    rw [hB6e] at he
    have k1 := HUB.out e he q e1
    have k2 := (hO6.lt q hq).1
    omega
  have hsn : s1.n + 1 ≤ 1099511627776 := by rw [hn6]; omega
  have hBd : Below w6.heap.size w6 w6.drew := (Below.refl _ _).drew
  have HCall := hide (heldBytes_any h (.slice ao l'.length cap) s1 w6.drew (hI6.below hBd) (ByRow.of_owns hO6) hF6 hsn)
  have k2 := (gr3_cells hG6).2.2
  have hg6 := hG6.lt
  have HT6 := hide hT6
  have HI6 := hide (And.intro hI6 (And.intro hn6 (And.intro hcs (And.intro hrs hvB6))))
  have HO6 := hide hO6
  clear hT6 hI6 hn6 hcs hrs hB6e hvB6 hnotS hO6 hG6 hF6 hBd HOw5 HG5
  go_wp2_with fail
  go_region_with (go_at_call 12; refine HCall.out.mono ?_; rintro e w7 ⟨rfl, hT7, s2, hI7, hK7⟩)
  all_goals
    have HT7 := hide hT7
    have HI7 := hide (And.intro hI7 hK7)
    clear hT7 hI7 hK7 HCall
    go_wp2_with (go_at_call 13; refine (num_any _ _).mono ?_; rintro e w' ⟨rfl, rfl⟩)
    go_ret
    obtain ⟨hI7, hK7⟩ := HI7.out
    obtain ⟨hI6, hn6, hcs6, hrs6, hvB6⟩ := HI6.out
    have hs6 := HT6.out.size
    have hs7 := HT7.out.size
    have hdr : w6.drew.heap.size = w6.heap.size := rfl
    refine ⟨rfl, ?_, ?_, s2, hI7, ?_, hK7.cs.trans hcs6, hK7.rs.trans hrs6⟩
    · have t6 := HT6.out.below (B := w0.heap.size) (by omega) (fun q hq => outS_ge H5.out hh (by omega) (fun i hi => by have := HL5.out.geB i hi; omega) hq)
      have t7 := HT7.out.below (B := w0.heap.size) (by omega) (fun q hq => by
        rcases hq with rfl | hq | hq
        · exact hh
        · have := (hI6.oB.lt q hq).1; omega
        · have := (HO6.out.lt q hq).1; omega)
      exact (((HBW.out.trans (HB5.out.mono (by omega))).mono hsz0).trans t6).drew.trans t7
    · have t5 : Touch (Used h s) w w5 := (Touch.refl _ w).of_below (HBW.out.trans (HB5.out.mono (by omega)))
      have t6 := t5.trans' HT6.out (fun q hq => outS_used (B0 := w.heap.size) (by omega) (fun i hi => by have := HL5.out.geB i hi; omega) hq)
      refine t6.drew.trans' HT7.out (fun q hq => ?_)
      rcases hq with rfl | hq | hq
      · exact .inl (.inl rfl)
      · rw [hvB6] at hq
        exact .inl (.inr (.inr (.inr (.inr (.inr (.inr (.inr (.inr (.inr (.inr (.inr (.inr (.inr (.inl hq))))))))))))))
      · have := (HO6.out.lt q hq).1
        exact .inr (by omega)
    · rw [hK7.n, hn6]; omega

set_option maxRecDepth 100000 in
set_option maxHeartbeats 1000000 in
theorem rendered_any (ad : Option Addr) (N cc : Nat) (A : Nat → Option Addr) (C n : Nat → Nat) (X Y K : Nat → Nat → Int) (a b c d x y WW HH : Int) (w : World) (hN : N ≤ 2097152) (hn : ∀ i, i < N → n i ≤ 2097152) (hS : Num.sumN n N ≤ 1099511627776) (ho : OutAt w ad N A C n X Y K) :
    Calls Tryz.prog 3 #[.slice ad N cc, .agg #[.int .i64 a, .int .i64 b, .int .i64 c, .int .i64 d, .int .i64 x, .int .i64 y], .int .i64 WW, .int .i64 HH] w fun e w' => e = .returned (.bool true) ∧ Below w.heap.size w w' := by
  have HN := hide hn
  have HO := hide (ho.below ((Below.refl w.heap.size w).alloc (Nat.le_refl _) (.cells #[.int .i64 a, .int .i64 b, .int .i64 c, .int .i64 d, .int .i64 x, .int .i64 y] 24)))
  have HMr := hide (mp6_row a b c d x y w 24)
  have H0 := hide (held_start (w.alloc (.cells #[.int .i64 a, .int .i64 b, .int .i64 c, .int .i64 d, .int .i64 x, .int .i64 y] 24)))
  rw [nblk_alloc] at H0
  clear hn ho
  go_enter Tryz.func3, Tryz.ntmps3
  go_wp2_with fail
  refine (renders_any ad N cc (w.heap.size + 1) A C n X Y K _ _ _ _ _ _ _ _ hs0 (w.alloc (.cells #[.int .i64 a, .int .i64 b, .int .i64 c, .int .i64 d, .int .i64 x, .int .i64 y] 24)) _ hN HN.out hS HO.out ((Below.refl _ _).alloc (Nat.le_refl _) _) (by rw [nblk_alloc]; exact Nat.le_refl _) H0.out (by simp [hs0]; omega)).mono ?_
  rintro e w1 ⟨rfl, hb1, _, s1, hI1, hn1, _, _⟩
  rw [nblk_alloc] at hb1
  have hs1 : w.heap.size + 1 < w1.heap.size := hI1.wd.lt
  have HB1 : Hid (Below w.heap.size w w1) := Below.trans (by (repeat (any_goals (first | exact Below.refl _ _ | assumption | refine Below.drew ?_ | refine below_drewN ?_ _ | refine Below.setCell ?_ ?_ _ | refine Below.alloc ?_ ?_ _ | omega | (simp; done) | (simp; omega))))) (hb1.mono (Nat.le_succ _))
  have HI1 := hide hI1
  have HN1 : Hid (s1.n ≤ N + 24) := by unfold Hid; have : hs0.n = 0 := rfl; omega
  have hMr1 : w1.rowIs w.heap.size 24 6 (mp6 a b c d x y) := row_below (HMr.out.alloc _) hb1 (Nat.lt_succ_self _)
  obtain ⟨d0, d1, d2, d3, d4, d5⟩ := mp6_cells hMr1
  have hM1 := hMr1.lt
  have HBm : Hid (Below (w.heap.size + 1) (w.alloc (.cells #[.int .i64 a, .int .i64 b, .int .i64 c, .int .i64 d, .int .i64 x, .int .i64 y] 24)) w1) := ((Below.refl _ _).alloc (by rw [nblk_alloc]; exact Nat.le_refl _) _).trans hb1
  clear hb1 hI1 hn1 hMr1
  go_wp2_with fail
  refine (renders_any ad N cc (w.heap.size + 1) A C n X Y K _ _ _ _ _ _ _ _ s1 (w.alloc (.cells #[.int .i64 a, .int .i64 b, .int .i64 c, .int .i64 d, .int .i64 x, .int .i64 y] 24)) _ hN HN.out hS HO.out (by rw [nblk_alloc]; exact HBm.out) (by rw [nblk_alloc]; exact Nat.le_refl _) HI1.out (by have := HN1.out; omega)).mono ?_
  rintro e w2 ⟨rfl, hb2, _, s2, hI2, hn2, _, _⟩
  rw [nblk_alloc] at hb2
  have HB2 := hide (HB1.out.trans (hb2.mono (Nat.le_succ _)))
  have HI2 := hide hI2
  clear hb2 hI2 hn2 d0 d1 d2 d3 d4 d5
  go_wp2_with fail
  refine (dry_any (w.heap.size + 1) s2 _ HI2.out).mono ?_
  rintro e w3 ⟨rfl, hb3⟩
  have hs2 := HB2.out.size
  have HB3 := hide (HB2.out.trans (hb3.mono hs2))
  clear hb3
  go_wp2
  go_ret
  exact ⟨rfl, HB3.out⟩
end Go.Proofs.YtkhcjkmifddlbaaGreat

/- Read -/
namespace Go.Proofs.YtkhcjkmifddlbaaGreat
open Go.RowKit

section
variable {H : Type} {enc : TypeId × Value → H} {P : Program} {w : World} {base : Nat} {spare : Nat → Bool} {held : Bool}

/-- A struct whose fields are all ints of one cell each, in their order. -/
theorem struct_ints {t ti : TypeId} {fs : Array Field} {fuel : Nat} {cs : List Value} {x : DataW H × List MemPlace}
    (ht : P.underlying t = some (.struct fs)) (hi : P.underlying ti = some (.int .i64)) (h1 : P.cellsOf ti = 1) (hC : P.cellsOf t = fs.size)
    (hfs : ∀ i, i < fs.size → ∃ f, fs[i]? = some f ∧ f.type = ti ∧ f.offset = i)
    (h : DataW.trod enc P w base spare held fuel t cs = some x) :
    ∃ zs : List Int, cs = zs.map (Value.int .i64) ∧ zs.length = fs.size ∧ x = (.agg (zs.map fun z => .lit (.int .i64 z)), []) ∧ ∀ z ∈ zs, (Lit.int .i64 z).wf = true := by
  obtain ⟨xs, n, _, rfl, hl, hlen, hf⟩ := DataW.trod_struct ht h
  have key : ∀ i, i < fs.size → ∃ z : Int, cs[i]? = some (.int .i64 z) ∧ xs[i]? = some (.lit (.int .i64 z), []) ∧ (Lit.int .i64 z).wf = true := by
    intro i hlt
    obtain ⟨f, hfi, hft, hfo⟩ := hfs i hlt
    have e := hf i f hfi
    rw [hft, hfo, h1] at e
    have hx : ∃ y, xs[i]? = some y := ⟨xs[i], List.getElem?_eq_getElem (by omega)⟩
    obtain ⟨y, hy⟩ := hx
    rw [hy] at e
    obtain ⟨z, hc, hz, hw⟩ := DataW.trod_int hi e
    refine ⟨z, ?_, by rw [hy, hz], hw⟩
    have := congrArg (fun l => l[0]?) hc
    simpa [List.getElem?_take, List.getElem?_drop] using this
  refine ⟨cs.map intOf, ?_, by simp; omega, ?_, ?_⟩
  · apply List.ext_getElem?
    intro i
    by_cases hlt : i < fs.size
    · obtain ⟨z, hc, _, _⟩ := key i hlt
      simp [hc, intOf]
    · rw [List.getElem?_eq_none (by omega), List.getElem?_eq_none (by simp; omega)]
  · have e1 : xs.map (·.1) = (cs.map intOf).map fun z => DataW.lit (.int .i64 z) := by
      apply List.ext_getElem?
      intro i
      by_cases hlt : i < fs.size
      · obtain ⟨z, hc, hx, _⟩ := key i hlt
        simp [hc, hx, intOf]
      · rw [List.getElem?_eq_none (by simp; omega), List.getElem?_eq_none (by simp; omega)]
    have e2 : xs.flatMap (·.2) = [] := by
      rw [List.flatMap_eq_nil_iff]
      intro y hy
      obtain ⟨i, hi', rfl⟩ := List.mem_iff_getElem.1 hy
      obtain ⟨z, _, hx, _⟩ := key i (by omega)
      rw [List.getElem?_eq_getElem hi'] at hx
      simp at hx
      rw [hx]
    rw [e1, e2]
  · intro z hz
    obtain ⟨i, hi', rfl⟩ := List.mem_iff_getElem.1 hz
    simp at hi'
    obtain ⟨z', hc, _, hw⟩ := key i (by omega)
    have : cs[i] = .int .i64 z' := by
      rw [List.getElem?_eq_getElem hi'] at hc
      simpa using hc
    simp [this, intOf]
    exact hw
end

theorem list2 {α : Type} {l : List α} (h : l.length = 2) : ∃ a b, l = [a, b] := by
  match l, h with
  | [a, b], _ => exact ⟨a, b, rfl⟩
theorem list3 {α : Type} {l : List α} (h : l.length = 3) : ∃ a b c, l = [a, b, c] := by
  match l, h with
  | [a, b, c], _ => exact ⟨a, b, c, rfl⟩
theorem list6 {α : Type} {l : List α} (h : l.length = 6) : ∃ a b c d e f, l = [a, b, c, d, e, f] := by
  match l, h with
  | [a, b, c, d, e, f], _ => exact ⟨a, b, c, d, e, f, rfl⟩

end Go.Proofs.YtkhcjkmifddlbaaGreat

/- Open -/
namespace Go.Proofs.YtkhcjkmifddlbaaGreat
open Go.ChangeShapes Go.WideShapes Go.ChangeAt Go.RowKit Go.Deep

theorem cells_i : Tryz.prog.cellsOf 3 = 1 := by kernel_rfl
theorem cells_p : Tryz.prog.cellsOf 68 = 3 := by kernel_rfl
theorem cells_s : Tryz.prog.cellsOf 66 = 1 := by kernel_rfl

theorem addr_form {w : World} {a : Addr} {v : Value} (h : w.cell? (a.add 0) = some v) : a = ⟨a.block, a.off, none⟩ := by
  have hs := World.cell?_spot h
  obtain ⟨b, off, spot⟩ := a
  simp [Addr.add] at hs
  rw [hs]
theorem addr_add (b off i : Nat) : ((⟨b, off, none⟩ : Addr).add i) = ⟨b, off + i, none⟩ := by
  unfold Addr.add
  split
  · rename_i h; simp_all
  · simp

section
variable {H : Type} {enc : TypeId × Value → H} {w : World} {spare : Nat → Bool} {held : Bool}

set_option maxRecDepth 100000 in
theorem open_pt {fuel : Nat} {cs : List Value} {x : DataW H × List MemPlace} (h : DataW.trod enc Tryz.prog w 0 spare held fuel 68 cs = some x) : ∃ a b c : Int, cs = [.int .i64 a, .int .i64 b, .int .i64 c] := by
  obtain ⟨zs, hz, hl, _, _⟩ := struct_ints Tryz.underlying68 Tryz.underlying3 cells_i cells_p (by
    intro i hi
    have hi : i < 3 := hi
    rcases (show i = 0 ∨ i = 1 ∨ i = 2 by omega) with rfl | rfl | rfl <;> exact ⟨_, rfl, rfl, rfl⟩) h
  obtain ⟨a, b, c, rfl⟩ := list3 hl
  exact ⟨a, b, c, by simpa using hz⟩

/-- A ring as it is read. -/
def RingRead (w : World) (v : Value) (d : DataW H) (r : Option Addr × Nat × Nat × (Nat → Int) × (Nat → Int) × (Nat → Int)) : Prop :=
  v = .slice r.1 r.2.1 r.2.2.1 ∧ RingAt w r.1 r.2.1 r.2.2.2.1 r.2.2.2.2.1 r.2.2.2.2.2 ∧ r.2.1 + 1 ≤ Rows.uptoBulk d

theorem bulk_len (l : List (DataW H)) : l.length ≤ Rows.uptoBulkAll l := by
  induction l with
  | nil => simp [Rows.uptoBulkAll]
  | cons x r ih =>
    have : 1 ≤ Rows.uptoBulk x := by
      cases x with
      | lit l => cases l <;> simp [Rows.uptoBulk]
      | nil => simp [Rows.uptoBulk]
      | ptr d => simp [Rows.uptoBulk]
      | slice elems spare => simp [Rows.uptoBulk]
      | agg parts => simp [Rows.uptoBulk]
      | iface t d => simp [Rows.uptoBulk]
      | map entries => simp [Rows.uptoBulk]
      | held h => simp [Rows.uptoBulk]
    simp only [Rows.uptoBulkAll, List.length_cons]; omega

set_option maxRecDepth 100000 in
theorem open_ring {fuel : Nat} {v : Value} {x : DataW H × List MemPlace} (h : DataW.trod enc Tryz.prog w 0 spare held fuel 66 [v] = some x) : ∃ r, RingRead w v x.1 r := by
  rcases open_slice Tryz.underlying66 h with ⟨hcs, rfl⟩ | ⟨a, len, cap, m, n, D, Pl, hcs, _, hl, hm, hmm, rfl, hx⟩
  · simp at hcs
    exact ⟨(none, 0, 0, fun _ => 0, fun _ => 0, fun _ => 0), hcs, .inl rfl, by simp [Rows.uptoBulk]⟩
  · simp at hcs
    rw [cells_p] at hx
    have hlm : len ≤ m := by rw [hmm]; split <;> omega
    have key : ∀ i, ∃ q : Int × Int × Int, i < len → w.cell? (a.add (i * 3)) = some (.int .i64 q.1) ∧ w.cell? ((a.add (i * 3)).add 1) = some (.int .i64 q.2.1) ∧ w.cell? ((a.add (i * 3)).add 2) = some (.int .i64 q.2.2) := by
      intro i
      by_cases hi : i < len
      · obtain ⟨cs', h1, h2⟩ := hx i (by omega)
        obtain ⟨p, q, r, rfl⟩ := open_pt h2
        obtain ⟨_, _, h3⟩ := World.cells?_some h1
        refine ⟨(p, q, r), fun _ => ⟨?_, ?_, ?_⟩⟩
        · have := h3 0 (by omega)
          simpa [Addr.add] using this
        · exact h3 1 (by omega)
        · exact h3 2 (by omega)
      · exact ⟨(0, 0, 0), fun h => absurd h hi⟩
    obtain ⟨f, hf⟩ := Classical.skolem.1 key
    refine ⟨(some a, len, cap, fun i => (f i).1, fun i => (f i).2.1, fun i => (f i).2.2), hcs, ?_, ?_⟩
    · rcases Nat.eq_zero_or_pos len with h0 | h0
      · exact .inl h0
      · have e := addr_form (by simpa using (hf 0 h0).1)
        refine .inr ⟨a.block, a.off, by rw [← e], fun k hk => ?_⟩
        obtain ⟨c0, c1, c2⟩ := hf k hk
        rw [e, addr_add] at c0
        rw [e, addr_add, addr_add] at c1 c2
        exact ⟨c0, c1, c2⟩
    · simp only [Rows.uptoBulk]
      have := bulk_len ((List.range len).map D)
      simp at this
      omega

set_option maxRecDepth 100000 in
theorem open_outline {fuel : Nat} {v : Value} {x : DataW H × List MemPlace} (h : DataW.trod enc Tryz.prog w 0 spare held fuel 22 [v] = some x) :
    ∃ (a : Option Addr) (N c : Nat) (A : Nat → Option Addr) (C n : Nat → Nat) (X Y K : Nat → Nat → Int), v = .slice a N c ∧ OutAt w a N A C n X Y K ∧ N ≤ Rows.uptoBulk x.1 ∧ (∀ i, i < N → n i ≤ Rows.uptoBulk x.1) ∧ Num.sumN n N ≤ Rows.uptoBulk x.1 := by
  rcases open_slice1 Tryz.underlying22 cells_s h with ⟨hcs, rfl⟩ | ⟨a, len, cap, m, n, V, D, Pl, hcs, _, hl, hm, hmm, rfl, hx⟩
  · simp at hcs
    exact ⟨none, 0, 0, fun _ => none, fun _ => 0, fun _ => 0, fun _ _ => 0, fun _ _ => 0, fun _ _ => 0, hcs, ⟨.inl rfl, fun i hi => by omega⟩, by omega, fun i hi => by omega, by simp [Num.sumN]⟩
  · simp at hcs
    have hlm : len ≤ m := by rw [hmm]; split <;> omega
    have key : ∀ i, ∃ r, i < len → RingRead w (V i) (D i) r := by
      intro i
      by_cases hi : i < len
      · obtain ⟨r, hr⟩ := open_ring (hx i (by omega)).2
        exact ⟨r, fun _ => hr⟩
      · exact ⟨(none, 0, 0, fun _ => 0, fun _ => 0, fun _ => 0), fun h => absurd h hi⟩
    obtain ⟨f, hf⟩ := Classical.skolem.1 key
    have hsum : ∀ k, k ≤ len → Num.sumN (fun i => (f i).2.1) k ≤ Rows.uptoBulkAll ((List.range k).map D) := by
      intro k
      induction k with
      | zero => intro _; simp [Num.sumN]
      | succ k ih =>
        intro hk
        have i1 := ih (by omega)
        have i2 := (hf k (by omega)).2.2
        have e : Rows.uptoBulkAll ((List.range (k + 1)).map D) = Rows.uptoBulkAll ((List.range k).map D) + Rows.uptoBulk (D k) := by
          rw [List.range_succ, List.map_append]
          have ap : ∀ (l r : List (DataW H)), Rows.uptoBulkAll (l ++ r) = Rows.uptoBulkAll l + Rows.uptoBulkAll r := by
            intro l r
            induction l with
            | nil => simp [Rows.uptoBulkAll]
            | cons x l ih => simp only [List.cons_append, Rows.uptoBulkAll, ih]; omega
          rw [ap]; simp [Rows.uptoBulkAll]
        rw [e]
        simp only [Num.sumN]
        omega
    have hN := bulk_len ((List.range len).map D)
    simp at hN
    have hS := hsum len (Nat.le_refl _)
    have hb : Rows.uptoBulkAll ((List.range len).map D) ≤ Rows.uptoBulk (.slice ((List.range len).map D) ((List.range (m - len)).map fun j => D (len + j))) := by
      simp only [Rows.uptoBulk]; omega
    refine ⟨some a, len, cap, fun i => (f i).1, fun i => (f i).2.2.1, fun i => (f i).2.1, fun i => (f i).2.2.2.1, fun i => (f i).2.2.2.2.1, fun i => (f i).2.2.2.2.2, hcs, ⟨?_, fun i hi => (hf i hi).2.1⟩, by dsimp only; omega, ?_, by dsimp only; omega⟩
    · rcases Nat.eq_zero_or_pos len with h0 | h0
      · exact .inl h0
      · have e := addr_form (hx 0 (by omega)).1
        refine .inr ⟨a.block, a.off, by rw [← e], fun i hi => ?_⟩
        have c := (hx i (by omega)).1
        rw [e, addr_add, (hf i hi).1] at c
        exact c
    · intro i hi
      have h1 := Num.sumN_mono (fun i => (f i).2.1) (show i + 1 ≤ len by omega)
      simp only [Num.sumN] at h1
      dsimp only
      omega
end
end Go.Proofs.YtkhcjkmifddlbaaGreat

/- OpenK -/
namespace Go.Proofs.YtkhcjkmifddlbaaGreat
open Go.ChangeShapes Go.WideShapes Go.ChangeAt Go.RowKit Go.Deep

theorem own_k : ownKnob Tryz.prog.godebug = none := by kernel_rfl
theorem laidOut_k : laidOutB Tryz.prog = true := by kernel_rfl
section
variable {H : Type} {enc : TypeId × Value → H} {w : World} {spare : Nat → Bool} {held : Bool}
set_option maxRecDepth 100000 in
/-- All arguments read as they did. -/
theorem belowAll {W W' : World} (bel : Below W.heap.size W W') : ∀ (ts : List TypeId) (vs : List Value) (ds : List (DataW H)) (ps : List MemPlace), (∀ t ∈ ts, Tryz.prog.readableRec t = true ∧ t < Tryz.prog.types.size) →
    DataW.TrodAll enc Tryz.prog W 0 (fun _ => true) true ts vs ds ps → DataW.TrodAll enc Tryz.prog W' 0 (fun b => decide (b < W.heap.size)) true ts vs ds ps := by
  intro ts
  induction ts with
  | nil =>
    intro vs ds ps _ h
    obtain ⟨rfl, rfl, rfl⟩ := trodAll_nil h
    rfl
  | cons t ts ih =>
    intro vs ds ps ht h
    obtain ⟨v, vs', d, ds', p, q, rfl, rfl, rfl, h1, h2⟩ := trodAll_cons h
    have hlt : ∀ x ∈ p, x.block < W.heap.size := by obtain ⟨m, hm⟩ := h1; exact DataW.trod_lt m _ _ _ hm
    exact trodAll_cons_mk (Below.trod laidOut_k (ht t (by simp)).1 (ht t (by simp)).2 h1 bel hlt) (ih vs' ds' q (fun t' ht' => ht t' (by simp [ht'])) h2)
set_option maxRecDepth 100000 in
theorem open_int {base b0 : Nat} {r : Reach} {v : Value} {d : DataW H} {p : List MemPlace} (hv : Value.okWide Tryz.prog w r b0 3 v) (h : DataW.Trod enc Tryz.prog w base spare held 3 v d p) : ∃ z : Int, v = .int .i64 z ∧ -9223372036854775808 ≤ z ∧ z ≤ 9223372036854775807 := by
  obtain ⟨kd, rfl⟩ := okWide_int Tryz.underlying3 hv
  refine ⟨kd, rfl, ?_⟩
  obtain ⟨fuel, hf⟩ := h
  obtain ⟨z, hz, _, hw⟩ := DataW.trod_int Tryz.underlying3 hf
  have hz : kd = z := by simpa [Value.cells] using hz
  subst hz
  have m1 : IntKind.i64.min = -9223372036854775808 := by decide
  have m2 : IntKind.i64.max = 9223372036854775807 := by decide
  simp only [Lit.wf, Bool.and_eq_true, decide_eq_true_eq, m1, m2] at hw
  exact hw
end
end Go.Proofs.YtkhcjkmifddlbaaGreat
