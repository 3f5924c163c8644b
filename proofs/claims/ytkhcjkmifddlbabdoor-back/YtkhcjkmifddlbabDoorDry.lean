/- Does all that is held still read as its mark? -/
import Derived.Test.YtkhcjkmifddlbabDoorHeldB
import Derived.Test.YtkhcjkmifddlbabDoorHeldC
namespace Go.Proofs.YtkhcjkmifddlbabDoor
open Go.RowKit Go.Deep

theorem flat2 {α : Type} (f : α → List Value) (hf : ∀ e, (f e).length = 2) : ∀ (l : List α) (i : Nat) (hi : i < l.length), (l.flatMap f)[i * 2]? = (f l[i])[0]? ∧ (l.flatMap f)[i * 2 + 1]? = (f l[i])[1]? := by
  intro l
  induction l with
  | nil => intro i hi; simp at hi
  | cons x r ih =>
    intro i hi
    rw [List.flatMap_cons]
    cases i with
    | zero =>
      have := hf x
      simp only [Nat.zero_mul, Nat.zero_add, List.getElem_cons_zero]
      rw [List.getElem?_append_left (by omega), List.getElem?_append_left (by omega)]
      exact ⟨rfl, rfl⟩
    | succ j =>
      have h2 := hf x
      have := ih j (by simpa using hi)
      simp only [List.getElem_cons_succ]
      rw [List.getElem?_append_right (by omega), List.getElem?_append_right (by omega), h2]
      rw [show (j + 1) * 2 - 2 = j * 2 by omega, show (j + 1) * 2 + 1 - 2 = j * 2 + 1 by omega]
      exact this

/-- The shape of a row that the caller owns, two cells an element. -/
theorem owns_form {α : Type} {w : World} {base : Nat} {t : TypeId} {v : Value} {l : List α} {f : α → List Value} (hf : ∀ e, (f e).length = 2) (h : w.ownsRow base t 2 v l.length (l.flatMap f)) :
    ∃ ao cap, v = .slice ao l.length cap ∧ (0 < l.length → ∃ g, ao = some ⟨g, 0, none⟩ ∧ g < w.heap.size ∧ ∀ (i : Nat) (hi : i < l.length), w.cell? ⟨g, i * 2, none⟩ = (f l[i])[0]? ∧ w.cell? ⟨g, i * 2 + 1, none⟩ = (f l[i])[1]?) := by
  rcases h.2 with ⟨rfl, h0⟩ | ⟨g, cap, cur, rfl, hb, hg, hle, hcap, hsz, htk⟩
  · exact ⟨none, 0, by rw [h0], by omega⟩
  · refine ⟨some ⟨g, 0, none⟩, cap, rfl, fun _ => ⟨g, rfl, (Array.getElem?_eq_some_iff.1 hg).1, fun i hi => ?_⟩⟩
    have := flat2 f hf l i hi
    have e : ∀ j, j < l.length * 2 → w.cell? ⟨g, j, none⟩ = (l.flatMap f)[j]? := fun j hj => h.cellAt j hj
    rw [e _ (by omega), e _ (by omega)]
    exact this

theorem mkP_row {w : World} {b m : Nat} {t : TypeId} {n : Int} (h : w.rowIs b t (m * 3) (mkP n)) (k : Nat) (hk : k < m) :
    w.cell? ⟨b, k * 3, none⟩ = some (.int .i64 (2199023255552 + n)) ∧ w.cell? ⟨b, k * 3 + 1, none⟩ = some (.int .i64 (-7)) ∧ w.cell? ⟨b, k * 3 + 2, none⟩ = some (.int .i64 9) := by
  exact row_cells h k hk

set_option maxHeartbeats 1000000 in
theorem points_any (h : Nat) (s : HS) (w : World) (H : HeldInv w h s) :
    Calls Tryd.prog 25 #[.pointer (some ⟨h, 2, none⟩)] w fun e w' => e = .returned (.bool true) ∧ Below w.heap.size w w' := by
  have HH := hide H
  have hlo := H.lo
  have hhi := H.hi
  obtain ⟨aP, cP, evP, hP⟩ := owns_form (fun e => rfl) H.oP
  obtain ⟨aO, cO, evO, hO⟩ := owns_form (fun e => rfl) H.oO
  have c3 : w.cell? ⟨h, 2 + 1, none⟩ = some (.slice aP s.P.length cP) := by rw [H.wd.cell (by omega), ← evP]; rfl
  have c4 : w.cell? ⟨h, 2 + 2, none⟩ = some (.slice aO s.O.length cO) := by rw [H.wd.cell (by omega), ← evO]; rfl
  have hhl := H.wd.lt
  have HP := hide hP
  have HO := hide hO
  clear H evP evO hP hO
  have lP : (s.P.length : Int) ≤ 1099511627776 := by omega
  have lO : (s.O.length : Int) ≤ 1099511627776 := by omega
  go_enter Tryd.func25, Tryd.ntmps25
  go_wp2_with fail
  go_loopw [3] (fun t wr => ∃ i : Nat, i ≤ s.P.length ∧ t = .int .i64 i ∧ Below w.heap.size w wr) (fun t _ => s.P.length - (intOf t).toNat)
  case atStart => exact ⟨0, by omega, rfl, Below.refl _ _⟩
  case round =>
    obtain ⟨wo, rfl⟩ : ∃ wo, wo = wr := ⟨wr, rfl⟩
    obtain ⟨i, hi, rfl, hb⟩ := hrel
    have hsz := hb.size
    have d3 := (hb.cell (p := ⟨h, 2 + 1, none⟩) hhl).trans c3
    by_cases hlt : i < s.P.length
    · obtain ⟨g, rfl, hgl, hg⟩ := HP.out (by omega)
      obtain ⟨x0, x1⟩ := hg i hlt
      obtain ⟨e, he⟩ : ∃ e, s.P[i] = e := ⟨_, rfl⟩
      have hmem : e ∈ s.P := by rw [← he]; exact List.getElem_mem hlt
      rw [he] at x0 x1
      have y0 := (hb.cell (p := ⟨g, i * 2, none⟩) hgl).trans x0
      have y1 := (hb.cell (p := ⟨g, i * 2 + 1, none⟩) hgl).trans x1
      simp only [peC, List.getElem?_cons_zero, List.getElem?_cons_succ] at y0 y1
      obtain ⟨b, m, n⟩ := e
      have hrow : w.rowIs b 83 (m * 3) (mkP n) := HH.out.eP _ hmem
      obtain ⟨n0, n1, n2⟩ : 0 ≤ n ∧ n ≤ 1099511627776 ∧ m ≤ 1099511627776 := HH.out.mP _ hmem
      simp only at y0 y1
      have HR := hide hrow
      have hbl := hrow.lt
      clear hg x0 x1 he hmem hrow
      have hd1 : decide ((i : Int) < (s.P.length : Int)) = true := by simp; omega
      go_wp2_with fail
      go_loopw [5] (fun t wr => ∃ k : Nat, k ≤ m ∧ t = .int .i64 k ∧ wo.heap.size < wr.heap.size ∧ Below w.heap.size w wr ∧ wr.cell? ⟨wo.heap.size, 0, none⟩ = some (.slice (some ⟨b, 0, none⟩) m m) ∧ wr.cell? ⟨wo.heap.size, 1, none⟩ = some (.int .i64 n)) (fun t _ => m - (intOf t).toNat)
      case atStart =>
        refine ⟨0, by omega, rfl, by simp, by (repeat (any_goals (first | exact Below.refl _ _ | assumption | refine Below.drew ?_ | refine below_drewN ?_ _ | refine Below.setCell ?_ ?_ _ | refine Below.alloc ?_ ?_ _ | omega | (simp; done) | (simp; omega)))), ?_, ?_⟩
        all_goals go_simp
      case round =>
        obtain ⟨k, hk, rfl, hszr, hbr, b0, b1⟩ := hrel
        by_cases hkm : k < m
        · obtain ⟨q0, q1, q2⟩ := mkP_row (row_below HR.out hbr hbl) k hkm
          have hd2 : decide ((k : Int) < (m : Int)) = true := by simp; omega
          have g0 : (0 : Int) ≤ (k : Int) := by omega
          have g1 : (k : Int) < (m : Int) := by omega
          go_wp2_with fail
          go_region_held3 (fun w' => w'.cell? ⟨wo.heap.size, 0, none⟩ = some (.slice (some ⟨b, 0, none⟩) m m) ∧ w'.cell? ⟨wo.heap.size, 1, none⟩ = some (.int .i64 n) ∧ w'.cell? ⟨b, k * 3, none⟩ = some (.int .i64 (2199023255552 + n)) ∧ w'.cell? ⟨b, k * 3 + 1, none⟩ = some (.int .i64 (-7)) ∧ w'.cell? ⟨b, k * 3 + 2, none⟩ = some (.int .i64 9)) (go_keep) ((go_at_call 39; refine (markPoint_any _ _ n0 n1).mono ?_; rintro e w' ⟨rfl, rfl⟩))
          go_wp2
          go_roundw
          case rel =>
            refine ⟨k + 1, by omega, by go_num, by simp; omega, by (repeat (any_goals (first | exact Below.refl _ _ | assumption | refine Below.drew ?_ | refine below_drewN ?_ _ | refine Below.setCell ?_ ?_ _ | refine Below.alloc ?_ ?_ _ | omega | (simp; done) | (simp; omega)))), ?_, ?_⟩
            all_goals go_simp
          case measure => simp [intOf]; omega
        · go_wp2
          go_roundw
          case rel => exact ⟨i + 1, by omega, by go_num, hbr⟩
          case measure => simp [intOf]; omega
    · have hd0 : decide ((i : Int) < (s.P.length : Int)) = false := by simp; omega
      go_wp2_with fail
      go_loopw [6] (fun t wr => ∃ j : Nat, j ≤ s.O.length ∧ t = .int .i64 j ∧ Below w.heap.size w wr) (fun t _ => s.O.length - (intOf t).toNat)
      case atStart => exact ⟨0, by omega, rfl, hb⟩
      case round =>
        obtain ⟨wp, rfl⟩ : ∃ wp, wp = wr := ⟨wr, rfl⟩
        obtain ⟨j, hj, rfl, hbj⟩ := hrel
        have hszj := hbj.size
        have d4 := (hbj.cell (p := ⟨h, 2 + 2, none⟩) hhl).trans c4
        by_cases hltj : j < s.O.length
        · obtain ⟨g, rfl, hgl, hg⟩ := HO.out (by omega)
          obtain ⟨x0, x1⟩ := hg j hltj
          obtain ⟨e, he⟩ : ∃ e, s.O[j] = e := ⟨_, rfl⟩
          have hmem : e ∈ s.O := by rw [← he]; exact List.getElem_mem hltj
          rw [he] at x0 x1
          have y0 := (hbj.cell (p := ⟨g, j * 2, none⟩) hgl).trans x0
          have y1 := (hbj.cell (p := ⟨g, j * 2 + 1, none⟩) hgl).trans x1
          simp only [oeC, List.getElem?_cons_zero, List.getElem?_cons_succ] at y0 y1
          obtain ⟨b, m, F, n⟩ := e
          have hrow : w.rowIs b 79 m (fun i => .slice (some ⟨F i, 0, none⟩) 1 1) := HH.out.eO _ hmem
          have hin : ∀ q, q < m → w.rowIs (F q) 83 3 (mkP n) := HH.out.eI _ hmem
          obtain ⟨n0, n1, n2⟩ : 0 ≤ n ∧ n ≤ 1099511627776 ∧ m ≤ 1099511627776 := HH.out.mO _ hmem
          simp only at y0 y1
          have HR := hide hrow
          have HIn := hide hin
          have hbl := hrow.lt
          clear hg x0 x1 he hmem hrow hin
          have hd1 : decide ((j : Int) < (s.O.length : Int)) = true := by simp; omega
          go_wp2_with fail
          go_loopw [8] (fun t wr => ∃ k : Nat, k ≤ m ∧ t = .int .i64 k ∧ wp.heap.size < wr.heap.size ∧ Below w.heap.size w wr ∧ wr.cell? ⟨wp.heap.size, 0, none⟩ = some (.slice (some ⟨b, 0, none⟩) m m) ∧ wr.cell? ⟨wp.heap.size, 1, none⟩ = some (.int .i64 n)) (fun t _ => m - (intOf t).toNat)
          case atStart =>
            refine ⟨0, by omega, rfl, by simp, by (repeat (any_goals (first | exact Below.refl _ _ | assumption | refine Below.drew ?_ | refine below_drewN ?_ _ | refine Below.setCell ?_ ?_ _ | refine Below.alloc ?_ ?_ _ | omega | (simp; done) | (simp; omega)))), ?_, ?_⟩
            all_goals go_simp
          case round =>
            obtain ⟨k, hk, rfl, hszr, hbr, b0, b1⟩ := hrel
            by_cases hkm : k < m
            · have r0 := (row_below HR.out hbr hbl).cell (i := k) hkm
              obtain ⟨q0, q1, q2⟩ := mkP_row (m := 1) (row_below (HIn.out k hkm) hbr (HIn.out k hkm).lt) 0 (by omega)
              simp only [Nat.zero_mul, Nat.zero_add] at q0 q1 q2
              have hd2 : decide ((k : Int) < (m : Int)) = true := by simp; omega
              have g0 : (0 : Int) ≤ (k : Int) := by omega
              have g1 : (k : Int) < (m : Int) := by omega
              go_wp2_with fail
              go_region_held3 (fun w' => w'.cell? ⟨wp.heap.size, 1, none⟩ = some (.int .i64 n) ∧ w'.cell? ⟨F k, 0, none⟩ = some (.int .i64 (2199023255552 + n)) ∧ w'.cell? ⟨F k, 1, none⟩ = some (.int .i64 (-7)) ∧ w'.cell? ⟨F k, 2, none⟩ = some (.int .i64 9)) (go_keep) ((go_at_call 39; refine (markPoint_any _ _ n0 n1).mono ?_; rintro e w' ⟨rfl, rfl⟩))
              go_wp2
              go_roundw
              case rel =>
                refine ⟨k + 1, by omega, by go_num, by simp; omega, by (repeat (any_goals (first | exact Below.refl _ _ | assumption | refine Below.drew ?_ | refine below_drewN ?_ _ | refine Below.setCell ?_ ?_ _ | refine Below.alloc ?_ ?_ _ | omega | (simp; done) | (simp; omega)))), ?_, ?_⟩
                all_goals go_simp
              case measure => simp [intOf]; omega
            · go_wp2
              go_roundw
              case rel => exact ⟨j + 1, by omega, by go_num, hbr⟩
              case measure => simp [intOf]; omega
        · have hd3 : decide ((j : Int) < (s.O.length : Int)) = false := by simp; omega
          go_wp2
          go_ret
          exact ⟨rfl, hbj⟩
end Go.Proofs.YtkhcjkmifddlbabDoor
