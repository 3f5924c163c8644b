/- Joined: CanL, CanI. -/
import Derived.Test.YtkhcjkmifddlbaaGreatDoorPart14
/- CanL -/
namespace Go.Proofs.YtkhcjkmifddlbaaGreatDoor
open Go.RowKit Go.Deep

theorem scr_cells {w : World} {b off i L : Nat} {ops : Nat → OpV} (h : ∀ i, i < L → ∀ q, q < 29 → w.cell? ⟨b, off + i * 29 + q, none⟩ = (opL (ops i))[q]?) (hi : i < L) :
    w.cell? ⟨b, off + i * 29, none⟩ = some (.int .i64 (ops i).kd) := h i hi 0 (by omega)
theorem cans_start (w : World) (h : Nat) : Cans w h hs0 0 (fun _ => 0) (fun _ => 0) (fun _ _ => False) :=
  ⟨World.ownsRow_nil _ _ _ _, World.ownsRow_nil _ _ _ _, fun k hk => by omega, fun k l hk => by omega, fun k hk => by omega, fun q hq => by simp [hs0, Value.ownBlock] at hq, fun k hk => by omega⟩

set_option maxRecDepth 100000 in
set_option maxHeartbeats 8000000 in
theorem plays_any (ad : Option Addr) (L cc : Nat) (last : Int) (ops : Nat → OpV) (w : World) (hL : L ≤ 1048576) (hsc : ScrAt w ad L ops) (hsum : Num.sumN (fun i => (ops i).N) L ≤ 1048576) (hst : ∀ i, i < L → (ops i).kd ≤ last → StepOk w w.heap.size (ops i)) :
    Calls Tryz.prog 4 #[.slice ad L cc, .int .i64 last] w fun e w' => e = .returned (.bool true) ∧ Below w.heap.size w w' := by
  have HSc := hide hsc
  have HSt := hide hst
  have H0 := hide (held_start w)
  clear hsc hst
  go_enter Tryz.func4, Tryz.ntmps4
  go_wp2_with fail
  go_loopw [6] (fun t wr => ∃ (i : Nat) (s : HS) (K : Nat) (B R : Nat → Nat) (F : Nat → Nat → Prop), i ≤ L ∧ t = .int .i64 i ∧ Below w.heap.size w wr ∧ HeldInv wr w.heap.size s ∧ Cans wr w.heap.size s K B R F ∧ s.n ≤ 24 * (i : Int) + (Num.sumN (fun j => (ops j).N) i : Nat) ∧ K ≤ i) (fun t _ => L - (intOf t).toNat)
  case atStart =>
    refine ⟨0, hs0, 0, _, _, _, by omega, rfl, by (repeat (any_goals (first | exact Below.refl _ _ | assumption | refine Below.drew ?_ | refine below_drewN ?_ _ | refine Below.setCell ?_ ?_ _ | refine Below.alloc ?_ ?_ _ | omega | (simp; done) | (simp; omega)))), H0.out, cans_start _ _, by simp [hs0, Num.sumN], by omega⟩
  case round =>
    obtain ⟨wo, rfl⟩ : ∃ wo, wo = wr := ⟨_, rfl⟩
    obtain ⟨i, s, K, B, R, F, hi, rfl, hb, hI, hC, hn, hK⟩ := hrel
    by_cases hlt : i < L
    · have hd1 : decide ((i : Int) < (L : Int)) = true := by simp; omega
      have g0 : (0 : Int) ≤ (i : Int) := by omega
      have g1 : (i : Int) < (L : Int) := by omega
      obtain ⟨bb, off, rfl, hbl, hcell⟩ : ∃ b off, ad = some ⟨b, off, none⟩ ∧ b < w.heap.size ∧ ∀ i, i < L → ∀ q, q < 29 → w.cell? ⟨b, off + i * 29 + q, none⟩ = (opL (ops i))[q]? := by
        rcases HSc.out with h | h
        · omega
        · exact h
      have hcw : ∀ q, q < 29 → wo.cell? ⟨bb, off + i * 29 + q, none⟩ = (opL (ops i))[q]? := fun q hq => (hb.cell (p := ⟨bb, off + i * 29 + q, none⟩) hbl).trans (hcell i hlt q hq)
      have hsi : s.n + (ops i).N + 24 ≤ 1099511627776 := by
        have e1 := Num.sumN_mono (fun j => (ops j).N) (show i + 1 ≤ L by omega)
        simp only [Num.sumN] at e1
        omega
      have HS1 : Hid (Num.sumN (fun j => (ops j).N) (i + 1) = Num.sumN (fun j => (ops j).N) i + (ops i).N) := rfl
      have HSi := hide (fun hk => HSt.out i hlt hk)
      have HRg : Hid (wo.rangeAt bb (off + i * 29) (opL (ops i))) := fun j v hv => by
        have hj : j < 29 := by
          rcases Nat.lt_or_ge j 29 with h | h
          · exact h
          · rw [List.getElem?_eq_none (show (opL (ops i)).length ≤ j from h)] at hv; cases hv
        rw [hcw j hj]; exact hv
      have q0 : wo.cell? ⟨bb, off + i * 29, none⟩ = some (.int .i64 (ops i).kd) := hcw 0 (by omega)
      have HInf : Hid ((Tryz.prog.info? 49).map (·.size) = some (opL (ops i)).length) := info_op
      obtain ⟨o, ho⟩ : ∃ o, o = ops i := ⟨_, rfl⟩
      rw [← ho] at hsi HS1 HSi HRg q0 HInf
      have hbo : bb < wo.heap.size := by have := hb.size; omega
      have hhI := hI.wd.lt
      have HI := hide (And.intro hI (And.intro hC (And.intro hn hK)))
      have HB := hide hb
      obtain ⟨kd, hkd⟩ : ∃ kd, kd = o.kd := ⟨_, rfl⟩
      rw [← hkd] at HSi q0
      clear hcell hcw hb hI hC hn hK ho hkd
      by_cases hkl : kd ≤ last
      · have hgt : ¬ last < kd := by omega
        have HCall := hide (HSi.out hkl wo s K B R F HB.out HI.out.1 HI.out.2.1 (by have := HI.out.2.2.2; omega) hsi)
        obtain ⟨cs, hcs⟩ : ∃ cs, cs = opL o := ⟨_, rfl⟩
        rw [← hcs] at HCall HRg HInf
        clear hcs
        go_wp2_with (refine wpList_load_mid rfl 49 _ rfl bb (off + i * 29) rfl cs _ HRg.out Tryz.underlying49 rfl HInf.out ?_)
        refine HCall.out.mono ?_
        rintro e w2 ⟨rfl, hb2, s2, K2, B2, R2, F2, hI2, hC2, hn2, hk2⟩
        have hs2 := hb2.size
        have hh2 := hI2.wd.lt
        have HI2 := hide (And.intro hI2 (And.intro hC2 (And.intro hn2 hk2)))
        have HB2 := hide (HB.out.trans hb2)
        clear hb2 hI2 hC2 hn2 hk2 HCall q0
        go_wp2_with fail
        refine (dry_any w.heap.size s2 w2 HI2.out.1).mono ?_
        rintro e w3 ⟨rfl, hb3⟩
        have HB3 := hide hb3
        clear hb3
        go_wp2
        go_roundw
        case rel =>
          have hs0 := HB2.out.size
          refine ⟨i + 1, s2, K2, B2, R2, F2, by omega, by go_num, HB2.out.trans (HB3.out.mono (by omega)), HI2.out.1.below HB3.out, HI2.out.2.1.below HB3.out, ?_, ?_⟩
          · have h1 := HI2.out.2.2.1
            have h2 := HI.out.2.2.1
            rw [HS1.out]
            omega
          · have h1 := HI2.out.2.2.2
            have h2 := HI.out.2.2.2
            omega
        case measure => simp [intOf]; omega
      · have hgt : last < kd := by omega
        go_wp2
        go_roundw
        case rel =>
          refine ⟨i + 1, s, K, B, R, F, by omega, by go_num, HB.out, HI.out.1, HI.out.2.1, ?_, ?_⟩
          · have h2 := HI.out.2.2.1
            rw [HS1.out]
            omega
          · have h2 := HI.out.2.2.2
            omega
        case measure => simp [intOf]; omega
    · have hd0 : decide ((i : Int) < (L : Int)) = false := by simp; omega
      have HB := hide hb
      clear hb hI hC
      go_wp2
      go_ret
      exact ⟨rfl, HB.out⟩
end Go.Proofs.YtkhcjkmifddlbaaGreatDoor

/- CanI -/
namespace Go.Proofs.YtkhcjkmifddlbaaGreatDoor
open Go.RowKit Go.Deep

set_option maxRecDepth 100000 in
set_option maxHeartbeats 1000000 in
theorem canvases_any (ad : Option Addr) (L cc : Nat) (ops : Nat → OpV) (w : World) (hL : L ≤ 1048576) (hsc : ScrAt w ad L ops) (hsum : Num.sumN (fun i => (ops i).N) L ≤ 1048576) (q : Nat) (hq : q ≤ 1048576) (ha : ∀ i, i < L → OpAt w (ops i) q) :
    Calls Tryz.prog 3 #[.slice ad L cc] w fun e w' => e = .returned (.bool true) ∧ Below w.heap.size w w' := by
  have HC := hide (plays_any ad L cc 7 ops w hL hsc hsum (fun i hi hk => stepLow w w.heap.size (ops i) q hq (ha i hi) (Nat.le_refl _) hk))
  clear hsc ha
  go_enter Tryz.func3, Tryz.ntmps3
  go_wp2_with fail
  refine HC.out.mono ?_
  rintro e w' ⟨rfl, hb⟩
  have HB := hide hb
  clear hb
  go_wp2
  go_ret
  exact ⟨rfl, HB.out⟩
end Go.Proofs.YtkhcjkmifddlbaaGreatDoor
