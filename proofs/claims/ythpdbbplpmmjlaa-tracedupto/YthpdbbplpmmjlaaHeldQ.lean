/- The caller keeps rings. -/
import Derived.Test.YthpdbbplpmmjlaaHeldR
namespace Go.Proofs.Ythpdbbplpmmjlaa
open Go.RowKit Go.Deep

set_option maxRecDepth 100000 in
set_option maxHeartbeats 4000000 in
theorem heldRings_any (h m base : Nat) (x : Value) (V : Nat → Value) (L : Nat → List (Int × Int)) (s : HS) (w : World) (hm : m ≤ 65536) (H : HeldInv w h s) (hx : SpRings w base x m V L) (hu : s.UnderR base) (hn : s.n + m + 1 ≤ 1099511627776) :
    Calls Try.prog 43 #[.pointer (some ⟨h, 2, none⟩), x] w fun e w' => e = .returned (.tuple #[]) ∧ Touch (ringS h m s x V) w w' ∧ ∃ s', HeldInv w' h s' ∧ s'.n = s.n + m + 1 ∧ s'.cs = s.cs ∧ s'.rs = s.rs := by
  have l0 : 0 ≤ s.n := by have := H.lo; omega
  have HX := hide hx
  have HU := hide hu
  have hst : RingSt w w h base 0 m s s x V L := ⟨H, by simp, rfl, rfl, rfl, rfl, fun e he => .inl he, .inl rfl, Touch.refl _ _, hx.outer, fun i _ hi => hx.inner i hi⟩
  have HSt := hide hst
  have hform : ∃ (ao : Option Nat) (cap : Nat), x = .slice (ao.map fun b => ⟨b, 0, none⟩) m cap ∧ m ≤ cap ∧ (cap : Int) ≤ 9223372036854775807 ∧ x.ownBlock = ao ∧ (ao = none → cap = 0) := by
    rcases hx.outer.2 with ⟨rfl, h0⟩ | ⟨g, cap, cur, rfl, _, hg, hle, hcap, hsz, _⟩
    · exact ⟨none, 0, by rw [h0]; rfl, by omega, by omega, rfl, fun _ => rfl⟩
    · exact ⟨some g, cap, rfl, hle, by unfold maxLen at hcap; omega, rfl, (fun e => by cases e)⟩
  obtain ⟨ao, cap, rfl, hle, hcap, hob, hnil⟩ := hform
  have HNil := hide hnil
  have HOB := hide hob
  obtain ⟨ad, had⟩ : ∃ ad, ad = ao.map (fun b => (⟨b, 0, none⟩ : Addr)) := ⟨_, rfl⟩
  rw [← had] at HX HSt ⊢
  have HAD := hide had
  have hcapn : ad = none → cap = 0 := fun e => by
    rw [had] at e
    cases ao with
    | none => exact hnil rfl
    | some b => simp at e
  clear H hx hu hst hnil hob had
  go_enter Try.func43, Try.ntmps43
  go_wp2_with fail
  go_loopw [4] (fun t wr => ∃ (k : Nat) (s' : HS), k ≤ m ∧ t = .int .i64 k ∧ RingSt w wr h base k m s s' (.slice ad m cap) V L) (fun t _ => m - (intOf t).toNat)
  case atStart => exact ⟨0, s, by omega, rfl, HSt.out⟩
  case round =>
    obtain ⟨k, s1, hk, rfl, hR⟩ := hrel
    by_cases hlt : k < m
    · have hd1 : decide ((k : Int) < (m : Int)) = true := by simp; omega
      have hexb : ∃ b, ad = some ⟨b, 0, none⟩ := by
        rw [HAD.out]
        cases hao : ao with
        | none => have := HNil.out hao; omega
        | some b => exact ⟨b, rfl⟩
      obtain ⟨b, rfl⟩ := hexb
      have ci := hR.outer.cellAt k (by omega)
      rw [List.getElem?_map, List.getElem?_range hlt] at ci
      simp only [Option.map_some] at ci
      have hs1n : s1.n + 1 ≤ 1099511627776 := by rw [hR.n]; omega
      have HC := hide (heldSpots_any h _ base (V k) _ s1 wr hR.inv (hR.inner k (Nat.le_refl _) hlt) (hR.free HX.out HU.out hlt) hs1n)
      have HRs := hide hR
      have g0 : (0 : Int) ≤ (k : Int) := by omega
      have g1 : (k : Int) < (m : Int) := by omega
      clear hR
      go_wp2_with fail
      refine HC.out.mono ?_
      rintro e w2 ⟨rfl, hT2, s2, hI2, hK2⟩
      have HR2 := hide (HRs.out.step HX.out hlt hT2 hI2 hK2)
      clear hT2 hI2 hK2 ci
      go_wp2
      go_roundw
      case rel => exact ⟨k + 1, s2, by omega, by go_num, HR2.out⟩
      case measure => simp [intOf]; omega
    · have e : k = m := by omega
      subst e
      have hd0 : decide ((k : Int) < (k : Int)) = false := by simp
      have HRs := hide hR
      have hs1n : s1.n + 1 ≤ 1099511627776 := by rw [hR.n]; omega
      have hs1l : 0 ≤ s1.n := by rw [hR.n]; omega
      have hrow0 : ∀ b, ao = some b → ∃ f, wr.rowIs b 48 cap f := fun b hb => by
        rcases hR.outer.2 with ⟨e1, _⟩ | ⟨g, cap', cur, e1, _, hg, hle', hcap', hsz', _⟩
        · rw [HAD.out, hb] at e1; simp at e1
        · rw [HAD.out, hb] at e1
          simp at e1
          obtain ⟨rfl, rfl⟩ := e1
          exact ⟨fun q => cur[q]?.getD undef, cur, hg, by rw [hsz', Nat.mul_one], fun i hi => by simp [show i < cur.size by omega]⟩
      have HRow := hide hrow0
      clear hR hrow0
      go_wp2_with fail
      refine (mark_any h _ _ HRs.out.inv hs1n).mono ?_
      rintro e w1 ⟨rfl, hw1⟩
      have hT1 : Touch (fun b => b = h) wr w1 := by rw [hw1]; exact Touch.setCell (S := fun b => b = h) (Touch.refl _ _) (.inl (by rfl)) _
      have hI1 : HeldInv w1 h { s1 with n := s1.n + 1 } := by rw [hw1]; exact HRs.out.inv.marked hs1n
      have hR1 : ∀ b, ao = some b → ∃ f, w1.rowIs b 48 cap f := fun b hb => by
        obtain ⟨f, hf⟩ := HRow.out b hb
        exact ⟨f, hT1.row hf (row_ne hf HRs.out.inv.wd (by decide))⟩
      have HT1 := hide hT1
      have HI1 := hide hI1
      have HR1 := hide hR1
      clear hw1 hT1 hI1 hR1
      obtain ⟨mk, hmk⟩ : ∃ mk, mk = s1.n + 1 := ⟨_, rfl⟩
      rw [← hmk]
      have m0 : 0 ≤ mk := by omega
      have m1 : mk ≤ 1099511627776 := by omega
      have HM := hide hmk
      clear hmk
      go_wp2_with fail
      go_loopw [7] (fun t wq => ∃ (i : Nat) (F : Nat → Nat), i ≤ cap ∧ t = .int .i64 i ∧ Touch (fun b => ao = some b) w1 wq ∧ (∀ b, ao = some b → ∃ f0 : Nat → Value, wq.rowIs b 48 cap (fun j => if j < i then .slice (some ⟨F j, 0, none⟩) 1 1 else f0 j)) ∧ ∀ j, j < i → w1.heap.size ≤ F j ∧ wq.rowIs (F j) 41 2 (mkT mk)) (fun t _ => cap - (intOf t).toNat)
      case atStart =>
        refine ⟨0, fun _ => 0, by omega, rfl, Touch.refl _ _, fun b hb => ?_, by omega⟩
        obtain ⟨f, hf⟩ := HR1.out b hb
        exact ⟨f, hf.congr (fun j _ => by simp)⟩
      case round =>
        obtain ⟨wq, rfl⟩ : ∃ wq, wq = wr := ⟨_, rfl⟩
        obtain ⟨i, F, hi, rfl, hq, hrows, hF⟩ := hrel
        by_cases hlti : i < cap
        · have hdi : decide ((i : Int) < (cap : Int)) = true := by simp; omega
          have hex : ∃ b, ao = some b := by
            cases hao : ao with
            | none =>
              exfalso
              have := HNil.out hao
              omega
            | some b => exact ⟨b, rfl⟩
          obtain ⟨b, hao⟩ := hex
          obtain ⟨f0, hr⟩ := hrows b hao
          have had : ad = some ⟨b, 0, none⟩ := by rw [HAD.out, hao]; rfl
          subst had
          have hbl := hr.lt
          have c0 := hr.cell (i := i) hlti
          have z0 := hr.frozen i
          have g0 : (0 : Int) ≤ (i : Int) := by omega
          have g1 : (i : Int) < (cap : Int) := by omega
          have hq' : Touch (fun q => q = b) w1 wq := ⟨hq.os, hq.tape, hq.output, hq.size, fun q h1 h2 => hq.block q h1 (fun e => h2 (by rw [hao] at e; exact (Option.some.inj e).symm))⟩
          have HS := hide (ring_step (o := .cells #[.int .i64 (2199023255552 + mk), .int .i64 (-7)] 41) hq' hr hF)
          have HAo := hide hao
          clear hr hq hq' hF hrows hao
          go_wp2_with fail
          refine (markSpot_any _ _ m0 m1).mono ?_
          rintro e w2 ⟨rfl, rfl⟩
          go_wp2
          go_roundw
          case rel =>
            obtain ⟨t1, F', r1, f1⟩ := HS.out
            refine ⟨i + 1, F', by omega, by go_num, ⟨t1.os, t1.tape, t1.output, t1.size, fun q h1 h2 => t1.block q h1 (fun e => h2 (by rw [e]; exact HAo.out))⟩, fun b' hb' => ?_, f1⟩
            have e : b' = b := (Option.some.inj (HAo.out.symm.trans hb')).symm
            subst e
            exact ⟨f0, r1⟩
          case measure => simp [intOf]; omega
        · have e : i = cap := by omega
          subst e
          have hdi : decide ((i : Int) < (i : Int)) = false := by simp
          have hfull : ∀ b, ao = some b → wq.rowIs b 48 i (fun j => .slice (some ⟨F j, 0, none⟩) 1 1) := fun b hb => by
            obtain ⟨f0, hr⟩ := hrows b hb
            exact hr.congr (fun j hj => by simp [hj])
          have hIw : HeldInv wq h { s1 with n := s1.n + 1 } := HI1.out.of_blocks fun b u => hq.block b (HI1.out.used_lt u) (fun e => by
            obtain ⟨f, hr⟩ := HR1.out b e
            obtain ⟨y, hy, hyb⟩ := HI1.out.used_ring u (row_ty hr)
            have hy' : y ∈ s.R := by rw [← HRs.out.R]; exact hy
            have h1 := (HU.out.2 y hy').1 b hyb
            have h2 := (HX.out.outer.lt b (by rw [HAD.out, ← HOB.out] at *; rw [HOB.out, e])).1
            omega)
          have HFull := hide hfull
          have HIw := hide hIw
          have HQ := hide hq
          have HF := hide hF
          clear hfull hIw hq hrows hF
          have c5 : wq.cell? ⟨h, 2 + 5, none⟩ = some s1.vR := by rw [HIw.out.wd.cell (by omega)]; rfl
          have z5 := HIw.out.wd.frozen 7
          have hhl := HIw.out.wd.lt
          obtain ⟨i0, hi0, hz0, hz1, hz2⟩ := info_parts info_hr
          obtain ⟨ys, hys⟩ : ∃ ys, ys = s1.R.flatMap reC := ⟨_, rfl⟩
          have hoS : wq.ownsRow h 116 2 s1.vR s1.R.length ys := by
            rw [hys]; exact HIw.out.oR
          have HX2 := hide hys
          clear hys
          have hplen : (s1.R.length : Int) ≤ 1099511627776 := by
            have hlo := HIw.out.lo
            simp at hlo; omega
          go_wp2_with (at_builtin; refine wpList_append_lies _ rfl _ _ 30 rfl h 116 i0 (.agg #[.slice none 0 0, .int .i64 0]) 2 32 Try.underlying30 hi0 hz0 hz1 hz2 rfl (by omega) s1.vR s1.R.length ys rfl (hoS.alloc _) ⟨wq.heap.size, 0, none⟩ 1 1 [.slice ad i i, .int .i64 mk] rfl rfl ?d1 ?d2 (by omega) ?d3 ?d4 ?d5 (wq.heap.size + 1) (by simp) ?_)
          try (case d1 => exact news_sp wq [.slice ad i i, .int .i64 mk] _ _ rfl)
          case d2 => first | exact ⟨rfl, rfl⟩ | (intro u hu; simp at hu; rcases hu with rfl | rfl <;> rfl)
          case d3 => unfold maxLen; omega
          case d4 => omega
          case d5 => first | omega | (simp; omega)
          intro g1 cap1 w2 hown2 hgrow hat hlt2
          rw [HM.out, HX2.out, HAD.out] at hown2
          have hty : some h ≠ s1.vR.ownBlock := fun e => by
            have := owns_ty hoS e.symm
            rw [row_ty HIw.out.wd] at this
            simp at this
          have hI2 : HeldInv (w2.setCell ⟨h, 7, none⟩ (.slice (some ⟨g1, 0, none⟩) (s1.R.length + 1) cap1)) h { ({ s1 with n := s1.n + 1 } : HS) with vR := .slice (some ⟨g1, 0, none⟩) (s1.R.length + 1) cap1, R := s1.R ++ [(ao, i, F, s1.n + 1)] } :=
            HeldInv.pushR (b := ao) (m := i) (g := g1) (cap := cap1) (F := F) HIw.out HFull.out (fun j hj => by show wq.rowIs (F j) _ 2 (mkT (s1.n + 1)); rw [← HM.out]; exact (HF.out j hj).2) HNil.out hcap (by have := HRs.out.inv.lo; simp at this ⊢; omega) hown2 hgrow hat
          have hT2 : Touch (ringS h k s (.slice ad k i) V) w (w2.setCell ⟨h, 7, none⟩ (.slice (some ⟨g1, 0, none⟩) (s1.R.length + 1) cap1)) := by
            have t1 := HRs.out.touch.trans' HT1.out (fun q hq => .inl (.inl hq))
            have t2 := t1.trans' HQ.out (fun q hq => .inl (.inr (.inr (.inr (.inl (by rw [HAD.out, HOB.out]; exact hq))))))
            have t3 := (t2.alloc _).grown hgrow (fun b hb => .inl (.inr (.inr (.inl (by rw [← HRs.out.vR]; exact hb)))))
            exact t3.setCell (.inl (.inl (by rfl))) _
          have HI2 := hide hI2
          have HT2 := hide hT2
          have HNn : Hid (s1.n + 1 = s.n + k + 1 ∧ s1.cs = s.cs ∧ s1.rs = s.rs) := ⟨by rw [HRs.out.n], HRs.out.cs, HRs.out.rs⟩
          have c5' := (hgrow.cell_far ⟨h, 2 + 5, none⟩ (by simp; omega) hty).trans (by go_simp : _ = some s1.vR)
          have z5' := (hgrow.frozen_far ⟨h, 7, none⟩ (by simp; omega) hty).trans (by go_simp : _ = false)
          clear hown2 hgrow hat hty hoS hI2 hT2
          go_wp2
          go_end0
          exact ⟨rfl, HT2.out, _, HI2.out, HNn.out.1, HNn.out.2.1, HNn.out.2.2⟩
end Go.Proofs.Ythpdbbplpmmjlaa
