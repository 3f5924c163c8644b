/- sameSpots; the caller keeps spots. -/
import Derived.Test.YtkhcjkmifddlbaaSpots
import Derived.Test.YtkhcjkmifddlbaaHeldB
import Derived.Test.YtkhcjkmifddlbaaHeldC
namespace Go.Proofs.Ytkhcjkmifddlbaa
open Go.RowKit Go.Deep

set_option maxRecDepth 100000 in
set_option maxHeartbeats 1000000 in
theorem sameSpots_any (v v' : Value) (base base' : Nat) (l : List (Int × Int)) (w : World) (hl : l.length ≤ 4294967296) (h1 : w.ownsRow base 41 2 v l.length (l.flatMap spC)) (h2 : w.ownsRow base' 41 2 v' l.length (l.flatMap spC)) :
    Calls Try.prog 61 #[v, v'] w fun e w' => e = .returned (.bool true) ∧ ∃ nd, w' = w.drewN nd := by
  obtain ⟨ao, cap, rfl, ha⟩ := owns_formN h1
  obtain ⟨ao', cap', rfl, ha'⟩ := owns_formN h2
  have H1 := hide h1
  have H2 := hide h2
  have HA := hide ha
  have HA' := hide ha'
  clear h1 h2 ha ha'
  obtain ⟨n, hn⟩ : ∃ n, n = l.length := ⟨_, rfl⟩
  rw [← hn] at hl ⊢
  have HN := hide hn
  clear hn
  go_enter Try.func61, Try.ntmps61
  go_wp2_with fail
  go_loopw [5] (fun i wr => ∃ k nd : Nat, k ≤ n ∧ i = .int .i64 k ∧ wr = w.drewN nd) (fun i _ => n - (intOf i).toNat)
  case atStart => exact ⟨0, 0, by omega, rfl, rfl⟩
  case round =>
    obtain ⟨k, nd, hk, rfl, rfl⟩ := hrel
    by_cases hlt : k < n
    · obtain ⟨b, rfl⟩ := HA.out (by rw [← HN.out]; omega)
      obtain ⟨b', rfl⟩ := HA'.out (by rw [← HN.out]; omega)
      have hkl : k < l.length := by rw [← HN.out]; exact hlt
      obtain ⟨q0, q1⟩ := owns_sp H1.out k hkl
      obtain ⟨r0, r1⟩ := owns_sp H2.out k hkl
      obtain ⟨S, hS⟩ : ∃ S, S = l[k] := ⟨_, rfl⟩
      rw [← hS] at q0 q1 r0 r1
      clear hS
      have g0 : (0 : Int) ≤ (k : Int) := by omega
      have g1 : (k : Int) < (n : Int) := by omega
      have hd1 : decide ((k : Int) < (n : Int)) = true := by simp; omega
      go_wp2
      go_quiet (fail)
      go_wp2
      go_roundw
      case rel => exact ⟨k + 1, nd + nq, by omega, by go_num, rfl⟩
      case measure => simp [intOf]; omega
    · go_wp2
      go_ret
      exact ⟨rfl, nd, rfl⟩

theorem info_ht : (Try.prog.info? 164).map (fun i => (i.zero, i.size, i.bytes)) = some (some (.agg #[.slice none 0 0, .int .i64 0]), 2, 32) := by kernel_rfl

theorem markT_step {wr : World} {b m i : Nat} {t : TypeId} {f : Nat → Value} {mk : Int} (h : wr.rowIs b t (m * 2) f) (hf : ∀ q, q < i * 2 → f q = mkT mk q) (wr2 : World) (hb : wr2.heap[b]? = wr.heap[b]?) :
    ∃ f', ((wr2.setCell ⟨b, i * 2, none⟩ (.int .i64 (2199023255552 + mk))).setCell ⟨b, i * 2 + 1, none⟩ (.int .i64 (-7))).rowIs b t (m * 2) f' ∧ ∀ q, q < (i + 1) * 2 → f' q = mkT mk q := by
  refine ⟨_, (((h.of_block hb).set (i * 2) _).set (i * 2 + 1) _), fun q hq => ?_⟩
  by_cases e1 : q = i * 2 + 1
  · subst e1; rw [if_pos rfl]; unfold mkT; rw [if_neg (by omega)]
  rw [if_neg e1]
  by_cases e0 : q = i * 2
  · subst e0; rw [if_pos rfl]; unfold mkT; rw [if_pos (by omega)]
  rw [if_neg e0]
  exact hf q (by omega)

theorem markSpot_b (n : Int) (w : World) (h0 : 0 ≤ n) (h1 : n ≤ 1099511627776) :
    Calls Try.prog 91 #[.int .i64 n] w fun e w' => e = .returned (.agg #[.int .i64 (2199023255552 + n), .int .i64 (-7)]) ∧ Below w.heap.size w w' :=
  (markSpot_any n w h0 h1).mono fun e w' ⟨he, hw⟩ => ⟨he, by rw [hw]; (repeat (any_goals (first | exact Below.refl _ _ | assumption | refine Below.drew ?_ | refine below_drewN ?_ _ | refine Below.setCell ?_ ?_ _ | refine Below.alloc ?_ ?_ _ | omega | (simp; done) | (simp; omega))))⟩

/-- What spots may write. -/
def spotS (h : Nat) (s : HS) (x : Value) (b : Nat) : Prop := b = h ∨ s.vT.ownBlock = some b ∨ x.ownBlock = some b

/-- No spots that are held lie at block b. -/
def HS.Free (s : HS) (b : Nat) : Prop := (∀ e ∈ s.T, e.1 ≠ some b) ∧ ∀ e ∈ s.R, ∀ i, i < e.2.1 → e.2.2.1 i ≠ b

/-- What stays as it was, and what is new among the spots. -/
structure SpotsKept (w : World) (s s' : HS) (x : Value) : Prop where
  n : s'.n = s.n + 1
  cs : s'.cs = s.cs
  rs : s'.rs = s.rs
  P : s'.P = s.P
  O : s'.O = s.O
  S : s'.S = s.S
  R : s'.R = s.R
  vR : s'.vR = s.vR
  T : ∀ e ∈ s'.T, e ∈ s.T ∨ e.1 = x.ownBlock
  vT : s'.vT.ownBlock = s.vT.ownBlock ∨ ∃ g, s'.vT.ownBlock = some g ∧ w.heap.size ≤ g

set_option maxRecDepth 100000 in
set_option maxHeartbeats 4000000 in
theorem heldSpots_any (h n base : Nat) (x : Value) (xs : List Value) (s : HS) (w : World) (H : HeldInv w h s) (hx : w.ownsRow base 41 2 x n xs) (hne : ∀ b, x.ownBlock = some b → s.Free b) (hn : s.n + 1 ≤ 1099511627776) :
    Calls Try.prog 62 #[.pointer (some ⟨h, 2, none⟩), x] w fun e w' => e = .returned (.tuple #[]) ∧ Touch (spotS h s x) w w' ∧ ∃ s', HeldInv w' h s' ∧ SpotsKept w s s' x := by
  have l0 : 0 ≤ s.n := by have := H.lo; omega
  have HH := hide H
  have HNe := hide hne
  have hform : ∃ (ao : Option Nat) (cap : Nat), x = .slice (ao.map fun b => ⟨b, 0, none⟩) n cap ∧ n ≤ cap ∧ (cap : Int) ≤ 9223372036854775807 ∧ x.ownBlock = ao ∧ (ao = none → cap = 0) ∧ ∀ b, ao = some b → ∃ f, w.rowIs b 41 (cap * 2) f := by
    rcases hx.2 with ⟨rfl, h0⟩ | ⟨g, cap, cur, rfl, _, hg, hle, hcap, hsz, _⟩
    · exact ⟨none, 0, by rw [h0]; rfl, by omega, by omega, rfl, fun _ => rfl, fun b hb => by cases hb⟩
    · refine ⟨some g, cap, rfl, hle, by unfold maxLen at hcap; omega, rfl, (fun e => by cases e), fun b hb => ?_⟩
      simp at hb; subst hb
      exact ⟨fun q => cur[q]?.getD undef, cur, hg, hsz, fun i hi => by simp [show i < cur.size by omega]⟩
  obtain ⟨ao, cap, rfl, hle, hcap, hob, hnil, hrow⟩ := hform
  have HRow := hide hrow
  have HNil := hide hnil
  have HOB := hide hob
  clear H hx hne hrow hob
  obtain ⟨ad, had⟩ : ∃ ad, ad = ao.map (fun b => (⟨b, 0, none⟩ : Addr)) := ⟨_, rfl⟩
  rw [← had]
  have HAD := hide had
  clear had
  have hcapn : ad = none → cap = 0 := fun e => by
    have := HAD.out
    rw [e] at this
    cases ao with
    | none => exact hnil rfl
    | some b => simp at this
  clear hnil
  go_enter Try.func62, Try.ntmps62
  go_wp2_with fail
  refine (mark_any h _ _ HH.out hn).mono ?_
  rintro e w1 ⟨rfl, hw1⟩
  have hT1 : Touch (fun b => b = h) w w1 := by rw [hw1]; exact Touch.setCell (S := fun b => b = h) (Touch.refl _ _) (.inl (by rfl)) _
  have hI1 : HeldInv w1 h { s with n := s.n + 1 } := by rw [hw1]; exact HH.out.marked hn
  have hR1 : ∀ b, ao = some b → ∃ f, w1.rowIs b 41 (cap * 2) f := fun b hb => by
    obtain ⟨f, hf⟩ := HRow.out b hb
    exact ⟨f, hT1.row hf (row_ne hf HH.out.wd (by decide))⟩
  have HT1 := hide hT1
  have HI1 := hide hI1
  have HR1 := hide hR1
  clear hw1 hT1 hI1 hR1
  obtain ⟨mk, hmk⟩ : ∃ mk, mk = s.n + 1 := ⟨_, rfl⟩
  rw [← hmk]
  have m0 : 0 ≤ mk := by omega
  have m1 : mk ≤ 1099511627776 := by omega
  have HM := hide hmk
  clear hmk
  go_wp2_with fail
  go_loopw [6] (fun t wr => ∃ i : Nat, i ≤ cap ∧ t = .int .i64 i ∧ Touch (fun b => ao = some b) w1 wr ∧ ∀ b, ao = some b → ∃ f, wr.rowIs b 41 (cap * 2) f ∧ ∀ q, q < i * 2 → f q = mkT mk q) (fun t _ => cap - (intOf t).toNat)
  case atStart =>
    refine ⟨0, by omega, rfl, Touch.refl _ _, fun b hb => ?_⟩
    obtain ⟨f, hf⟩ := HR1.out b hb
    exact ⟨f, hf, by omega⟩
  case round =>
    obtain ⟨i, hi, rfl, hq, hrows⟩ := hrel
    by_cases hlt : i < cap
    · have hd1 : decide ((i : Int) < (cap : Int)) = true := by simp; omega
      have hex : ∃ b, ao = some b := by
        cases hao : ao with
        | none =>
          exfalso
          have := hcapn (by rw [HAD.out, hao]; rfl)
          omega
        | some b => exact ⟨b, rfl⟩
      obtain ⟨b, hao⟩ := hex
      obtain ⟨f, hr, hf⟩ := hrows b hao
      have had : ad = some ⟨b, 0, none⟩ := by rw [HAD.out, hao]; rfl
      subst had
      have hbl := hr.lt
      have HQ := hide hq
      have HRw := hide (And.intro hr hf)
      clear hq hrows hr hf
      have g0 : (0 : Int) ≤ (i : Int) := by omega
      have g1 : (i : Int) < (cap : Int) := by omega
      go_wp2_with fail
      refine (markSpot_b _ _ m0 m1).mono ?_
      rintro e w2 ⟨rfl, hb2⟩
      have hr2 := row_below HRw.out.1 hb2 hbl
      have c0 := hr2.cell (i := i * 2) (by omega)
      have z0 := hr2.frozen (i * 2)
      have c1 := hr2.cell (i := i * 2 + 1) (by omega)
      have z1 := hr2.frozen (i * 2 + 1)
      have hbl2 := hr2.lt
      have HSt := hide (markT_step HRw.out.1 HRw.out.2 w2 (hb2.block b hbl))
      have HT2 := hide (HQ.out.of_below hb2)
      have HAo := hide hao
      clear hr2 hb2 hao
      go_wp2
      go_roundw
      case rel =>
        obtain ⟨f', hf1, hf2⟩ := HSt.out
        refine ⟨i + 1, by omega, by go_num, ?_, fun b' hb' => ?_⟩
        · have hSb : (fun b => ao = some b) b ∨ w1.heap.size ≤ b := .inl HAo.out
          exact (HT2.out.setCell (p := ⟨b, i * 2, none⟩) hSb _).setCell (p := ⟨b, i * 2 + 1, none⟩) hSb _
        · have e : b' = b := (Option.some.inj (HAo.out.symm.trans hb')).symm
          subst e
          exact ⟨f', hf1, hf2⟩
      case measure => simp [intOf]; omega
    · have e : i = cap := by omega
      have hd0 : decide ((i : Int) < (cap : Int)) = false := by simp; omega
      have hfull : ∀ b, ao = some b → wr.rowIs b 41 (cap * 2) (mkT mk) := fun b hb => by
        obtain ⟨f, hr, hf⟩ := hrows b hb
        exact hr.congr (fun q hq => hf q (by omega))
      have hIw : HeldInv wr h { s with n := s.n + 1 } := HI1.out.of_blocks fun b u => hq.block b (HI1.out.used_lt u) (fun e => by
        obtain ⟨f, hr⟩ := HR1.out b e
        have hF := HNe.out b (by rw [HOB.out]; exact e)
        rcases HI1.out.used_spot u (row_ty hr) with ⟨x, hx, hxb⟩ | ⟨x, hx, j, hj, hxb⟩
        · exact hF.1 x hx hxb
        · exact hF.2 x hx j hj hxb)
      have HFull := hide hfull
      have HIw := hide hIw
      have HQ := hide hq
      clear hfull hIw hq hrows
      have c5 : wr.cell? ⟨h, 2 + 4, none⟩ = some s.vT := by rw [HIw.out.wd.cell (by omega)]; rfl
      have z5 := HIw.out.wd.frozen 6
      have hhl := HIw.out.wd.lt
      obtain ⟨i0, hi0, hz0, hz1, hz2⟩ := info_parts info_ht
      obtain ⟨ys, hys⟩ : ∃ ys, ys = s.T.flatMap seC := ⟨_, rfl⟩
      have hoS : wr.ownsRow h 164 2 s.vT s.T.length ys := by
        rw [hys]; exact HIw.out.oT
      have HX2 := hide hys
      clear hys
      have hplen : (s.T.length : Int) ≤ 1099511627776 := by
        have hlo := HIw.out.lo
        simp at hlo; omega
      go_wp2_with (at_builtin; refine wpList_append_lies _ rfl _ _ 29 rfl h 164 i0 (.agg #[.slice none 0 0, .int .i64 0]) 2 32 Try.underlying29 hi0 hz0 hz1 hz2 rfl (by omega) s.vT s.T.length ys rfl (hoS.alloc _) ⟨wr.heap.size, 0, none⟩ 1 1 [.slice ad cap cap, .int .i64 mk] rfl rfl ?d1 ?d2 (by omega) ?d3 ?d4 ?d5 (wr.heap.size + 1) (by simp) ?_)
      try (case d1 => exact news_sp wr [.slice ad cap cap, .int .i64 mk] _ _ rfl)
      case d2 => first | exact ⟨rfl, rfl⟩ | (intro u hu; simp at hu; rcases hu with rfl | rfl <;> rfl)
      case d3 => unfold maxLen; omega
      case d4 => omega
      case d5 => first | omega | (simp; omega)
      intro g1 cap1 w2 hown2 hgrow hat hlt2
      rw [HM.out, HX2.out, HAD.out] at hown2
      have hty : some h ≠ s.vT.ownBlock := fun e => by
        have := owns_ty hoS e.symm
        rw [row_ty HIw.out.wd] at this
        simp at this
      have hI2 : HeldInv (w2.setCell ⟨h, 6, none⟩ (.slice (some ⟨g1, 0, none⟩) (s.T.length + 1) cap1)) h { ({ s with n := s.n + 1 } : HS) with vT := .slice (some ⟨g1, 0, none⟩) (s.T.length + 1) cap1, T := s.T ++ [(ao, cap, s.n + 1)] } :=
        HeldInv.pushT (b := ao) (m := cap) (g := g1) (cap := cap1) HIw.out (fun b hb => by show wr.rowIs b _ (cap * 2) (mkT (s.n + 1)); rw [← HM.out]; exact HFull.out b hb) HNil.out hcap (by have := HH.out.lo; simp at this ⊢; omega) hown2 hgrow hat
      have hT2 : Touch (spotS h s (.slice (ao.map fun b => ⟨b, 0, none⟩) n cap)) w (w2.setCell ⟨h, 6, none⟩ (.slice (some ⟨g1, 0, none⟩) (s.T.length + 1) cap1)) := by
        have t0 : Touch (spotS h s (.slice (ao.map fun b => ⟨b, 0, none⟩) n cap)) w w := Touch.refl _ _
        have t1 := t0.trans' HT1.out (fun x hx => .inl (.inl hx))
        have t2 := t1.trans' HQ.out (fun x hx => .inl (.inr (.inr (by rw [HOB.out]; exact hx))))
        have t3 := (t2.alloc _).grown hgrow (fun b hb => .inl (.inr (.inl hb)))
        exact t3.setCell (.inl (.inl (by rfl))) _
      have hsw : w.heap.size ≤ wr.heap.size := Nat.le_trans HT1.out.size HQ.out.size
      have hK : SpotsKept w s { ({ s with n := s.n + 1 } : HS) with vT := .slice (some ⟨g1, 0, none⟩) (s.T.length + 1) cap1, T := s.T ++ [(ao, cap, s.n + 1)] } (.slice (ao.map fun b => ⟨b, 0, none⟩) n cap) := by
        refine ⟨rfl, rfl, rfl, rfl, rfl, rfl, rfl, rfl, fun e he => ?_, ?_⟩
        · rcases List.mem_append.1 he with he | he
          · exact .inl he
          · simp at he; subst he; exact .inr HOB.out.symm
        · rcases hat with hat | hat
          · exact .inl (by rw [hat]; rfl)
          · exact .inr ⟨g1, rfl, by omega⟩
      have HK := hide hK
      have HI2 := hide hI2
      have HT2 := hide hT2
      have c5' := (hgrow.cell_far ⟨h, 2 + 4, none⟩ (by simp; omega) hty).trans (by go_simp : _ = some s.vT)
      have z5' := (hgrow.frozen_far ⟨h, 6, none⟩ (by simp; omega) hty).trans (by go_simp : _ = false)
      clear hown2 hgrow hat hty hoS hI2 hT2 hK
      go_wp2
      go_end0
      exact ⟨rfl, by rw [HAD.out]; exact HT2.out, _, HI2.out, by rw [HAD.out]; exact HK.out⟩
end Go.Proofs.Ytkhcjkmifddlbaa
