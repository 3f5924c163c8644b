/- Bytes: sameBytes, sameGray; the caller keeps bytes. -/
import Derived.Test.YtkhcjkmifddlbabDoorSpots
import Derived.Test.YtkhcjkmifddlbabDoorHeldB
import Derived.Test.YtkhcjkmifddlbabDoorHeldC
namespace Go.Proofs.YtkhcjkmifddlbabDoor
open Go.RowKit Go.Deep

/-- n bytes in memory, X k the k-th. -/
def ByAt (w : World) (a : Option Addr) (n : Nat) (X : Nat → Int) : Prop :=
  n = 0 ∨ ∃ b off, a = some ⟨b, off, none⟩ ∧ ∀ k, k < n → w.cell? ⟨b, off + k, none⟩ = some (.int .u8 (X k))
theorem ByAt.below {w w' : World} {a : Option Addr} {n : Nat} {X : Nat → Int} (h : ByAt w a n X) (hb : Below w.heap.size w w') : ByAt w' a n X := by
  rcases h with h | ⟨b, off, ha, hc⟩
  · exact Or.inl h
  · refine Or.inr ⟨b, off, ha, fun k hk => ?_⟩
    have c0 := hc k hk
    have hlt : b < w.heap.size := World.block_lt_of_cell? w _ c0
    exact (hb.cell (p := ⟨b, _, none⟩) hlt).trans c0
theorem ByAt.of_row {w : World} {b n m : Nat} {t : TypeId} {f : Nat → Value} {X : Nat → Int} (h : w.rowIs b t m f) (hn : n ≤ m) (hf : ∀ k, k < n → f k = .int .u8 (X k)) : ByAt w (some ⟨b, 0, none⟩) n X :=
  .inr ⟨b, 0, rfl, fun k hk => by rw [Nat.zero_add, h.cell (i := k) (by omega), hf k hk]⟩

set_option maxRecDepth 100000 in
set_option maxHeartbeats 1000000 in
theorem sameBytes_any (a a' : Option Addr) (n c c' : Nat) (X : Nat → Int) (w : World) (hn : (n : Int) ≤ 9223372036854775807) (h1 : ByAt w a n X) (h2 : ByAt w a' n X) :
    Calls Tryd.prog 37 #[.slice a n c, .slice a' n c'] w fun e w' => e = .returned (.bool true) ∧ ∃ nd, w' = w.drewN nd := by
  have H1 := hide h1
  have H2 := hide h2
  clear h1 h2
  go_enter Tryd.func37, Tryd.ntmps37
  go_wp2_with fail
  go_loopw [5] (fun i wr => ∃ k nd : Nat, k ≤ n ∧ i = .int .i64 k ∧ wr = w.drewN nd) (fun i _ => n - (intOf i).toNat)
  case atStart => exact ⟨0, 0, by omega, rfl, rfl⟩
  case round =>
    obtain ⟨k, nd, hk, rfl, rfl⟩ := hrel
    by_cases hlt : k < n
    · obtain h0 | ⟨b, off, rfl, hc⟩ := H1.out
      · omega
      obtain h0 | ⟨b', off', rfl, hc'⟩ := H2.out
      · omega
      have q0 := hc k hlt
      have q1 := hc' k hlt
      clear hc hc'
      have g0 : (0 : Int) ≤ (k : Int) := by omega
      have g1 : (k : Int) < (n : Int) := by omega
      have hd1 : decide ((k : Int) < (n : Int)) = true := by simp; omega
      go_wp2
      go_quiet (fail)
      go_wp2
      go_roundw
      case rel => exact ⟨k + 1, nd + nq, by omega, by go_num, rfl⟩
      case measure => simp [intOf]; omega
    · have hd0 : decide ((k : Int) < (n : Int)) = false := by simp; omega
      go_wp2
      go_ret
      exact ⟨rfl, nd, rfl⟩

theorem below_drewN_self (w : World) (n : Nat) : Below w.heap.size w (w.drewN n) := below_drewN (Below.refl _ _) _

set_option maxRecDepth 100000 in
set_option maxHeartbeats 1000000 in
theorem sameGray_any (a a' : Option Addr) (n c c' : Nat) (W H : Int) (X : Nat → Int) (w : World) (hn : (n : Int) ≤ 9223372036854775807) (h1 : ByAt w a n X) (h2 : ByAt w a' n X) :
    Calls Tryd.prog 22 #[.agg #[.int .i64 W, .int .i64 H, .slice a n c], .agg #[.int .i64 W, .int .i64 H, .slice a' n c']] w fun e w' => e = .returned (.bool true) ∧ Below w.heap.size w w' := by
  obtain ⟨W1, hW1⟩ : ∃ W1, W1 = w.alloc (.cells #[.int .i64 W, .int .i64 H, .slice a n c] 24) := ⟨_, rfl⟩
  obtain ⟨W2, hW2⟩ : ∃ W2, W2 = W1.alloc (.cells #[.int .i64 W, .int .i64 H, .slice a' n c'] 24) := ⟨_, rfl⟩
  have hB : Below w.heap.size w W2 := by rw [hW2, hW1]; (repeat (any_goals (first | exact Below.refl _ _ | assumption | refine Below.drew ?_ | refine below_drewN ?_ _ | refine Below.setCell ?_ ?_ _ | refine Below.alloc ?_ ?_ _ | omega | (simp; done) | (simp; omega))))
  have HC := hide (sameBytes_any a a' n c c' X W2 hn (h1.below hB) (h2.below hB))
  have HB := hide hB
  clear h1 h2 hB
  go_enter Tryd.func22, Tryd.ntmps22
  go_wp2_with fail
  rw [← hW1, ← hW2]
  refine HC.out.mono ?_
  rintro e w' ⟨rfl, nd, hw⟩
  have hB3 : Below w.heap.size w w' := by rw [hw]; exact below_drewN HB.out nd
  rw [hw, hW2, hW1]
  rw [hw, hW2, hW1] at hB3
  clear HC hw hW1 hW2 HB
  go_wp2
  go_ret
  exact ⟨rfl, hB3⟩

theorem info_hb : (Tryd.prog.info? 70).map (fun i => (i.zero, i.size, i.bytes)) = some (some (.agg #[.slice none 0 0, .int .i64 0]), 2, 32) := by kernel_rfl

theorem markB_step {wr : World} {b m i : Nat} {t : TypeId} {f : Nat → Value} {mk : Int} (h : rowIz wr b t m f) (hf : ∀ q, q < i → f q = mkB mk q) :
    ∃ f', rowIz (wr.setCell ⟨b, i, none⟩ (mkB mk i)) b t m f' ∧ ∀ q, q < i + 1 → f' q = mkB mk q := by
  refine ⟨_, h.set i _, fun q hq => ?_⟩
  by_cases e1 : q = i
  · subst e1; rw [if_pos rfl]
  rw [if_neg e1]
  exact hf q (by omega)

/-- What bytes may write. -/
def byteS (h : Nat) (s : HS) (x : Value) (b : Nat) : Prop := b = h ∨ s.vB.ownBlock = some b ∨ x.ownBlock = some b

/-- A list of bytes that is the caller's own, whole. -/
def ByRow (w : World) (x : Value) : Prop :=
  ∃ (ao : Option Nat) (n cap : Nat), x = .slice (ao.map fun b => ⟨b, 0, none⟩) n cap ∧ n ≤ cap ∧ (cap : Int) ≤ 9223372036854775807 ∧ (ao = none → cap = 0) ∧ ∀ b, ao = some b → ∃ f, rowIz w b 5 cap f

theorem ByRow.of_owns {w : World} {base n : Nat} {x : Value} {xs : List Value} (hx : w.ownsRow base 5 1 x n xs) : ByRow w x := by
  rcases hx.2 with ⟨rfl, h0⟩ | ⟨g, cap, cur, rfl, _, hg, hle, hcap, hsz, _⟩
  · exact ⟨none, 0, 0, by first | rfl | (rw [h0]; rfl), by omega, by omega, fun _ => rfl, fun b hb => by cases hb⟩
  · refine ⟨some g, n, cap, rfl, hle, by unfold maxLen at hcap; omega, (fun e => by cases e), fun b hb => ?_⟩
    simp at hb; subst hb
    exact ⟨fun q => cur[q]?.getD undef, cur, (0, 0), hg, by omega, .inl rfl, fun i hi => by simp [show i < cur.size by omega]⟩
theorem ByRow.of_row {w : World} {b n cap : Nat} {f : Nat → Value} (h : w.rowIs b 5 cap f) (hn : n ≤ cap) (hc : (cap : Int) ≤ 9223372036854775807) : ByRow w (.slice (some ⟨b, 0, none⟩) n cap) :=
  ⟨some b, n, cap, rfl, hn, hc, (fun e => by cases e), fun x hx => ⟨f, by simp at hx; subst hx; exact .of_row h⟩⟩
theorem ByRow.nil {w : World} : ByRow w (.slice none 0 0) := ⟨none, 0, 0, rfl, by omega, by omega, fun _ => rfl, fun b hb => by cases hb⟩
theorem ByRow.of_blocks {w w' : World} {x : Value} (h : ByRow w x) (e : ∀ b, x.ownBlock = some b → w'.heap[b]? = w.heap[b]?) : ByRow w' x := by
  obtain ⟨ao, n, cap, rfl, hle, hcap, hnil, hrow⟩ := h
  refine ⟨ao, n, cap, rfl, hle, hcap, hnil, fun b hb => ?_⟩
  obtain ⟨f, hf⟩ := hrow b hb
  subst hb
  exact ⟨f, hf.of_block (e b rfl)⟩
theorem ByRow.lt {w : World} {x : Value} (h : ByRow w x) {b : Nat} (hb : x.ownBlock = some b) : b < w.heap.size ∧ tyOf w b = some 5 := by
  obtain ⟨ao, n, cap, rfl, hle, hcap, hnil, hrow⟩ := h
  cases ao with
  | none => simp [Value.ownBlock] at hb
  | some q =>
    simp [Value.ownBlock] at hb
    subst hb
    obtain ⟨f, hf⟩ := hrow q rfl
    exact ⟨hf.lt, rowIz_ty hf⟩

/-- What stays as it was, and what is new among the bytes. -/
structure BytesKept (w : World) (s s' : HS) (x : Value) : Prop where
  n : s'.n = s.n + 1
  cs : s'.cs = s.cs
  rs : s'.rs = s.rs
  P : s'.P = s.P
  O : s'.O = s.O
  S : s'.S = s.S
  T : s'.T = s.T
  R : s'.R = s.R
  B : ∀ e ∈ s'.B, e ∈ s.B ∨ e.1 = x.ownBlock
  vB : s'.vB.ownBlock = s.vB.ownBlock ∨ ∃ g, s'.vB.ownBlock = some g ∧ w.heap.size ≤ g

set_option maxRecDepth 100000 in
set_option maxHeartbeats 4000000 in
theorem heldBytes_any (h : Nat) (x : Value) (s : HS) (w : World) (H : HeldInv w h s) (hx : ByRow w x) (hne : ∀ b, x.ownBlock = some b → ∀ e ∈ s.B, e.1 ≠ some b) (hn : s.n + 1 ≤ 1099511627776) :
    Calls Tryd.prog 18 #[.pointer (some ⟨h, 2, none⟩), x] w fun e w' => e = .returned (.tuple #[]) ∧ Touch (byteS h s x) w w' ∧ ∃ s', HeldInv w' h s' ∧ BytesKept w s s' x := by
  have l0 : 0 ≤ s.n := by have := H.lo; omega
  have HH := hide H
  have HNe := hide hne
  obtain ⟨ao, n, cap, rfl, hle, hcap, hnil, hrow⟩ := hx
  have hob : (Value.slice (ao.map fun b => (⟨b, 0, none⟩ : Addr)) n cap).ownBlock = ao := by cases ao <;> rfl
  have HRow := hide hrow
  have HNil := hide hnil
  have HOB := hide hob
  clear H hne hrow hob
  obtain ⟨ad, had⟩ : ∃ ad, ad = ao.map (fun b => (⟨b, 0, none⟩ : Addr)) := ⟨_, rfl⟩
  rw [← had]
  have HAD := hide had
  clear had
  have hcapn : ad = none → cap = 0 := fun e => by
    have := HAD.out
    rw [e] at this
    cases ao with
    | none => exact hnil rfl
    | some b => simp at this
  clear hnil
  go_enter Tryd.func18, Tryd.ntmps18
  go_wp2_with fail
  refine (mark_any h _ _ HH.out hn).mono ?_
  rintro e w1 ⟨rfl, hw1⟩
  have hT1 : Touch (fun b => b = h) w w1 := by rw [hw1]; exact Touch.setCell (S := fun b => b = h) (Touch.refl _ _) (.inl (by rfl)) _
  have hI1 : HeldInv w1 h { s with n := s.n + 1 } := by rw [hw1]; exact HH.out.marked hn
  have hR1 : ∀ b, ao = some b → ∃ f, rowIz w1 b 5 cap f := fun b hb => by
    obtain ⟨f, hf⟩ := HRow.out b hb
    exact ⟨f, hT1.rowz hf (fun e => by have h1 := rowIz_ty hf; rw [e, row_ty HH.out.wd] at h1; simp at h1)⟩
  have HT1 := hide hT1
  have HI1 := hide hI1
  have HR1 := hide hR1
  clear hw1 hT1 hI1 hR1
  obtain ⟨mk, hmk⟩ : ∃ mk, mk = s.n + 1 := ⟨_, rfl⟩
  rw [← hmk]
  have m0 : 0 ≤ mk := by omega
  have m1 : mk ≤ 1099511627776 := by omega
  have HM := hide hmk
  clear hmk
  go_wp2_with fail
  go_loopw [6] (fun t wr => ∃ i : Nat, i ≤ cap ∧ t = .int .i64 i ∧ Touch (fun b => ao = some b) w1 wr ∧ ∀ b, ao = some b → ∃ f, rowIz wr b 5 cap f ∧ ∀ q, q < i → f q = mkB mk q) (fun t _ => cap - (intOf t).toNat)
  case atStart =>
    refine ⟨0, by omega, rfl, Touch.refl _ _, fun b hb => ?_⟩
    obtain ⟨f, hf⟩ := HR1.out b hb
    exact ⟨f, hf, by omega⟩
  case round =>
    obtain ⟨i, hi, rfl, hq, hrows⟩ := hrel
    by_cases hlt : i < cap
    · have hd1 : decide ((i : Int) < (cap : Int)) = true := by simp; omega
      have hex : ∃ b, ao = some b := by
        cases hao : ao with
        | none =>
          exfalso
          have := hcapn (by rw [HAD.out, hao]; rfl)
          omega
        | some b => exact ⟨b, rfl⟩
      obtain ⟨b, hao⟩ := hex
      obtain ⟨f, hr, hf⟩ := hrows b hao
      have had : ad = some ⟨b, 0, none⟩ := by rw [HAD.out, hao]; rfl
      subst had
      have hbl := hr.lt
      have c0 := hr.cell (i := i) hlt
      have z0 := hr.frozen hlt
      have HSt := hide (markB_step hr hf)
      have HT2 := hide hq
      have HAo := hide hao
      clear hq hrows hr hf hao
      have g0 : (0 : Int) ≤ (i : Int) := by omega
      have g1 : (i : Int) < (cap : Int) := by omega
      obtain ⟨MB, hMB⟩ : ∃ MB, mkB mk i = .int .u8 MB := ⟨_, rfl⟩
      have HMB := hide hMB
      go_wp2_with (go_at_call 24; refine (markByte_any _ _ _ m0 m1).mono ?_; rintro e w' ⟨rfl, rfl⟩; rw [hMB])
      clear hMB
      go_roundw
      case rel =>
        obtain ⟨f', hf1, hf2⟩ := HSt.out
        refine ⟨i + 1, by omega, by go_num, ?_, fun b' hb' => ?_⟩
        · have hSb : (fun b => ao = some b) b ∨ w1.heap.size ≤ b := .inl HAo.out
          exact HT2.out.setCell (p := ⟨b, i, none⟩) hSb _
        · have e : b' = b := (Option.some.inj (HAo.out.symm.trans hb')).symm
          subst e
          rw [HMB.out] at hf1
          exact ⟨f', hf1, hf2⟩
      case measure => simp [intOf]; omega
    · have e : i = cap := by omega
      have hd0 : decide ((i : Int) < (cap : Int)) = false := by simp; omega
      have hfull : ∀ b, ao = some b → rowIz wr b 5 cap (mkB mk) := fun b hb => by
        obtain ⟨f, hr, hf⟩ := hrows b hb
        exact hr.congr (fun q hq => hf q (by omega))
      have hIw : HeldInv wr h { s with n := s.n + 1 } := HI1.out.of_blocks fun b u => hq.block b (HI1.out.used_lt u) (fun e => by
        obtain ⟨f, hr⟩ := HR1.out b e
        have hF := HNe.out b (by rw [HOB.out]; exact e)
        obtain ⟨x, hx, hxb⟩ := HI1.out.used_byte u (rowIz_ty hr)
        exact hF x hx hxb)
      have HFull := hide hfull
      have HIw := hide hIw
      have HQ := hide hq
      clear hfull hIw hq hrows
      have c5 : wr.cell? ⟨h, 2 + 6, none⟩ = some s.vB := by rw [HIw.out.wd.cell (by omega)]; rfl
      have z5 := HIw.out.wd.frozen 8
      have hhl := HIw.out.wd.lt
      obtain ⟨i0, hi0, hz0, hz1, hz2⟩ := info_parts info_hb
      obtain ⟨ys, hys⟩ : ∃ ys, ys = s.B.flatMap seC := ⟨_, rfl⟩
      have hoS : wr.ownsRow h 70 2 s.vB s.B.length ys := by
        rw [hys]; exact HIw.out.oB
      have HX2 := hide hys
      clear hys
      have hplen : (s.B.length : Int) ≤ 1099511627776 := by
        have hlo := HIw.out.lo
        simp at hlo; omega
      go_wp2_with (at_builtin; refine wpList_append_lies _ rfl _ _ 33 rfl h 70 i0 (.agg #[.slice none 0 0, .int .i64 0]) 2 32 Tryd.underlying33 hi0 hz0 hz1 hz2 rfl (by omega) s.vB s.B.length ys rfl (hoS.alloc _) ⟨wr.heap.size, 0, none⟩ 1 1 [.slice ad cap cap, .int .i64 mk] rfl rfl ?d1 ?d2 (by omega) ?d3 ?d4 ?d5 (wr.heap.size + 1) (by simp) ?_)
      try (case d1 => exact news_sp wr [.slice ad cap cap, .int .i64 mk] _ _ rfl)
      case d2 => first | exact ⟨rfl, rfl⟩ | (intro u hu; simp at hu; rcases hu with rfl | rfl <;> rfl)
      case d3 => unfold maxLen; omega
      case d4 => omega
      case d5 => first | omega | (simp; omega)
      intro g1 cap1 w2 hown2 hgrow hat hlt2
      rw [HM.out, HX2.out, HAD.out] at hown2
      have hty : some h ≠ s.vB.ownBlock := fun e => by
        have := owns_ty hoS e.symm
        rw [row_ty HIw.out.wd] at this
        simp at this
      have hI2 : HeldInv (w2.setCell ⟨h, 8, none⟩ (.slice (some ⟨g1, 0, none⟩) (s.B.length + 1) cap1)) h { ({ s with n := s.n + 1 } : HS) with vB := .slice (some ⟨g1, 0, none⟩) (s.B.length + 1) cap1, B := s.B ++ [(ao, cap, s.n + 1)] } :=
        HeldInv.pushB (b := ao) (m := cap) (g := g1) (cap := cap1) HIw.out (fun b hb => by show rowIz wr b _ cap (mkB (s.n + 1)); rw [← HM.out]; exact HFull.out b hb) HNil.out hcap (by have := HH.out.lo; simp at this ⊢; omega) hown2 hgrow hat
      have hT2 : Touch (byteS h s (.slice (ao.map fun b => ⟨b, 0, none⟩) n cap)) w (w2.setCell ⟨h, 8, none⟩ (.slice (some ⟨g1, 0, none⟩) (s.B.length + 1) cap1)) := by
        have t0 : Touch (byteS h s (.slice (ao.map fun b => ⟨b, 0, none⟩) n cap)) w w := Touch.refl _ _
        have t1 := t0.trans' HT1.out (fun x hx => .inl (.inl hx))
        have t2 := t1.trans' HQ.out (fun x hx => .inl (.inr (.inr (by rw [HOB.out]; exact hx))))
        have t3 := (t2.alloc _).grown hgrow (fun b hb => .inl (.inr (.inl hb)))
        exact t3.setCell (.inl (.inl (by rfl))) _
      have hsw : w.heap.size ≤ wr.heap.size := Nat.le_trans HT1.out.size HQ.out.size
      have hK : BytesKept w s { ({ s with n := s.n + 1 } : HS) with vB := .slice (some ⟨g1, 0, none⟩) (s.B.length + 1) cap1, B := s.B ++ [(ao, cap, s.n + 1)] } (.slice (ao.map fun b => ⟨b, 0, none⟩) n cap) := by
        refine ⟨rfl, rfl, rfl, rfl, rfl, rfl, rfl, rfl, fun e he => ?_, ?_⟩
        · rcases List.mem_append.1 he with he | he
          · exact .inl he
          · simp at he; subst he; exact .inr HOB.out.symm
        · rcases hat with hat | hat
          · exact .inl (by rw [hat]; rfl)
          · exact .inr ⟨g1, rfl, by omega⟩
      have HK := hide hK
      have HI2 := hide hI2
      have HT2 := hide hT2
      have c5' := (hgrow.cell_far ⟨h, 2 + 6, none⟩ (by simp; omega) hty).trans (by go_simp : _ = some s.vB)
      have z5' := (hgrow.frozen_far ⟨h, 8, none⟩ (by simp; omega) hty).trans (by go_simp : _ = false)
      clear hown2 hgrow hat hty hoS hI2 hT2 hK
      go_wp2
      go_end0
      exact ⟨rfl, by rw [HAD.out]; exact HT2.out, _, HI2.out, by rw [HAD.out]; exact HK.out⟩
/-- All bytes that are held lie below block B. -/
def HS.UnderB (s : HS) (B : Nat) : Prop := ∀ e ∈ s.B, ∀ b, e.1 = some b → b < B
theorem HeldInv.underB {w : World} {h : Nat} {s : HS} (H : HeldInv w h s) : s.UnderB w.heap.size := fun e he b hb => (H.eB e he b hb).lt
end Go.Proofs.YtkhcjkmifddlbabDoor
