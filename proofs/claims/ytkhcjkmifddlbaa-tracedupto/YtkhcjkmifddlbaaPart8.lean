/- Joined: HeldD, PlaceC, Checks, Dry, DryB, Start, TrcW, Read, Open. -/
import Derived.Test.YtkhcjkmifddlbaaPart4
import Derived.Test.YtkhcjkmifddlbaaPart2
import Derived.Test.YtkhcjkmifddlbaaPart6
import Derived.Test.YtkhcjkmifddlbaaPart7
import Derived.ProofKit
import Derived.Below
import Derived.Test.YtkhcjkmifddlbaaRows
import Derived.Test.YtkhcjkmifddlbaaPart1
import Derived.Deep.Slices
/- HeldD -/
namespace Go.Proofs.Ytkhcjkmifddlbaa
open Go.RowKit Go.Deep

theorem info_hp : (Try.prog.info? 158).map (fun i => (i.zero, i.size, i.bytes)) = some (some (.agg #[.slice none 0 0, .int .i64 0]), 2, 32) := by kernel_rfl
theorem info_ho : (Try.prog.info? 160).map (fun i => (i.zero, i.size, i.bytes)) = some (some (.agg #[.slice none 0 0, .int .i64 0]), 2, 32) := by kernel_rfl

/-- What was lent, as outline finds it: nothing is asked of what stands in the lists. -/
structure Lists (w : World) (T h ob M : Nat) (B l m : Nat → Nat) (s : HS) : Prop where
  outer : w.rowIs ob 62 M (fun i => .slice (some ⟨B i, 0, none⟩) (l i) (m i))
  inner : ∀ i, i < M → ∃ f, w.rowIs (B i) 133 (m i * 3) f
  geO : T ≤ ob
  geB : ∀ i, i < M → T ≤ B i
  inj : ∀ i j, i < M → j < M → B i = B j → i = j
  und : s.Under T
  hT : h ≤ T
  le : ∀ i, i < M → l i ≤ m i ∧ m i ≤ 4294967297

theorem Lent.lists {w : World} {base ob N h : Nat} {B n : Nat → Nat} {X Y K : Nat → Nat → Int} {s : HS} (hl : Lent w base ob N B n X Y K) (hu : s.Under base) (hh : h ≤ base) (hn : ∀ i, i < N → n i ≤ 4294967295) :
    Lists w base h ob (N + 2) B (ln N n) (fun i => ln N n i + 2) s :=
  ⟨hl.outer, fun i hi => ⟨_, hl.inner i hi⟩, hl.ge, hl.geB, hl.inj, hu, hh, fun i hi => ⟨by omega, by
    unfold ln; split
    · rename_i h; have := hn i h; omega
    · omega⟩⟩

/-- What outline may write. -/
def outS (h ob M : Nat) (B : Nat → Nat) (s : HS) (b : Nat) : Prop := b = h ∨ b = ob ∨ (∃ i, i < M ∧ b = B i) ∨ s.vP.ownBlock = some b ∨ s.vO.ownBlock = some b

/-- The state behind i rounds. -/
def stP (s : HS) (B m : Nat → Nat) (v : Value) (i : Nat) : HS := { s with n := s.n + i, vP := v, P := s.P ++ (List.range i).map fun j => (B j, m j, s.n + 1 + (j : Int)) }

theorem stP_zero (s : HS) (B m : Nat → Nat) : stP s B m s.vP 0 = s := by simp [stP]

theorem range_snoc {α : Type} (f : Nat → α) (i : Nat) : (List.range (i + 1)).map f = (List.range i).map f ++ [f i] := by
  rw [List.range_succ, List.map_append]; rfl

/-- No list that is held lies where list i does. -/
theorem stP_ne {w : World} {h i M T : Nat} {s : HS} {B m : Nat → Nat} {v : Value} {k : Int} (H : HeldInv w h { stP s B m v i with n := k }) (hu : s.Under T) (hge : ∀ i, i < M → T ≤ B i) (hinj : ∀ i j, i < M → j < M → B i = B j → i = j) (hi : i < M)
    {b : Nat} (u : Used h { stP s B m v i with n := k } b) (hty : tyOf w (B i) = some 133) : b ≠ B i := by
  intro e
  subst e
  have hT := hge i hi
  rcases H.used_pt u hty with ⟨x, hx, hb⟩ | ⟨x, hx, j, hj, hb⟩
  · rcases List.mem_append.1 hx with hx | hx
    · have := hu.1 x hx; omega
    · simp at hx
      obtain ⟨j, hj, rfl⟩ := hx
      have := hinj j i (by omega) hi hb
      omega
  · have := (hu.2.1 x hx).2 j hj; omega

theorem mark_step {wr : World} {b m k : Nat} {t : TypeId} {g : Nat → Value} {n : Int} (o : Obj) (h : wr.rowIs b t (m * 3) g) (hg : ∀ q, q < k * 3 → g q = mkP n q) :
    ∃ g', ((((wr.setCell ⟨b, k * 3, none⟩ (.int .i64 (2199023255552 + n))).setCell ⟨b, k * 3 + 1, none⟩ (.int .i64 (-7))).setCell ⟨b, k * 3 + 2, none⟩ (.int .i64 9)).alloc o).rowIs b t (m * 3) g' ∧ ∀ q, q < (k + 1) * 3 → g' q = mkP n q := by
  refine ⟨_, (((h.set (k * 3) _).set (k * 3 + 1) _).set (k * 3 + 2) _).alloc o, fun q hq => ?_⟩
  by_cases e2 : q = k * 3 + 2
  · subst e2; rw [if_pos rfl]; unfold mkP; rw [pc2]
  rw [if_neg e2]
  by_cases e1 : q = k * 3 + 1
  · subst e1; rw [if_pos rfl]; unfold mkP; rw [pc1]
  rw [if_neg e1]
  by_cases e0 : q = k * 3
  · subst e0; rw [if_pos rfl]; unfold mkP; rw [pc0]
  rw [if_neg e0]
  exact hg q (by omega)

theorem stP_succ (s : HS) (B m : Nat → Nat) (v v' : Value) (i : Nat) :
    ({ ({ stP s B m v i with n := s.n + (i : Int) + 1 } : HS) with vP := v', P := (stP s B m v i).P ++ [(B i, m i, s.n + (i : Int) + 1)] } : HS) = stP s B m v' (i + 1) := by
  unfold stP
  rw [range_snoc]
  simp only [HS.mk.injEq, List.append_assoc, true_and, and_true, List.append_cancel_left_eq, List.cons.injEq, Prod.mk.injEq]
  omega

theorem outline_push {T h ob M i g cap : Nat} {B l m : Nat → Nat} {s : HS} {v : Value} {w wo w1 wr w2 : World} {o : Obj} {xs : List Value} (L : Lists w T h ob M B l m s) (hlt : i < M) (HT : Touch (outS h ob M B s) w wo)
    (HW : v.ownBlock = s.vP.ownBlock ∨ ∃ g, v.ownBlock = some g ∧ w.heap.size ≤ g) (HI : HeldInv wo h (stP s B m v i))
    (HO : wo.rowIs ob 62 M (fun i => .slice (some ⟨B i, 0, none⟩) (l i) (m i))) (HR : ∀ j, i ≤ j → j < M → ∃ f, wo.rowIs (B j) 133 (m j * 3) f)
    (HT1 : Touch (fun b => b = h) wo w1) (HQ : Touch (fun b => b = B i) w1 wr) (HIw : HeldInv wr h { stP s B m v i with n := s.n + i + 1 })
    (hro : wr.rowIs (B i) 133 (m i * 3) (mkP (s.n + i + 1))) (hxs : xs = (stP s B m v i).P.flatMap peC)
    (hown : w2.ownsRow h 158 2 (.slice (some ⟨g, 0, none⟩) (s.P.length + i + 1) cap) (s.P.length + i + 1) (xs ++ [.slice (some ⟨B i, 0, none⟩) (m i) (m i), .int .i64 (s.n + i + 1)]))
    (hg : (wr.alloc o).grownBy w2 v.ownBlock) (hat : v.ownBlock = some g ∨ g = wr.heap.size + 1) :
    Touch (outS h ob M B s) w (w2.setCell ⟨h, 3, none⟩ (.slice (some ⟨g, 0, none⟩) (s.P.length + i + 1) cap)) ∧ HeldInv (w2.setCell ⟨h, 3, none⟩ (.slice (some ⟨g, 0, none⟩) (s.P.length + i + 1) cap)) h (stP s B m (.slice (some ⟨g, 0, none⟩) (s.P.length + i + 1) cap) (i + 1)) ∧
      ((Value.slice (some ⟨g, 0, none⟩) (s.P.length + i + 1) cap).ownBlock = s.vP.ownBlock ∨ ∃ g', (Value.slice (some ⟨g, 0, none⟩) (s.P.length + i + 1) cap).ownBlock = some g' ∧ w.heap.size ≤ g') ∧
      (w2.setCell ⟨h, 3, none⟩ (.slice (some ⟨g, 0, none⟩) (s.P.length + i + 1) cap)).rowIs ob 62 M (fun i => .slice (some ⟨B i, 0, none⟩) (l i) (m i)) ∧
      (∀ j, i + 1 ≤ j → j < M → ∃ f, (w2.setCell ⟨h, 3, none⟩ (.slice (some ⟨g, 0, none⟩) (s.P.length + i + 1) cap)).rowIs (B j) 133 (m j * 3) f) := by
  have hplen : (stP s B m v i).P.length = s.P.length + i := by simp [stP]
  have hr : ∀ b, v.ownBlock = some b → tyOf wr b = some 158 := fun b hb => owns_ty HIw.oP hb
  have hh := row_ty HIw.wd
  have hBh : ∀ j, i ≤ j → j < M → B j ≠ h := fun j h1 h2 => by
    obtain ⟨f, hf⟩ := HR j h1 h2
    exact row_ne hf HI.wd (by decide)
  have hoh : ob ≠ h := row_ne HO HI.wd (by decide)
  have hoB : ob ≠ B i := by
    obtain ⟨f, hf⟩ := HR i (Nat.le_refl _) hlt
    exact row_ne HO hf (by decide)
  have hsw : w.heap.size ≤ wr.heap.size := Nat.le_trans HT.size (Nat.le_trans HT1.size HQ.size)
  have hlo : ((stP s B m v i).P.length : Int) + (stP s B m v i).O.length + (stP s B m v i).S.length + (stP s B m v i).T.length + (stP s B m v i).R.length + (stP s B m v i).B.length ≤ (stP s B m v i).n := HI.lo
  refine ⟨?_, ?_, ?_, ?_, ?_⟩
  · have t1 := HT.trans' HT1 (fun x hx => .inl (.inl hx))
    have t2 := t1.trans' HQ (fun x hx => .inl (.inr (.inr (.inl ⟨i, hlt, hx⟩))))
    have t3 := (t2.alloc o).grown hg (fun b hb => by
      rcases HW with HW | ⟨g', h1, h2⟩
      · exact .inl (.inr (.inr (.inr (.inl (HW ▸ hb)))))
      · rw [h1] at hb; simp at hb; subst hb; exact .inr h2)
    exact t3.setCell (.inl (.inl rfl)) _
  · have := HeldInv.pushP (b := B i) (m := m i) (g := g) (cap := cap) HIw hro (by have := (L.le i hlt).2; omega) (by show ((stP s B m v i).P.length : Int) + (stP s B m v i).O.length + (stP s B m v i).S.length + (stP s B m v i).T.length + (stP s B m v i).R.length + (stP s B m v i).B.length + 1 ≤ s.n + i + 1; have e : (stP s B m v i).n = s.n + i := rfl; omega)
      (by show w2.ownsRow h _ 2 (.slice _ ((stP s B m v i).P.length + 1) cap) ((stP s B m v i).P.length + 1) ((stP s B m v i).P.flatMap peC ++ _); rw [hplen, ← hxs]; exact hown) hg hat
    have e := stP_succ s B m v (.slice (some ⟨g, 0, none⟩) (s.P.length + i + 1) cap) i
    rw [← e]
    have e2 : ((stP s B m v i).P.length + 1) = s.P.length + i + 1 := by rw [hplen]
    simp only [e2] at this
    exact this
  · rcases hat with hat | hat
    · rcases HW with HW | ⟨g', h1, h2⟩
      · left; rw [← HW, hat]; rfl
      · right; rw [hat] at h1; exact ⟨g', by simpa [Value.ownBlock] using h1, h2⟩
    · right; exact ⟨g, rfl, by omega⟩
  · exact row_of_step hg hr hh (HQ.row (HT1.row HO hoh) hoB) (by decide) (by decide)
  · intro j h1 h2
    obtain ⟨f, hf⟩ := HR j (by omega) h2
    exact ⟨f, row_of_step hg hr hh (HQ.row (HT1.row hf (hBh j (by omega) h2)) (fun e => by have := L.inj j i h2 hlt e; omega)) (by decide) (by decide)⟩

theorem mkP_cells (n : Int) (w : World) (t : TypeId) : (w.alloc (.cells #[.int .i64 (2199023255552 + n), .int .i64 (-7), .int .i64 9] t)).rowIs w.heap.size t 3 (mkP n) := by
  refine World.rowIs_alloc w #[.int .i64 (2199023255552 + n), .int .i64 (-7), .int .i64 9] t (mkP n) (fun i hi => ?_)
  have hi : i < 3 := hi
  rcases (show i = 0 ∨ i = 1 ∨ i = 2 by omega) with rfl | rfl | rfl <;> rfl

/-- One list of the outline becomes a list of one mark. -/
theorem out_step {w1 wr : World} {ob M k : Nat} {F B l m : Nat → Nat} {n : Int} {o : Obj} (hT : Touch (fun b => b = ob) w1 wr)
    (hrow : wr.rowIs ob 62 M (fun j => if j < k then .slice (some ⟨F j, 0, none⟩) 1 1 else .slice (some ⟨B j, 0, none⟩) (l j) (m j)))
    (hF : ∀ j, j < k → w1.heap.size ≤ F j ∧ wr.rowIs (F j) 133 3 (mkP n)) :
    Touch (fun b => b = ob) w1 (((wr.setCell ⟨ob, k, none⟩ (.slice (some ⟨wr.heap.size + 1, 0, none⟩) 1 1)).alloc o).alloc (.cells #[.int .i64 (2199023255552 + n), .int .i64 (-7), .int .i64 9] 133)) ∧
    ∃ F' : Nat → Nat, (((wr.setCell ⟨ob, k, none⟩ (.slice (some ⟨wr.heap.size + 1, 0, none⟩) 1 1)).alloc o).alloc (.cells #[.int .i64 (2199023255552 + n), .int .i64 (-7), .int .i64 9] 133)).rowIs ob 62 M (fun j => if j < k + 1 then .slice (some ⟨F' j, 0, none⟩) 1 1 else .slice (some ⟨B j, 0, none⟩) (l j) (m j)) ∧
      ∀ j, j < k + 1 → w1.heap.size ≤ F' j ∧ (((wr.setCell ⟨ob, k, none⟩ (.slice (some ⟨wr.heap.size + 1, 0, none⟩) 1 1)).alloc o).alloc (.cells #[.int .i64 (2199023255552 + n), .int .i64 (-7), .int .i64 9] 133)).rowIs (F' j) 133 3 (mkP n) := by
  have hs := hT.size
  refine ⟨((hT.setCell (.inl (by rfl)) _).alloc _).alloc _, fun j => if j = k then wr.heap.size + 1 else F j, ?_, ?_⟩
  · refine (((hrow.set k _).alloc _).alloc _).congr fun j hj => ?_
    by_cases e : j = k
    · subst e; simp
    · by_cases e2 : j < k
      · simp [e, e2, show j < k + 1 by omega]
      · simp [e, e2, show ¬ j < k + 1 by omega]
  · intro j hj
    by_cases e : j = k
    · subst e
      simp only [if_pos]
      refine ⟨by omega, ?_⟩
      have := mkP_cells n ((wr.setCell ⟨ob, j, none⟩ (.slice (some ⟨wr.heap.size + 1, 0, none⟩) 1 1)).alloc o) 133
      rw [nblk_alloc, nblk_setCell] at this
      exact this
    · simp only [if_neg e]
      obtain ⟨h1, h2⟩ := hF j (by omega)
      exact ⟨h1, ((h2.setOther (by simpa using row_ne h2 hrow (by decide)) _).alloc _).alloc _⟩

/-- No outline that is held lies at ob. -/
theorem stP_ne_ob {w : World} {h i ob T : Nat} {s : HS} {B m : Nat → Nat} {v : Value} {k : Int} (H : HeldInv w h { stP s B m v i with n := k }) (hu : s.Under T) (hge : T ≤ ob)
    {b : Nat} (u : Used h { stP s B m v i with n := k } b) (hty : tyOf w ob = some 62) : b ≠ ob := by
  intro e
  subst e
  obtain ⟨x, hx, hb⟩ := H.used_pts u hty
  have := (hu.2.1 x hx).1
  omega

set_option maxHeartbeats 1000000 in
theorem outline_any (T h ob N M : Nat) (B l m : Nat → Nat) (s : HS) (w : World) (hM : M ≤ 4294967297) (H : HeldInv w h s) (L : Lists w T h ob M B l m s) (hn : s.n + M + 1 ≤ 1099511627776) (hNM : N ≤ M) :
    Calls Try.prog 48 #[.pointer (some ⟨h, 2, none⟩), .slice (some ⟨ob, 0, none⟩) N M] w fun e w' => e = .returned (.tuple #[]) ∧ Touch (outS h ob M B s) w w' ∧ ∃ s', HeldInv w' h s' ∧ s'.n = s.n + M + 1 ∧ s'.cs = s.cs ∧ s'.rs = s.rs ∧ s'.S = s.S ∧ s'.vS = s.vS ∧ s'.T = s.T ∧ s'.vT = s.vT ∧ s'.R = s.R ∧ s'.vR = s.vR ∧ s'.B = s.B ∧ s'.vB = s.vB := by
  have HH := hide H
  have HL := hide L
  have l0 : 0 ≤ s.n := by have := H.lo; omega
  clear H L
  go_enter Try.func48, Try.ntmps48
  go_wp2_with fail
  go_loopw [5] (fun t wr => ∃ (i : Nat) (v : Value), i ≤ M ∧ t = .int .i64 i ∧ Touch (outS h ob M B s) w wr ∧ HeldInv wr h (stP s B m v i) ∧ (v.ownBlock = s.vP.ownBlock ∨ ∃ g, v.ownBlock = some g ∧ w.heap.size ≤ g)
      ∧ wr.rowIs ob 62 M (fun i => .slice (some ⟨B i, 0, none⟩) (l i) (m i)) ∧ (∀ j, i ≤ j → j < M → ∃ f, wr.rowIs (B j) 133 (m j * 3) f)) (fun t _ => M - (intOf t).toNat)
  case atStart => exact ⟨0, s.vP, by omega, rfl, Touch.refl _ _, by rw [stP_zero]; exact HH.out, .inl rfl, HL.out.outer, fun j _ hj => HL.out.inner j hj⟩
  case round =>
    obtain ⟨wo, rfl⟩ : ∃ wo, wo = wr := ⟨wr, rfl⟩
    obtain ⟨i, v, hi, rfl, hto, hinv, hown, hout, hrest⟩ := hrel
    by_cases hlt : i < M
    · obtain ⟨hle1, hle2⟩ := HL.out.le i hlt
      have oi := hout.cell (i := i) hlt
      have hd1 : decide ((i : Int) < (M : Int)) = true := by simp; omega
      have g0 : (0 : Int) ≤ (i : Int) := by omega
      have g1 : (i : Int) < (M : Int) := by omega
      have HI := hide hinv
      have HR := hide hrest
      have HO := hide hout
      have HW := hide hown
      have HT := hide hto
      clear hinv hrest hout hown hto
      go_wp2_with fail
      go_quiet (fail)
      go_wp2_with fail
      have HI2 : HeldInv (wo.drewN nq) h (stP s B m v i) := HI.out.of_blocks fun b _ => rfl
      refine (mark_any h _ _ HI2 (by show s.n + i + 1 ≤ _; omega)).mono ?_
      rintro e w1 ⟨rfl, hw1⟩
      have HI3 := hide (HI2.marked (by show s.n + i + 1 ≤ _; omega))
      have hT1 : Touch (fun b => b = h) wo w1 := by rw [hw1]; exact Touch.setCell (S := fun b => b = h) ((Touch.refl _ _).drewN nq) (.inl (by rfl)) _
      have hI1 : HeldInv w1 h { stP s B m v i with n := s.n + i + 1 } := by rw [hw1]; exact HI3.out
      have hv1 : (stP s B m v i).n + 1 = s.n + i + 1 := rfl
      rw [hv1]
      clear hw1 HI3 HI2 hv1
      have hBh : B i ≠ h := by
        obtain ⟨f, hf⟩ := HR.out i (Nat.le_refl _) hlt
        exact row_ne hf HI.out.wd (by decide)
      have hBo : ∀ j, j < M → i ≤ j → B j ≠ ob := fun j hj hij => by
        obtain ⟨f, hf⟩ := HR.out j hij hj
        exact row_ne hf HO.out (by decide)
      have hoh : ob ≠ h := row_ne HO.out HI.out.wd (by decide)
      obtain ⟨f0, hf0⟩ := HR.out i (Nat.le_refl _) hlt
      have hf1 := hide (hT1.row hf0 hBh)
      have HI1 := hide hI1
      have HT1 := hide hT1
      have HH2 := hide (And.intro hBh (And.intro hBo hoh))
      clear hf0 hI1 hT1 hBh hBo hoh
      obtain ⟨mk, hmk⟩ : ∃ mk, mk = s.n + (i : Int) + 1 := ⟨_, rfl⟩
      rw [← hmk]
      have m0 : 0 ≤ mk := by omega
      have m1 : mk ≤ 1099511627776 := by omega
      have HM := hide hmk
      clear hmk
      go_wp2_with fail
      go_loopw [8] (fun t wr => ∃ k : Nat, k ≤ m i ∧ t = .int .i64 k ∧ Touch (fun b => b = B i) w1 wr ∧ ∃ g, wr.rowIs (B i) 133 (m i * 3) g ∧ ∀ q, q < k * 3 → g q = mkP mk q) (fun t _ => m i - (intOf t).toNat)
      case atStart => exact ⟨0, by omega, rfl, Touch.refl _ _, _, hf1.out, by omega⟩
      case round =>
        obtain ⟨k, hk, rfl, hq, g, hrow, hg⟩ := hrel
        by_cases hkm : k < m i
        · have c0 := hrow.cell (i := k * 3) (by omega)
          have c1 := hrow.cell (i := k * 3 + 1) (by omega)
          have c2 := hrow.cell (i := k * 3 + 2) (by omega)
          have z0 := hrow.frozen (k * 3)
          have z1 := hrow.frozen (k * 3 + 1)
          have z2 := hrow.frozen (k * 3 + 2)
          have hbl := hrow.lt
          have hd2 : decide ((k : Int) < (m i : Int)) = true := by simp; omega
          have HS := hide (mark_step (.cells #[.int .i64 (2199023255552 + mk), .int .i64 (-7), .int .i64 9] 133) hrow hg)
          have HQ := hide hq
          clear hrow hg hq
          go_wp2_with fail
          refine (markPoint_any _ _ m0 m1).mono ?_
          rintro e w2 ⟨rfl, rfl⟩
          go_wp2
          go_roundw
          case rel => exact ⟨k + 1, by omega, by go_num, (((HQ.out.setCell (.inl (by rfl)) _).setCell (.inl (by rfl)) _).setCell (.inl (by rfl)) _).alloc _, HS.out⟩
          case measure => simp [intOf]; omega
        · have e : k = m i := by omega
          subst e
          have hro := hide (hrow.congr hg)
          have hIw : HeldInv wr h { stP s B m v i with n := s.n + i + 1 } := HI1.out.of_blocks fun b u => hq.block b (HI1.out.used_lt u) (stP_ne HI1.out HL.out.und HL.out.geB HL.out.inj hlt u (row_ty hf1.out))
          clear hrow hg
          have HIw := hide hIw
          clear hIw
          have HQ := hide hq
          clear hq
          have c3 : wr.cell? ⟨h, 2 + 1, none⟩ = some v := by rw [HIw.out.wd.cell (by omega)]; rfl
          have z3 := HIw.out.wd.frozen 3
          have hhl := HIw.out.wd.lt
          obtain ⟨i0, hi0, hz0, hz1, hz2⟩ := info_parts info_hp
          obtain ⟨xs, hxs⟩ : ∃ xs, xs = (stP s B m v i).P.flatMap peC := ⟨_, rfl⟩
          have hoP : wr.ownsRow h 158 2 v (s.P.length + i) xs := by
            have := HIw.out.oP
            have e : (stP s B m v i).P.length = s.P.length + i := by simp [stP]
            rw [hxs, ← e]; exact this
          have HX := hide hxs
          clear hxs
          have hplen : ((s.P.length : Int)) + i ≤ 1099511627776 := by
            have hlo := HIw.out.lo
            simp [stP] at hlo; omega
          go_wp2_with (at_builtin; refine wpList_append_lies _ rfl _ _ 26 rfl h 158 i0 (.agg #[.slice none 0 0, .int .i64 0]) 2 32 Try.underlying26 hi0 hz0 hz1 hz2 rfl (by omega) v (s.P.length + i) xs rfl (hoP.alloc _) ⟨wr.heap.size, 0, none⟩ 1 1 [.slice (some ⟨B i, 0, none⟩) (m i) (m i), .int .i64 mk] rfl rfl ?c1 ?c2 (by omega) ?c3 ?c4 ?c5 (wr.heap.size + 1) (by simp) ?_)
          case c2 => exact ⟨rfl, rfl⟩
          case c3 => unfold maxLen; omega
          case c4 => omega
          case c5 => omega
          intro g1 cap w2 hown2 hgrow hat hlt2
          rw [HM.out] at hown2
          have HP := hide (outline_push HL.out hlt HT.out HW.out HI.out HO.out HR.out HT1.out HQ.out HIw.out (by rw [← HM.out]; exact hro.out) HX.out hown2 hgrow hat)
          have hty : some h ≠ v.ownBlock := fun e => by
            have := owns_ty hoP e.symm
            rw [row_ty HIw.out.wd] at this
            simp at this
          have c3' := (hgrow.cell_far ⟨h, 2 + 1, none⟩ (by simp; omega) hty).trans (by go_simp : _ = some v)
          have z3' := (hgrow.frozen_far ⟨h, 3, none⟩ (by simp; omega) hty).trans (by go_simp : _ = false)
          clear hown2 hgrow hat hty hoP
          go_wp2
          go_roundw
          case rel => exact ⟨i + 1, _, by omega, by go_num, HP.out⟩
          case measure => simp [intOf]; omega
    · have e : i = M := by omega
      subst e
      have hd1 : decide ((i : Int) < (i : Int)) = false := by simp
      have HI := hide hinv
      have HO := hide hout
      have HW := hide hown
      have HT := hide hto
      clear hinv hrest hout hown hto
      go_wp2_with fail
      refine (mark_any h _ _ HI.out (by show s.n + i + 1 ≤ _; omega)).mono ?_
      rintro e w1 ⟨rfl, hw1⟩
      have HI3 := hide (HI.out.marked (by show s.n + i + 1 ≤ _; omega))
      have hT1 : Touch (fun b => b = h) wo w1 := by rw [hw1]; exact Touch.setCell (S := fun b => b = h) (Touch.refl _ _) (.inl (by rfl)) _
      have hI1 : HeldInv w1 h { stP s B m v i with n := s.n + i + 1 } := by rw [hw1]; exact HI3.out
      have hv1 : (stP s B m v i).n + 1 = s.n + i + 1 := rfl
      rw [hv1]
      clear hw1 HI3 hv1
      have hoh : ob ≠ h := row_ne HO.out HI.out.wd (by decide)
      have hO1 := hide (hT1.row HO.out hoh)
      have HI1 := hide hI1
      have HT1 := hide hT1
      clear hI1 hT1
      obtain ⟨mk, hmk⟩ : ∃ mk, mk = s.n + (i : Int) + 1 := ⟨_, rfl⟩
      rw [← hmk]
      have m0 : 0 ≤ mk := by omega
      have m1 : mk ≤ 1099511627776 := by omega
      have HM := hide hmk
      clear hmk
      go_wp2_with fail
      go_loopw [10] (fun t wr => ∃ k : Nat, k ≤ i ∧ t = .int .i64 k ∧ Touch (fun b => b = ob) w1 wr ∧ ∃ F : Nat → Nat, wr.rowIs ob 62 i (fun j => if j < k then .slice (some ⟨F j, 0, none⟩) 1 1 else .slice (some ⟨B j, 0, none⟩) (l j) (m j)) ∧
          ∀ j, j < k → w1.heap.size ≤ F j ∧ wr.rowIs (F j) 133 3 (mkP mk)) (fun t _ => i - (intOf t).toNat)
      case atStart => exact ⟨0, by omega, rfl, Touch.refl _ _, fun _ => 0, hO1.out.congr (fun j _ => by simp), by omega⟩
      case round =>
        obtain ⟨k, hk, rfl, hq, F, hrow, hF⟩ := hrel
        by_cases hki : k < i
        · have c0 := hrow.cell (i := k) hki
          have z0 := hrow.frozen k
          have hbl := hrow.lt
          have hd2 : decide ((k : Int) < (i : Int)) = true := by simp; omega
          have HS := hide (out_step (o := .cells #[.int .i64 (2199023255552 + mk), .int .i64 (-7), .int .i64 9] 133) hq hrow hF)
          clear hrow hq hF
          go_wp2_with fail
          refine (markPoint_any _ _ m0 m1).mono ?_
          rintro e w2 ⟨rfl, rfl⟩
          go_wp2
          go_roundw
          case rel => exact ⟨k + 1, by omega, by go_num, HS.out⟩
          case measure => simp [intOf]; omega
        · have e : k = i := by omega
          subst e
          have hro := hide (hrow.congr (g := fun j => .slice (some ⟨F j, 0, none⟩) 1 1) (fun j hj => by simp [hj]))
          have hIw : HeldInv wr h { stP s B m v k with n := s.n + k + 1 } := HI1.out.of_blocks fun b u => hq.block b (HI1.out.used_lt u) (stP_ne_ob HI1.out HL.out.und HL.out.geO u (row_ty hO1.out))
          have HF := hide hF
          clear hrow hF
          have HIw := hide hIw
          clear hIw
          have HQ := hide hq
          clear hq
          have c4 : wr.cell? ⟨h, 2 + 2, none⟩ = some s.vO := by rw [HIw.out.wd.cell (by omega)]; rfl
          have z4 := HIw.out.wd.frozen 4
          have hhl := HIw.out.wd.lt
          obtain ⟨i0, hi0, hz0, hz1, hz2⟩ := info_parts info_ho
          obtain ⟨xs, hxs⟩ : ∃ xs, xs = s.O.flatMap oeC := ⟨_, rfl⟩
          have hoO : wr.ownsRow h 160 2 s.vO s.O.length xs := by
            rw [hxs]; exact HIw.out.oO
          have HX := hide hxs
          clear hxs
          have hplen : (s.O.length : Int) ≤ 1099511627776 := by
            have hlo := HIw.out.lo
            simp [stP] at hlo; omega
          go_wp2_with (at_builtin; refine wpList_append_lies _ rfl _ _ 27 rfl h 160 i0 (.agg #[.slice none 0 0, .int .i64 0]) 2 32 Try.underlying27 hi0 hz0 hz1 hz2 rfl (by omega) s.vO s.O.length xs rfl (hoO.alloc _) ⟨wr.heap.size, 0, none⟩ 1 1 [.slice (some ⟨ob, 0, none⟩) k k, .int .i64 mk] rfl rfl ?d1 ?d2 (by omega) ?d3 ?d4 ?d5 (wr.heap.size + 1) (by simp) ?_)
          case d2 => exact ⟨rfl, rfl⟩
          case d3 => unfold maxLen; omega
          case d4 => omega
          case d5 => omega
          intro g1 cap w2 hown2 hgrow hat hlt2
          rw [HM.out, HX.out] at hown2
          have hty : some h ≠ s.vO.ownBlock := fun e => by
            have := owns_ty hoO e.symm
            rw [row_ty HIw.out.wd] at this
            simp at this
          have hI2 : HeldInv (w2.setCell ⟨h, 4, none⟩ (.slice (some ⟨g1, 0, none⟩) (s.O.length + 1) cap)) h { ({ stP s B m v k with n := s.n + k + 1 } : HS) with vO := .slice (some ⟨g1, 0, none⟩) (s.O.length + 1) cap, O := s.O ++ [(ob, k, F, s.n + k + 1)] } :=
            HeldInv.pushO (b := ob) (m := k) (g := g1) (cap := cap) (F := F) HIw.out hro.out (fun j hj => by rw [← HM.out]; exact (HF.out j hj).2) (by omega) (by have := HI.out.lo; simp [stP] at this ⊢; omega) hown2 hgrow hat
          have hT2 : Touch (outS h ob k B s) w (w2.setCell ⟨h, 4, none⟩ (.slice (some ⟨g1, 0, none⟩) (s.O.length + 1) cap)) := by
            have t1 := HT.out.trans' HT1.out (fun x hx => .inl (.inl hx))
            have t2 := t1.trans' HQ.out (fun x hx => .inl (.inr (.inl hx)))
            have t3 := (t2.alloc _).grown hgrow (fun b hb => .inl (.inr (.inr (.inr (.inr hb)))))
            exact t3.setCell (.inl (.inl (by rfl))) _
          have HI2 := hide hI2
          have HT2 := hide hT2
          have c4' := (hgrow.cell_far ⟨h, 2 + 2, none⟩ (by simp; omega) hty).trans (by go_simp : _ = some s.vO)
          have z4' := (hgrow.frozen_far ⟨h, 4, none⟩ (by simp; omega) hty).trans (by go_simp : _ = false)
          clear hown2 hgrow hat hty hoO hI2 hT2
          go_wp2
          go_end0
          exact ⟨rfl, HT2.out, _, HI2.out, rfl, rfl, rfl, rfl, rfl, rfl, rfl, rfl, rfl, rfl, rfl⟩
end Go.Proofs.Ytkhcjkmifddlbaa

/- PlaceC -/
namespace Go.Proofs.Ytkhcjkmifddlbaa
open Go.RowKit

set_option maxHeartbeats 400000 in
theorem glyphPlace_any (a b c d x y s t : Int) (w : World) :
    Calls Try.prog 58 #[.agg #[.int .i64 a, .int .i64 b, .int .i64 c, .int .i64 d, .int .i64 x, .int .i64 y], .agg #[.int .i64 s, .int .i64 t]] w fun e w' =>
      e = .returned (.tuple #[.agg #[.int .i64 (Num.placeV a b c d x y s t).1, .int .i64 (Num.placeV a b c d x y s t).2.1], .int .i64 (Num.placeV a b c d x y s t).2.2]) ∧ Below w.heap.size w w' := by
  go_enter Try.func58, Try.ntmps58
  go_wp2_with fail
  refine (place_any _ _ _ _ _ _ _ _ _).mono ?_
  rintro e w1 ⟨rfl, hb⟩
  obtain ⟨hc, hfz⟩ := bcell hb
  have hz : w.heap.size + 1 + 1 < w1.heap.size := by have := hb.size; simp at this; omega
  have hb0 : Below w.heap.size w w1 := Below.trans (by (repeat (any_goals (first | exact Below.refl _ _ | assumption | refine Below.drew ?_ | refine below_drewN ?_ _ | refine Below.setCell ?_ ?_ _ | refine Below.alloc ?_ ?_ _ | omega | (simp; done) | (simp; omega))))) (hb.mono (by simp; omega))
  clear hb
  go_wp2
  refine bodyPost_ret (v := .tuple #[.agg #[.int .i64 (Num.placeV a b c d x y s t).1, .int .i64 (Num.placeV a b c d x y s t).2.1], .int .i64 (Num.placeV a b c d x y s t).2.2]) (by simp [results, Try.results58, go_sem, hc]) rfl ⟨rfl, ?_⟩
  (repeat (any_goals (first | exact Below.refl _ _ | assumption | refine Below.drew ?_ | refine below_drewN ?_ _ | refine Below.setCell ?_ ?_ _ | refine Below.alloc ?_ ?_ _ | omega | (simp; done) | (simp; omega))))

set_option maxHeartbeats 400000 in
theorem num_any (n : Int) (w : World) :
    Calls Try.prog 49 #[.int .i64 n] w fun e w' => e = .returned (.int .i64 n) ∧ w' = w := by
  go_enter Try.func49, Try.ntmps49
  go_wp2
  go_ret
  exact ⟨rfl, rfl⟩

set_option maxHeartbeats 400000 in
theorem places_any (p : Value) (a b c d x y s t : Int) (w : World) :
    Calls Try.prog 16 #[p, .agg #[.int .i64 a, .int .i64 b, .int .i64 c, .int .i64 d, .int .i64 x, .int .i64 y], .agg #[.int .i64 s, .int .i64 t]] w fun e w' =>
      e = .returned (.bool true) ∧ Below w.heap.size w w' := by
  go_enter Try.func16, Try.ntmps16
  go_wp2_with fail
  refine (glyphPlace_any _ _ _ _ _ _ _ _ _).mono ?_
  rintro e w1 ⟨rfl, hb⟩
  obtain ⟨hc, hfz⟩ := bcell hb
  have hz : w.heap.size + 1 < w1.heap.size := by have := hb.size; simp at this; omega
  have hb0 : Below w.heap.size w w1 := Below.trans (by (repeat (any_goals (first | exact Below.refl _ _ | assumption | refine Below.drew ?_ | refine below_drewN ?_ _ | refine Below.setCell ?_ ?_ _ | refine Below.alloc ?_ ?_ _ | omega | (simp; done) | (simp; omega))))) (hb.mono (by simp; omega))
  clear hb
  have hz0 : w.heap.size < w1.heap.size := by omega
  have c0 : w1.cell? ⟨w.heap.size, 0, none⟩ = some (.int .i64 a) := by rw [hc _ _ (by simp; omega)]; go_simp
  have c1 : w1.cell? ⟨w.heap.size, 1, none⟩ = some (.int .i64 b) := by rw [hc _ _ (by simp; omega)]; go_simp
  have c2 : w1.cell? ⟨w.heap.size, 2, none⟩ = some (.int .i64 c) := by rw [hc _ _ (by simp; omega)]; go_simp
  have c3 : w1.cell? ⟨w.heap.size, 3, none⟩ = some (.int .i64 d) := by rw [hc _ _ (by simp; omega)]; go_simp
  have c4 : w1.cell? ⟨w.heap.size, 4, none⟩ = some (.int .i64 x) := by rw [hc _ _ (by simp; omega)]; go_simp
  have c5 : w1.cell? ⟨w.heap.size, 5, none⟩ = some (.int .i64 y) := by rw [hc _ _ (by simp; omega)]; go_simp
  have e0 : w1.cell? ⟨w.heap.size + 1, 0, none⟩ = some (.int .i64 s) := by rw [hc _ _ (by simp)]; go_simp
  have e1 : w1.cell? ⟨w.heap.size + 1, 1, none⟩ = some (.int .i64 t) := by rw [hc _ _ (by simp)]; go_simp
  clear hc hfz
  obtain ⟨V, hV⟩ : ∃ V, Num.placeV a b c d x y s t = V := ⟨_, rfl⟩
  rw [hV]
  have HV := hide hV
  clear hV
  go_wp2_with fail
  refine (refPlace_any _ _ _ _ _ _ _ _ _).mono ?_
  rw [HV.out]
  rintro e w2 ⟨rfl, hb2⟩
  obtain ⟨hc2, hfz2⟩ := bcell hb2
  have hz2 : w1.heap.size < w2.heap.size := by have := hb2.size; simp at this; omega
  have hb3 : Below w.heap.size w w2 := Below.trans (by (repeat (any_goals (first | exact Below.refl _ _ | assumption | refine Below.drew ?_ | refine below_drewN ?_ _ | refine Below.setCell ?_ ?_ _ | refine Below.alloc ?_ ?_ _ | omega | (simp; done) | (simp; omega))))) (hb2.mono (by simp; omega))
  clear hb2 hb0
  go_wp2_with (go_at_call 49; refine (num_any _ _).mono ?_; rintro e w' ⟨rfl, rfl⟩)
  go_ret
  exact ⟨rfl, by (repeat (any_goals (first | exact Below.refl _ _ | assumption | refine Below.drew ?_ | refine below_drewN ?_ _ | refine Below.setCell ?_ ?_ _ | refine Below.alloc ?_ ?_ _ | omega | (simp; done) | (simp; omega))))⟩

set_option maxHeartbeats 400000 in
theorem placed_any (a b c d x y s t : Int) (w : World) :
    Calls Try.prog 4 #[.agg #[.int .i64 a, .int .i64 b, .int .i64 c, .int .i64 d, .int .i64 x, .int .i64 y], .agg #[.int .i64 s, .int .i64 t]] w fun e w' =>
      e = .returned (.bool true) ∧ Below w.heap.size w w' := by
  go_enter Try.func4, Try.ntmps4
  go_wp2_with fail
  refine (places_any _ _ _ _ _ _ _ _ _ _).mono ?_
  rintro e w1 ⟨rfl, hb⟩
  obtain ⟨hc, hfz⟩ := bcell hb
  have hz : w.heap.size + 1 < w1.heap.size := by have := hb.size; simp at this; omega
  have hb0 : Below w.heap.size w w1 := Below.trans (by (repeat (any_goals (first | exact Below.refl _ _ | assumption | refine Below.drew ?_ | refine below_drewN ?_ _ | refine Below.setCell ?_ ?_ _ | refine Below.alloc ?_ ?_ _ | omega | (simp; done) | (simp; omega))))) (hb.mono (by simp; omega))
  clear hb
  go_wp2_with fail
  refine (places_any _ _ _ _ _ _ _ _ _ _).mono ?_
  rintro e w2 ⟨rfl, hb2⟩
  have hb3 : Below w.heap.size w w2 := Below.trans hb0 (hb2.mono (by omega))
  clear hb2 hb0
  go_wp2
  go_ret
  exact ⟨rfl, hb3⟩
end Go.Proofs.Ytkhcjkmifddlbaa

/- Checks -/
namespace Go.Proofs.Ytkhcjkmifddlbaa
open Go.RowKit Go.Deep

theorem outS_ge {w : World} {h ob M B0 : Nat} {B : Nat → Nat} {s : HS} (H : HeldInv w h s) (hh : B0 ≤ h) (ho : B0 ≤ ob) (hB : ∀ i, i < M → B0 ≤ B i) {b : Nat} (hb : outS h ob M B s b) : B0 ≤ b := by
  rcases hb with rfl | rfl | ⟨i, hi, rfl⟩ | hb | hb
  · exact hh
  · exact ho
  · exact hB i hi
  · have := (H.oP.lt b hb).1; omega
  · have := (H.oO.lt b hb).1; omega

set_option maxHeartbeats 1000000 in
theorem checks_any (a : Option Addr) (N c h : Nat) (A : Nat → Option Addr) (C n : Nat → Nat) (X Y K : Nat → Nat → Int) (s : HS) (w0 w : World) (hN : N ≤ 2097152) (hn : ∀ i, i < N → n i ≤ 2097152) (hS : Num.sumN n N ≤ 1099511627776)
    (ho : OutAt w0 a N A C n X Y K) (hb0 : Below w0.heap.size w0 w) (hh : w0.heap.size ≤ h) (H : HeldInv w h s) (hs : s.n + N + 3 ≤ 1099511627776) :
    Calls Try.prog 13 #[.pointer (some ⟨h, 0, none⟩), .slice a N c] w fun e w' => e = .returned (.bool true) ∧ Below w0.heap.size w w' ∧ ∃ s', HeldInv w' h s' ∧ s'.n = s.n + N + 3 ∧ s'.cs = s.cs ∧ s'.rs = s.rs := by
  have hn1 : ∀ i, i < N → n i ≤ 4294967295 := fun i hi => by have := hn i hi; omega
  have hn2 : ∀ i, i < N → n i ≤ 4294967296 := fun i hi => by have := hn i hi; omega
  have hsz0 := hb0.size
  have hhw := H.wd.lt
  have HH := hide H
  have HN1 := hide hn1
  have HN2 := hide hn2
  have HO := hide (ho.below hb0)
  clear H hn1 hn2 ho hn hb0
  go_enter Try.func13, Try.ntmps13
  go_wp2_with fail
  refine (lend_any _ _ _ A C n X Y K _ (by omega) HN1.out HO.out).mono ?_
  rintro e w1 ⟨rfl, hb1, B, hL⟩
  have HL := hide hL
  have HB1 := hide hb1
  have hs1 := hb1.size
  clear hL hb1
  go_wp2_with fail
  refine (glyphCheck_any _ _ _ _ _ n X Y K _ (by omega) HN2.out HL.out.out).mono ?_
  rintro e w2 ⟨rfl, hb2⟩
  have HB2 := hide (HB1.out.trans (hb2.mono hs1))
  have HL2 := hide (HL.out.below hb2)
  have hs2 := hb2.size
  clear hb2
  obtain ⟨V, hV⟩ : ∃ V, Num.chkV N n X Y K = V := ⟨_, rfl⟩
  rw [hV]
  have HV := hide hV
  clear hV
  go_wp2_with fail
  refine (refCheck_any _ _ _ A C n X Y K _ (by omega) HN2.out hS (HO.out.below HB2.out)).mono ?_
  rw [HV.out]
  rintro e w3 ⟨rfl, hb3⟩
  have HB3 := hide (HB2.out.trans (hb3.mono (by omega)))
  have HL3 := hide (HL2.out.below hb3)
  have hs3 := hb3.size
  clear hb3
  go_wp2_with fail
  refine (lent_any _ _ _ _ _ A C n B X Y K _ (by omega) HN1.out HL3.out (HO.out.below HB3.out)).mono ?_
  rintro e w4 ⟨rfl, hb4⟩
  have HB4 := hide (HB3.out.trans (hb4.mono (by omega)))
  have HL4 := hide (HL3.out.below hb4)
  have hs4 := hb4.size
  clear hb4
  have H4 := hide (HH.out.below HB4.out)
  go_wp2_with fail
  refine (outline_any w.heap.size h w.heap.size N (N + 2) B _ _ s _ (by omega) H4.out (HL4.out.lists HH.out.under (by omega) HN1.out) (by omega) (by omega)).mono ?_
  rintro e w5 ⟨rfl, hT5, s', hI5, hn5, hcs, hrs, _, _⟩
  have HT5 := hide hT5
  have HI5 := hide (And.intro hI5 (And.intro hn5 (And.intro hcs hrs)))
  clear hT5 hI5 hn5 hcs hrs
  go_wp2_with (go_at_call 49; refine (num_any _ _).mono ?_; rintro e w' ⟨rfl, rfl⟩)
  go_ret
  obtain ⟨hI5, hn5, hcs, hrs⟩ := HI5.out
  refine ⟨rfl, ?_, s', hI5, ?_, hcs, hrs⟩
  · have t := HT5.out.below (B := w0.heap.size) (by omega) (fun b hb => outS_ge H4.out hh (by omega) (fun i hi => by have := HL4.out.geB i hi; omega) hb)
    exact (HB4.out.mono hsz0).trans t
  · rw [hn5]; omega
end Go.Proofs.Ytkhcjkmifddlbaa

/- Dry -/
namespace Go.Proofs.Ytkhcjkmifddlbaa
open Go.RowKit Go.Deep

theorem flat2 {α : Type} (f : α → List Value) (hf : ∀ e, (f e).length = 2) : ∀ (l : List α) (i : Nat) (hi : i < l.length), (l.flatMap f)[i * 2]? = (f l[i])[0]? ∧ (l.flatMap f)[i * 2 + 1]? = (f l[i])[1]? := by
  intro l
  induction l with
  | nil => intro i hi; simp at hi
  | cons x r ih =>
    intro i hi
    rw [List.flatMap_cons]
    cases i with
    | zero =>
      have := hf x
      simp only [Nat.zero_mul, Nat.zero_add, List.getElem_cons_zero]
      rw [List.getElem?_append_left (by omega), List.getElem?_append_left (by omega)]
      exact ⟨rfl, rfl⟩
    | succ j =>
      have h2 := hf x
      have := ih j (by simpa using hi)
      simp only [List.getElem_cons_succ]
      rw [List.getElem?_append_right (by omega), List.getElem?_append_right (by omega), h2]
      rw [show (j + 1) * 2 - 2 = j * 2 by omega, show (j + 1) * 2 + 1 - 2 = j * 2 + 1 by omega]
      exact this

/-- The shape of a row that the caller owns, two cells an element. -/
theorem owns_form {α : Type} {w : World} {base : Nat} {t : TypeId} {v : Value} {l : List α} {f : α → List Value} (hf : ∀ e, (f e).length = 2) (h : w.ownsRow base t 2 v l.length (l.flatMap f)) :
    ∃ ao cap, v = .slice ao l.length cap ∧ (0 < l.length → ∃ g, ao = some ⟨g, 0, none⟩ ∧ g < w.heap.size ∧ ∀ (i : Nat) (hi : i < l.length), w.cell? ⟨g, i * 2, none⟩ = (f l[i])[0]? ∧ w.cell? ⟨g, i * 2 + 1, none⟩ = (f l[i])[1]?) := by
  rcases h.2 with ⟨rfl, h0⟩ | ⟨g, cap, cur, rfl, hb, hg, hle, hcap, hsz, htk⟩
  · exact ⟨none, 0, by rw [h0], by omega⟩
  · refine ⟨some ⟨g, 0, none⟩, cap, rfl, fun _ => ⟨g, rfl, (Array.getElem?_eq_some_iff.1 hg).1, fun i hi => ?_⟩⟩
    have := flat2 f hf l i hi
    have e : ∀ j, j < l.length * 2 → w.cell? ⟨g, j, none⟩ = (l.flatMap f)[j]? := fun j hj => h.cellAt j hj
    rw [e _ (by omega), e _ (by omega)]
    exact this

theorem mkP_row {w : World} {b m : Nat} {t : TypeId} {n : Int} (h : w.rowIs b t (m * 3) (mkP n)) (k : Nat) (hk : k < m) :
    w.cell? ⟨b, k * 3, none⟩ = some (.int .i64 (2199023255552 + n)) ∧ w.cell? ⟨b, k * 3 + 1, none⟩ = some (.int .i64 (-7)) ∧ w.cell? ⟨b, k * 3 + 2, none⟩ = some (.int .i64 9) := by
  exact row_cells h k hk

set_option maxHeartbeats 1000000 in
theorem points_any (h : Nat) (s : HS) (w : World) (H : HeldInv w h s) :
    Calls Try.prog 56 #[.pointer (some ⟨h, 2, none⟩)] w fun e w' => e = .returned (.bool true) ∧ Below w.heap.size w w' := by
  have HH := hide H
  have hlo := H.lo
  have hhi := H.hi
  obtain ⟨aP, cP, evP, hP⟩ := owns_form (fun e => rfl) H.oP
  obtain ⟨aO, cO, evO, hO⟩ := owns_form (fun e => rfl) H.oO
  have c3 : w.cell? ⟨h, 2 + 1, none⟩ = some (.slice aP s.P.length cP) := by rw [H.wd.cell (by omega), ← evP]; rfl
  have c4 : w.cell? ⟨h, 2 + 2, none⟩ = some (.slice aO s.O.length cO) := by rw [H.wd.cell (by omega), ← evO]; rfl
  have hhl := H.wd.lt
  have HP := hide hP
  have HO := hide hO
  clear H evP evO hP hO
  have lP : (s.P.length : Int) ≤ 1099511627776 := by omega
  have lO : (s.O.length : Int) ≤ 1099511627776 := by omega
  go_enter Try.func56, Try.ntmps56
  go_wp2_with fail
  go_loopw [3] (fun t wr => ∃ i : Nat, i ≤ s.P.length ∧ t = .int .i64 i ∧ Below w.heap.size w wr) (fun t _ => s.P.length - (intOf t).toNat)
  case atStart => exact ⟨0, by omega, rfl, Below.refl _ _⟩
  case round =>
    obtain ⟨wo, rfl⟩ : ∃ wo, wo = wr := ⟨wr, rfl⟩
    obtain ⟨i, hi, rfl, hb⟩ := hrel
    have hsz := hb.size
    have d3 := (hb.cell (p := ⟨h, 2 + 1, none⟩) hhl).trans c3
    by_cases hlt : i < s.P.length
    · obtain ⟨g, rfl, hgl, hg⟩ := HP.out (by omega)
      obtain ⟨x0, x1⟩ := hg i hlt
      obtain ⟨e, he⟩ : ∃ e, s.P[i] = e := ⟨_, rfl⟩
      have hmem : e ∈ s.P := by rw [← he]; exact List.getElem_mem hlt
      rw [he] at x0 x1
      have y0 := (hb.cell (p := ⟨g, i * 2, none⟩) hgl).trans x0
      have y1 := (hb.cell (p := ⟨g, i * 2 + 1, none⟩) hgl).trans x1
      simp only [peC, List.getElem?_cons_zero, List.getElem?_cons_succ] at y0 y1
      obtain ⟨b, m, n⟩ := e
      have hrow : w.rowIs b 133 (m * 3) (mkP n) := HH.out.eP _ hmem
      obtain ⟨n0, n1, n2⟩ : 0 ≤ n ∧ n ≤ 1099511627776 ∧ m ≤ 1099511627776 := HH.out.mP _ hmem
      simp only at y0 y1
      have HR := hide hrow
      have hbl := hrow.lt
      clear hg x0 x1 he hmem hrow
      have hd1 : decide ((i : Int) < (s.P.length : Int)) = true := by simp; omega
      go_wp2_with fail
      go_loopw [5] (fun t wr => ∃ k : Nat, k ≤ m ∧ t = .int .i64 k ∧ wo.heap.size < wr.heap.size ∧ Below w.heap.size w wr ∧ wr.cell? ⟨wo.heap.size, 0, none⟩ = some (.slice (some ⟨b, 0, none⟩) m m) ∧ wr.cell? ⟨wo.heap.size, 1, none⟩ = some (.int .i64 n)) (fun t _ => m - (intOf t).toNat)
      case atStart =>
        refine ⟨0, by omega, rfl, by simp, by (repeat (any_goals (first | exact Below.refl _ _ | assumption | refine Below.drew ?_ | refine below_drewN ?_ _ | refine Below.setCell ?_ ?_ _ | refine Below.alloc ?_ ?_ _ | omega | (simp; done) | (simp; omega)))), ?_, ?_⟩
        all_goals go_simp
      case round =>
        obtain ⟨k, hk, rfl, hszr, hbr, b0, b1⟩ := hrel
        by_cases hkm : k < m
        · obtain ⟨q0, q1, q2⟩ := mkP_row (row_below HR.out hbr hbl) k hkm
          have hd2 : decide ((k : Int) < (m : Int)) = true := by simp; omega
          have g0 : (0 : Int) ≤ (k : Int) := by omega
          have g1 : (k : Int) < (m : Int) := by omega
          go_wp2_with fail
          go_region_held3 (fun w' => w'.cell? ⟨wo.heap.size, 0, none⟩ = some (.slice (some ⟨b, 0, none⟩) m m) ∧ w'.cell? ⟨wo.heap.size, 1, none⟩ = some (.int .i64 n) ∧ w'.cell? ⟨b, k * 3, none⟩ = some (.int .i64 (2199023255552 + n)) ∧ w'.cell? ⟨b, k * 3 + 1, none⟩ = some (.int .i64 (-7)) ∧ w'.cell? ⟨b, k * 3 + 2, none⟩ = some (.int .i64 9)) (go_keep) ((go_at_call 88; refine (markPoint_any _ _ n0 n1).mono ?_; rintro e w' ⟨rfl, rfl⟩))
          go_wp2
          go_roundw
          case rel =>
            refine ⟨k + 1, by omega, by go_num, by simp; omega, by (repeat (any_goals (first | exact Below.refl _ _ | assumption | refine Below.drew ?_ | refine below_drewN ?_ _ | refine Below.setCell ?_ ?_ _ | refine Below.alloc ?_ ?_ _ | omega | (simp; done) | (simp; omega)))), ?_, ?_⟩
            all_goals go_simp
          case measure => simp [intOf]; omega
        · go_wp2
          go_roundw
          case rel => exact ⟨i + 1, by omega, by go_num, hbr⟩
          case measure => simp [intOf]; omega
    · have hd0 : decide ((i : Int) < (s.P.length : Int)) = false := by simp; omega
      go_wp2_with fail
      go_loopw [6] (fun t wr => ∃ j : Nat, j ≤ s.O.length ∧ t = .int .i64 j ∧ Below w.heap.size w wr) (fun t _ => s.O.length - (intOf t).toNat)
      case atStart => exact ⟨0, by omega, rfl, hb⟩
      case round =>
        obtain ⟨wp, rfl⟩ : ∃ wp, wp = wr := ⟨wr, rfl⟩
        obtain ⟨j, hj, rfl, hbj⟩ := hrel
        have hszj := hbj.size
        have d4 := (hbj.cell (p := ⟨h, 2 + 2, none⟩) hhl).trans c4
        by_cases hltj : j < s.O.length
        · obtain ⟨g, rfl, hgl, hg⟩ := HO.out (by omega)
          obtain ⟨x0, x1⟩ := hg j hltj
          obtain ⟨e, he⟩ : ∃ e, s.O[j] = e := ⟨_, rfl⟩
          have hmem : e ∈ s.O := by rw [← he]; exact List.getElem_mem hltj
          rw [he] at x0 x1
          have y0 := (hbj.cell (p := ⟨g, j * 2, none⟩) hgl).trans x0
          have y1 := (hbj.cell (p := ⟨g, j * 2 + 1, none⟩) hgl).trans x1
          simp only [oeC, List.getElem?_cons_zero, List.getElem?_cons_succ] at y0 y1
          obtain ⟨b, m, F, n⟩ := e
          have hrow : w.rowIs b 62 m (fun i => .slice (some ⟨F i, 0, none⟩) 1 1) := HH.out.eO _ hmem
          have hin : ∀ q, q < m → w.rowIs (F q) 133 3 (mkP n) := HH.out.eI _ hmem
          obtain ⟨n0, n1, n2⟩ : 0 ≤ n ∧ n ≤ 1099511627776 ∧ m ≤ 1099511627776 := HH.out.mO _ hmem
          simp only at y0 y1
          have HR := hide hrow
          have HIn := hide hin
          have hbl := hrow.lt
          clear hg x0 x1 he hmem hrow hin
          have hd1 : decide ((j : Int) < (s.O.length : Int)) = true := by simp; omega
          go_wp2_with fail
          go_loopw [8] (fun t wr => ∃ k : Nat, k ≤ m ∧ t = .int .i64 k ∧ wp.heap.size < wr.heap.size ∧ Below w.heap.size w wr ∧ wr.cell? ⟨wp.heap.size, 0, none⟩ = some (.slice (some ⟨b, 0, none⟩) m m) ∧ wr.cell? ⟨wp.heap.size, 1, none⟩ = some (.int .i64 n)) (fun t _ => m - (intOf t).toNat)
          case atStart =>
            refine ⟨0, by omega, rfl, by simp, by (repeat (any_goals (first | exact Below.refl _ _ | assumption | refine Below.drew ?_ | refine below_drewN ?_ _ | refine Below.setCell ?_ ?_ _ | refine Below.alloc ?_ ?_ _ | omega | (simp; done) | (simp; omega)))), ?_, ?_⟩
            all_goals go_simp
          case round =>
            obtain ⟨k, hk, rfl, hszr, hbr, b0, b1⟩ := hrel
            by_cases hkm : k < m
            · have r0 := (row_below HR.out hbr hbl).cell (i := k) hkm
              obtain ⟨q0, q1, q2⟩ := mkP_row (m := 1) (row_below (HIn.out k hkm) hbr (HIn.out k hkm).lt) 0 (by omega)
              simp only [Nat.zero_mul, Nat.zero_add] at q0 q1 q2
              have hd2 : decide ((k : Int) < (m : Int)) = true := by simp; omega
              have g0 : (0 : Int) ≤ (k : Int) := by omega
              have g1 : (k : Int) < (m : Int) := by omega
              go_wp2_with fail
              go_region_held3 (fun w' => w'.cell? ⟨wp.heap.size, 1, none⟩ = some (.int .i64 n) ∧ w'.cell? ⟨F k, 0, none⟩ = some (.int .i64 (2199023255552 + n)) ∧ w'.cell? ⟨F k, 1, none⟩ = some (.int .i64 (-7)) ∧ w'.cell? ⟨F k, 2, none⟩ = some (.int .i64 9)) (go_keep) ((go_at_call 88; refine (markPoint_any _ _ n0 n1).mono ?_; rintro e w' ⟨rfl, rfl⟩))
              go_wp2
              go_roundw
              case rel =>
                refine ⟨k + 1, by omega, by go_num, by simp; omega, by (repeat (any_goals (first | exact Below.refl _ _ | assumption | refine Below.drew ?_ | refine below_drewN ?_ _ | refine Below.setCell ?_ ?_ _ | refine Below.alloc ?_ ?_ _ | omega | (simp; done) | (simp; omega)))), ?_, ?_⟩
                all_goals go_simp
              case measure => simp [intOf]; omega
            · go_wp2
              go_roundw
              case rel => exact ⟨j + 1, by omega, by go_num, hbr⟩
              case measure => simp [intOf]; omega
        · have hd3 : decide ((j : Int) < (s.O.length : Int)) = false := by simp; omega
          go_wp2
          go_ret
          exact ⟨rfl, hbj⟩
end Go.Proofs.Ytkhcjkmifddlbaa

/- DryB -/
namespace Go.Proofs.Ytkhcjkmifddlbaa
open Go.RowKit Go.Deep

set_option maxHeartbeats 400000 in
theorem markSegment_exact (n : Int) (w : World) (h0 : 0 ≤ n) (h1 : n ≤ 1099511627776) :
    Calls Try.prog 54 #[.int .i64 n] w fun e w' => e = .returned (.agg #[.int .i64 9, .int .i64 (2199023255552 + n), .int .i64 (-7), .int .i64 (2199023255552 + n), .int .i64 (-7), .int .i64 (2199023255552 + n), .int .i64 (-7), .int .i64 (2199023255552 + n), .int .i64 (-7)]) ∧ w' = ((w.alloc (.cells #[.int .i64 9, .int .i64 (2199023255552 + n), .int .i64 (-7), .int .i64 (2199023255552 + n), .int .i64 (-7), .int .i64 (2199023255552 + n), .int .i64 (-7), .int .i64 (2199023255552 + n), .int .i64 (-7)] 44)).alloc (.cells #[.int .i64 (2199023255552 + n), .int .i64 (-7)] 41)).alloc (.cells #[.int .i64 (2199023255552 + n), .int .i64 (-7)] 41) := by
  go_enter Try.func54, Try.ntmps54
  go_wp2_with fail
  refine (markSpot_any _ _ h0 h1).mono ?_
  rintro e w1 ⟨rfl, rfl⟩
  go_wp2
  exact bodyPost_ret (v := .agg #[.int .i64 9, .int .i64 (2199023255552 + n), .int .i64 (-7), .int .i64 (2199023255552 + n), .int .i64 (-7), .int .i64 (2199023255552 + n), .int .i64 (-7), .int .i64 (2199023255552 + n), .int .i64 (-7)]) (by simp [results, Try.results54, go_sem]) rfl ⟨rfl, rfl⟩

theorem keep3 {w : World} {o1 o2 o3 : Obj} {b o : Nat} {v : Value} (hb : b < w.heap.size) (h : w.cell? ⟨b, o, none⟩ = some v) : (((w.alloc o1).alloc o2).alloc o3).drew.cell? ⟨b, o, none⟩ = some v := by
  have e : Below w.heap.size w (((w.alloc o1).alloc o2).alloc o3).drew := by (repeat (any_goals (first | exact Below.refl _ _ | assumption | refine Below.drew ?_ | refine below_drewN ?_ _ | refine Below.setCell ?_ ?_ _ | refine Below.alloc ?_ ?_ _ | omega | (simp; done) | (simp; omega))))
  exact (e.cell (p := ⟨b, o, none⟩) hb).trans h

theorem mkS_row {w : World} {b m : Nat} {t : TypeId} {n : Int} (h : w.rowIs b t (m * 9) (mkS n)) (k : Nat) (hk : k < m) :
    w.cell? ⟨b, k * 9, none⟩ = some (.int .i64 9) ∧ w.cell? ⟨b, k * 9 + 1, none⟩ = some (.int .i64 (2199023255552 + n)) ∧ w.cell? ⟨b, k * 9 + 2, none⟩ = some (.int .i64 (-7)) ∧ w.cell? ⟨b, k * 9 + 3, none⟩ = some (.int .i64 (2199023255552 + n)) ∧ w.cell? ⟨b, k * 9 + 4, none⟩ = some (.int .i64 (-7)) ∧ w.cell? ⟨b, k * 9 + 5, none⟩ = some (.int .i64 (2199023255552 + n)) ∧ w.cell? ⟨b, k * 9 + 6, none⟩ = some (.int .i64 (-7)) ∧ w.cell? ⟨b, k * 9 + 7, none⟩ = some (.int .i64 (2199023255552 + n)) ∧ w.cell? ⟨b, k * 9 + 8, none⟩ = some (.int .i64 (-7)) := by
  refine ⟨?_, ?_, ?_, ?_, ?_, ?_, ?_, ?_, ?_⟩
  · rw [h.cell (i := k * 9) (by omega)]; unfold mkS; rw [if_pos (by omega)]
  · rw [h.cell (i := k * 9 + 1) (by omega)]; unfold mkS; rw [if_neg (by omega), if_pos (by omega)]
  · rw [h.cell (i := k * 9 + 2) (by omega)]; unfold mkS; rw [if_neg (by omega), if_neg (by omega)]
  · rw [h.cell (i := k * 9 + 3) (by omega)]; unfold mkS; rw [if_neg (by omega), if_pos (by omega)]
  · rw [h.cell (i := k * 9 + 4) (by omega)]; unfold mkS; rw [if_neg (by omega), if_neg (by omega)]
  · rw [h.cell (i := k * 9 + 5) (by omega)]; unfold mkS; rw [if_neg (by omega), if_pos (by omega)]
  · rw [h.cell (i := k * 9 + 6) (by omega)]; unfold mkS; rw [if_neg (by omega), if_neg (by omega)]
  · rw [h.cell (i := k * 9 + 7) (by omega)]; unfold mkS; rw [if_neg (by omega), if_pos (by omega)]
  · rw [h.cell (i := k * 9 + 8) (by omega)]; unfold mkS; rw [if_neg (by omega), if_neg (by omega)]

theorem mkT_row {w : World} {b m : Nat} {t : TypeId} {n : Int} (h : w.rowIs b t (m * 2) (mkT n)) (k : Nat) (hk : k < m) :
    w.cell? ⟨b, k * 2, none⟩ = some (.int .i64 (2199023255552 + n)) ∧ w.cell? ⟨b, k * 2 + 1, none⟩ = some (.int .i64 (-7)) := by
  refine ⟨?_, ?_⟩
  · rw [h.cell (i := k * 2) (by omega)]; unfold mkT; rw [if_pos (by omega)]
  · rw [h.cell (i := k * 2 + 1) (by omega)]; unfold mkT; rw [if_neg (by omega)]
theorem spot_form (e : Option Nat × Nat × Int) {w : World} (h1 : ∀ b, e.1 = some b → w.rowIs b 41 (e.2.1 * 2) (mkT e.2.2)) (h2 : e.1 = none → e.2.1 = 0) :
    ∃ ao, (seC e)[0]? = some (.slice ao e.2.1 e.2.1) ∧ (seC e)[1]? = some (.int .i64 e.2.2) ∧ (0 < e.2.1 → ∃ b, ao = some ⟨b, 0, none⟩ ∧ w.rowIs b 41 (e.2.1 * 2) (mkT e.2.2)) := by
  obtain ⟨eb, m, n⟩ := e
  cases eb with
  | none => exact ⟨none, rfl, rfl, fun h => by have := h2 rfl; simp at this h; omega⟩
  | some b => exact ⟨some ⟨b, 0, none⟩, rfl, rfl, fun _ => ⟨b, rfl, h1 b rfl⟩⟩
theorem ring_form (e : Option Nat × Nat × (Nat → Nat) × Int) {w : World} (h1 : ∀ b, e.1 = some b → w.rowIs b 48 e.2.1 (fun i => .slice (some ⟨e.2.2.1 i, 0, none⟩) 1 1)) (h2 : e.1 = none → e.2.1 = 0) :
    ∃ ao, (reC e)[0]? = some (.slice ao e.2.1 e.2.1) ∧ (reC e)[1]? = some (.int .i64 e.2.2.2) ∧ (0 < e.2.1 → ∃ b, ao = some ⟨b, 0, none⟩ ∧ w.rowIs b 48 e.2.1 (fun i => .slice (some ⟨e.2.2.1 i, 0, none⟩) 1 1)) := by
  obtain ⟨eb, m, F, n⟩ := e
  cases eb with
  | none => exact ⟨none, rfl, rfl, fun h => by have := h2 rfl; simp at this h; omega⟩
  | some b => exact ⟨some ⟨b, 0, none⟩, rfl, rfl, fun _ => ⟨b, rfl, h1 b rfl⟩⟩

set_option maxHeartbeats 1000000 in
theorem heldPlaces_any (h : Nat) (s : HS) (w : World) (H : HeldInv w h s) :
    Calls Try.prog 57 #[.pointer (some ⟨h, 2, none⟩)] w fun e w' => e = .returned (.bool true) ∧ Below w.heap.size w w' := by
  have HH := hide H
  have hlo := H.lo
  have hhi := H.hi
  obtain ⟨aP, cP, evP, hP⟩ := owns_form (fun e => rfl) H.oT
  obtain ⟨aO, cO, evO, hO⟩ := owns_form (fun e => rfl) H.oR
  have c3 : w.cell? ⟨h, 2 + 4, none⟩ = some (.slice aP s.T.length cP) := by rw [H.wd.cell (by omega), ← evP]; rfl
  have c4 : w.cell? ⟨h, 2 + 5, none⟩ = some (.slice aO s.R.length cO) := by rw [H.wd.cell (by omega), ← evO]; rfl
  have hhl := H.wd.lt
  have HP := hide hP
  have HO := hide hO
  clear H evP evO hP hO
  have lP : (s.T.length : Int) ≤ 1099511627776 := by omega
  have lO : (s.R.length : Int) ≤ 1099511627776 := by omega
  go_enter Try.func57, Try.ntmps57
  go_wp2_with fail
  go_loopw [3] (fun t wr => ∃ i : Nat, i ≤ s.T.length ∧ t = .int .i64 i ∧ Below w.heap.size w wr) (fun t _ => s.T.length - (intOf t).toNat)
  case atStart => exact ⟨0, by omega, rfl, Below.refl _ _⟩
  case round =>
    obtain ⟨wo, rfl⟩ : ∃ wo, wo = wr := ⟨wr, rfl⟩
    obtain ⟨i, hi, rfl, hb⟩ := hrel
    have hsz := hb.size
    have d3 := (hb.cell (p := ⟨h, 2 + 4, none⟩) hhl).trans c3
    by_cases hlt : i < s.T.length
    · obtain ⟨g, rfl, hgl, hg⟩ := HP.out (by omega)
      obtain ⟨x0, x1⟩ := hg i hlt
      obtain ⟨e, he⟩ : ∃ e, s.T[i] = e := ⟨_, rfl⟩
      have hmem : e ∈ s.T := by rw [← he]; exact List.getElem_mem hlt
      rw [he] at x0 x1
      have y0 := (hb.cell (p := ⟨g, i * 2, none⟩) hgl).trans x0
      have y1 := (hb.cell (p := ⟨g, i * 2 + 1, none⟩) hgl).trans x1
      obtain ⟨n0, n1, n2⟩ : 0 ≤ e.2.2 ∧ e.2.2 ≤ 1099511627776 ∧ (e.2.1 : Int) ≤ 9223372036854775807 := HH.out.mT _ hmem
      obtain ⟨ao, s0, s1, hrow⟩ := spot_form e (HH.out.eT e hmem) (HH.out.eU e hmem)
      rw [s0] at y0
      rw [s1] at y1
      obtain ⟨eb, m, n⟩ := e
      simp only at y0 y1 hrow n0 n1 n2
      have HR := hide hrow
      clear hg x0 x1 he hmem hrow s0 s1
      have hd1 : decide ((i : Int) < (s.T.length : Int)) = true := by simp; omega
      go_wp2_with fail
      go_loopw [5] (fun t wr => ∃ k : Nat, k ≤ m ∧ t = .int .i64 k ∧ wo.heap.size < wr.heap.size ∧ Below w.heap.size w wr ∧ wr.cell? ⟨wo.heap.size, 0, none⟩ = some (.slice ao m m) ∧ wr.cell? ⟨wo.heap.size, 1, none⟩ = some (.int .i64 n)) (fun t _ => m - (intOf t).toNat)
      case atStart =>
        refine ⟨0, by omega, rfl, by simp, by (repeat (any_goals (first | exact Below.refl _ _ | assumption | refine Below.drew ?_ | refine below_drewN ?_ _ | refine Below.setCell ?_ ?_ _ | refine Below.alloc ?_ ?_ _ | omega | (simp; done) | (simp; omega)))), ?_, ?_⟩
        all_goals go_simp
      case round =>
        obtain ⟨k, hk, rfl, hszr, hbr, b0, b1⟩ := hrel
        by_cases hkm : k < m
        · obtain ⟨b, rfl, hrow⟩ := HR.out (by omega)
          obtain ⟨q0, q1⟩ := mkT_row (row_below hrow hbr hrow.lt) k hkm
          have hbw : b < wr.heap.size := (row_below hrow hbr hrow.lt).lt
          clear hrow
          have hd2 : decide ((k : Int) < (m : Int)) = true := by simp; omega
          have g0 : (0 : Int) ≤ (k : Int) := by omega
          have g1 : (k : Int) < (m : Int) := by omega
          go_wp2_with fail
          go_region_held3 (fun w' => w'.cell? ⟨wo.heap.size, 0, none⟩ = some (.slice (some ⟨b, 0, none⟩) m m) ∧ w'.cell? ⟨wo.heap.size, 1, none⟩ = some (.int .i64 n) ∧ w'.cell? ⟨b, k * 2, none⟩ = some (.int .i64 (2199023255552 + n)) ∧ w'.cell? ⟨b, k * 2 + 1, none⟩ = some (.int .i64 (-7))) (go_keep) ((go_at_call 91; refine (markSpot_any _ _ n0 n1).mono ?_; rintro e w' ⟨rfl, rfl⟩))
          go_wp2
          go_roundw
          case rel =>
            refine ⟨k + 1, by omega, by go_num, by simp; omega, by (repeat (any_goals (first | exact Below.refl _ _ | assumption | refine Below.drew ?_ | refine below_drewN ?_ _ | refine Below.setCell ?_ ?_ _ | refine Below.alloc ?_ ?_ _ | omega | (simp; done) | (simp; omega)))), ?_, ?_⟩
            all_goals go_simp
          case measure => simp [intOf]; omega
        · go_wp2
          go_roundw
          case rel => exact ⟨i + 1, by omega, by go_num, hbr⟩
          case measure => simp [intOf]; omega
    · have hd0 : decide ((i : Int) < (s.T.length : Int)) = false := by simp; omega
      go_wp2_with fail
      go_loopw [6] (fun t wr => ∃ j : Nat, j ≤ s.R.length ∧ t = .int .i64 j ∧ Below w.heap.size w wr) (fun t _ => s.R.length - (intOf t).toNat)
      case atStart => exact ⟨0, by omega, rfl, hb⟩
      case round =>
        obtain ⟨wp, rfl⟩ : ∃ wp, wp = wr := ⟨wr, rfl⟩
        obtain ⟨j, hj, rfl, hbj⟩ := hrel
        have hszj := hbj.size
        have d4 := (hbj.cell (p := ⟨h, 2 + 5, none⟩) hhl).trans c4
        by_cases hltj : j < s.R.length
        · obtain ⟨g, rfl, hgl, hg⟩ := HO.out (by omega)
          obtain ⟨x0, x1⟩ := hg j hltj
          obtain ⟨e, he⟩ : ∃ e, s.R[j] = e := ⟨_, rfl⟩
          have hmem : e ∈ s.R := by rw [← he]; exact List.getElem_mem hltj
          rw [he] at x0 x1
          have y0 := (hbj.cell (p := ⟨g, j * 2, none⟩) hgl).trans x0
          have y1 := (hbj.cell (p := ⟨g, j * 2 + 1, none⟩) hgl).trans x1
          obtain ⟨n0, n1, n2⟩ : 0 ≤ e.2.2.2 ∧ e.2.2.2 ≤ 1099511627776 ∧ (e.2.1 : Int) ≤ 9223372036854775807 := HH.out.mR _ hmem
          obtain ⟨ao, s0, s1, hrow⟩ := ring_form e (HH.out.eR e hmem) (HH.out.eM e hmem)
          have hin : ∀ q, q < e.2.1 → w.rowIs (e.2.2.1 q) 41 2 (mkT e.2.2.2) := HH.out.eJ _ hmem
          rw [s0] at y0
          rw [s1] at y1
          obtain ⟨eb, m, F, n⟩ := e
          simp only at y0 y1 hrow hin n0 n1 n2
          have HR := hide hrow
          have HIn := hide hin
          clear hg x0 x1 he hmem hrow hin s0 s1
          have hd1 : decide ((j : Int) < (s.R.length : Int)) = true := by simp; omega
          go_wp2_with fail
          go_loopw [8] (fun t wr => ∃ k : Nat, k ≤ m ∧ t = .int .i64 k ∧ wp.heap.size < wr.heap.size ∧ Below w.heap.size w wr ∧ wr.cell? ⟨wp.heap.size, 0, none⟩ = some (.slice ao m m) ∧ wr.cell? ⟨wp.heap.size, 1, none⟩ = some (.int .i64 n)) (fun t _ => m - (intOf t).toNat)
          case atStart =>
            refine ⟨0, by omega, rfl, by simp, by (repeat (any_goals (first | exact Below.refl _ _ | assumption | refine Below.drew ?_ | refine below_drewN ?_ _ | refine Below.setCell ?_ ?_ _ | refine Below.alloc ?_ ?_ _ | omega | (simp; done) | (simp; omega)))), ?_, ?_⟩
            all_goals go_simp
          case round =>
            obtain ⟨k, hk, rfl, hszr, hbr, b0, b1⟩ := hrel
            by_cases hkm : k < m
            · obtain ⟨b, rfl, hrow⟩ := HR.out (by omega)
              have r0 := (row_below hrow hbr hrow.lt).cell (i := k) hkm
              obtain ⟨q0, q1⟩ := mkT_row (m := 1) (row_below (HIn.out k hkm) hbr (HIn.out k hkm).lt) 0 (by omega)
              simp only [Nat.zero_mul, Nat.zero_add] at q0 q1
              clear hrow
              have hd2 : decide ((k : Int) < (m : Int)) = true := by simp; omega
              have g0 : (0 : Int) ≤ (k : Int) := by omega
              have g1 : (k : Int) < (m : Int) := by omega
              go_wp2_with fail
              go_region_held3 (fun w' => w'.cell? ⟨wp.heap.size, 1, none⟩ = some (.int .i64 n) ∧ w'.cell? ⟨F k, 0, none⟩ = some (.int .i64 (2199023255552 + n)) ∧ w'.cell? ⟨F k, 1, none⟩ = some (.int .i64 (-7))) (go_keep) ((go_at_call 91; refine (markSpot_any _ _ n0 n1).mono ?_; rintro e w' ⟨rfl, rfl⟩))
              go_wp2
              go_roundw
              case rel =>
                refine ⟨k + 1, by omega, by go_num, by simp; omega, by (repeat (any_goals (first | exact Below.refl _ _ | assumption | refine Below.drew ?_ | refine below_drewN ?_ _ | refine Below.setCell ?_ ?_ _ | refine Below.alloc ?_ ?_ _ | omega | (simp; done) | (simp; omega)))), ?_, ?_⟩
                all_goals go_simp
              case measure => simp [intOf]; omega
            · go_wp2
              go_roundw
              case rel => exact ⟨j + 1, by omega, by go_num, hbr⟩
              case measure => simp [intOf]; omega
        · have hd3 : decide ((j : Int) < (s.R.length : Int)) = false := by simp; omega
          go_wp2
          go_ret
          exact ⟨rfl, hbj⟩

theorem seg_form (e : Option Nat × Nat × Int) {w : World} (h1 : ∀ b, e.1 = some b → w.rowIs b 44 (e.2.1 * 9) (mkS e.2.2)) (h2 : e.1 = none → e.2.1 = 0) :
    ∃ ao, (seC e)[0]? = some (.slice ao e.2.1 e.2.1) ∧ (seC e)[1]? = some (.int .i64 e.2.2) ∧ (0 < e.2.1 → ∃ b, ao = some ⟨b, 0, none⟩ ∧ w.rowIs b 44 (e.2.1 * 9) (mkS e.2.2)) := by
  obtain ⟨eb, m, n⟩ := e
  cases eb with
  | none => exact ⟨none, rfl, rfl, fun h => by have := h2 rfl; simp at this h; omega⟩
  | some b => exact ⟨some ⟨b, 0, none⟩, rfl, rfl, fun _ => ⟨b, rfl, h1 b rfl⟩⟩

theorem byte_form (e : Option Nat × Nat × Int) {w : World} (h1 : ∀ b, e.1 = some b → w.rowIs b 5 e.2.1 (mkB e.2.2)) (h2 : e.1 = none → e.2.1 = 0) :
    ∃ ao, (seC e)[0]? = some (.slice ao e.2.1 e.2.1) ∧ (seC e)[1]? = some (.int .i64 e.2.2) ∧ (0 < e.2.1 → ∃ b, ao = some ⟨b, 0, none⟩ ∧ w.rowIs b 5 e.2.1 (mkB e.2.2)) := by
  obtain ⟨eb, m, n⟩ := e
  cases eb with
  | none => exact ⟨none, rfl, rfl, fun h => by have := h2 rfl; simp at this h; omega⟩
  | some b => exact ⟨some ⟨b, 0, none⟩, rfl, rfl, fun _ => ⟨b, rfl, h1 b rfl⟩⟩

set_option maxHeartbeats 1000000 in
theorem dry_any (h : Nat) (s : HS) (w : World) (H : HeldInv w h s) :
    Calls Try.prog 15 #[.pointer (some ⟨h, 2, none⟩)] w fun e w' => e = .returned (.bool true) ∧ Below w.heap.size w w' := by
  have HH := hide H
  have hlo := H.lo
  have hhi := H.hi
  obtain ⟨aS, cS, evS, hS⟩ := owns_form (fun e => rfl) H.oS
  have c5 : w.cell? ⟨h, 2 + 3, none⟩ = some (.slice aS s.S.length cS) := by rw [H.wd.cell (by omega), ← evS]; rfl
  obtain ⟨aB, cB, evB, hB⟩ := owns_form (fun e => rfl) H.oB
  have c8 : w.cell? ⟨h, 2 + 6, none⟩ = some (.slice aB s.B.length cB) := by rw [H.wd.cell (by omega), ← evB]; rfl
  have hhl := H.wd.lt
  have HP := hide hS
  have HPB := hide hB
  clear H evS hS evB hB
  have lS : (s.S.length : Int) ≤ 1099511627776 := by omega
  have lB : (s.B.length : Int) ≤ 1099511627776 := by omega
  go_enter Try.func15, Try.ntmps15
  go_wp2_with fail
  go_loopw [3] (fun t wr => ∃ i : Nat, i ≤ s.S.length ∧ t = .int .i64 i ∧ Below w.heap.size w wr) (fun t _ => s.S.length - (intOf t).toNat)
  case atStart => exact ⟨0, by omega, rfl, Below.refl _ _⟩
  case round =>
    obtain ⟨wo, rfl⟩ : ∃ wo, wo = wr := ⟨wr, rfl⟩
    obtain ⟨i, hi, rfl, hb⟩ := hrel
    have hsz := hb.size
    have d5 := (hb.cell (p := ⟨h, 2 + 3, none⟩) hhl).trans c5
    have d8 := (hb.cell (p := ⟨h, 2 + 6, none⟩) hhl).trans c8
    by_cases hlt : i < s.S.length
    · obtain ⟨g, rfl, hgl, hg⟩ := HP.out (by omega)
      obtain ⟨x0, x1⟩ := hg i hlt
      obtain ⟨e, he⟩ : ∃ e, s.S[i] = e := ⟨_, rfl⟩
      have hmem : e ∈ s.S := by rw [← he]; exact List.getElem_mem hlt
      rw [he] at x0 x1
      have y0 := (hb.cell (p := ⟨g, i * 2, none⟩) hgl).trans x0
      have y1 := (hb.cell (p := ⟨g, i * 2 + 1, none⟩) hgl).trans x1
      obtain ⟨n0, n1, n2⟩ : 0 ≤ e.2.2 ∧ e.2.2 ≤ 1099511627776 ∧ (e.2.1 : Int) ≤ 9223372036854775807 := HH.out.mS _ hmem
      obtain ⟨ao, s0, s1, hrow⟩ := seg_form e (HH.out.eS e hmem) (HH.out.eN e hmem)
      rw [s0] at y0
      rw [s1] at y1
      obtain ⟨eb, m, n⟩ := e
      simp only at y0 y1 hrow n0 n1 n2
      have HR := hide hrow
      clear hg x0 x1 he hmem hrow s0 s1
      have hd1 : decide ((i : Int) < (s.S.length : Int)) = true := by simp; omega
      go_wp2_with fail
      go_loopw [5] (fun t wr => ∃ k : Nat, k ≤ m ∧ t = .int .i64 k ∧ wo.heap.size < wr.heap.size ∧ Below w.heap.size w wr ∧ wr.cell? ⟨wo.heap.size, 0, none⟩ = some (.slice ao m m) ∧ wr.cell? ⟨wo.heap.size, 1, none⟩ = some (.int .i64 n)) (fun t _ => m - (intOf t).toNat)
      case atStart =>
        refine ⟨0, by omega, rfl, by simp, by (repeat (any_goals (first | exact Below.refl _ _ | assumption | refine Below.drew ?_ | refine below_drewN ?_ _ | refine Below.setCell ?_ ?_ _ | refine Below.alloc ?_ ?_ _ | omega | (simp; done) | (simp; omega)))), ?_, ?_⟩
        all_goals go_simp
      case round =>
        obtain ⟨k, hk, rfl, hszr, hbr, b0, b1⟩ := hrel
        by_cases hkm : k < m
        · obtain ⟨b, rfl, hrow⟩ := HR.out (by omega)
          obtain ⟨q0, q1, q2, q3, q4, q5, q6, q7, q8⟩ := mkS_row (row_below hrow hbr hrow.lt) k hkm
          have hbw : b < wr.heap.size := (row_below hrow hbr hrow.lt).lt
          clear hrow
          have hd2 : decide ((k : Int) < (m : Int)) = true := by simp; omega
          have g0 : (0 : Int) ≤ (k : Int) := by omega
          have g1 : (k : Int) < (m : Int) := by omega
          go_wp2_with fail
          go_region_held3 (fun w' => w'.cell? ⟨wo.heap.size, 0, none⟩ = some (.slice (some ⟨b, 0, none⟩) m m) ∧ w'.cell? ⟨wo.heap.size, 1, none⟩ = some (.int .i64 n) ∧ w'.cell? ⟨b, k * 9, none⟩ = some (.int .i64 9) ∧ w'.cell? ⟨b, k * 9 + 1, none⟩ = some (.int .i64 (2199023255552 + n)) ∧ w'.cell? ⟨b, k * 9 + 2, none⟩ = some (.int .i64 (-7)) ∧ w'.cell? ⟨b, k * 9 + 3, none⟩ = some (.int .i64 (2199023255552 + n)) ∧ w'.cell? ⟨b, k * 9 + 4, none⟩ = some (.int .i64 (-7)) ∧ w'.cell? ⟨b, k * 9 + 5, none⟩ = some (.int .i64 (2199023255552 + n)) ∧ w'.cell? ⟨b, k * 9 + 6, none⟩ = some (.int .i64 (-7)) ∧ w'.cell? ⟨b, k * 9 + 7, none⟩ = some (.int .i64 (2199023255552 + n)) ∧ w'.cell? ⟨b, k * 9 + 8, none⟩ = some (.int .i64 (-7))) (first | exact ⟨keep3 hszr b0, keep3 hszr b1, keep3 hbw q0, keep3 hbw q1, keep3 hbw q2, keep3 hbw q3, keep3 hbw q4, keep3 hbw q5, keep3 hbw q6, keep3 hbw q7, keep3 hbw q8⟩ | go_keep) ((go_at_call 54; refine (markSegment_exact _ _ n0 n1).mono ?_; rintro e w' ⟨rfl, rfl⟩))
          go_wp2
          go_roundw
          case rel =>
            refine ⟨k + 1, by omega, by go_num, by simp; omega, by (repeat (any_goals (first | exact Below.refl _ _ | assumption | refine Below.drew ?_ | refine below_drewN ?_ _ | refine Below.setCell ?_ ?_ _ | refine Below.alloc ?_ ?_ _ | omega | (simp; done) | (simp; omega)))), ?_, ?_⟩
            all_goals go_simp
          case measure => simp [intOf]; omega
        · go_wp2
          go_roundw
          case rel => exact ⟨i + 1, by omega, by go_num, hbr⟩
          case measure => simp [intOf]; omega
    · have hd0 : decide ((i : Int) < (s.S.length : Int)) = false := by simp; omega
      go_wp2_with fail
      go_loopw [6] (fun t wr => ∃ j : Nat, j ≤ s.B.length ∧ t = .int .i64 j ∧ Below w.heap.size w wr) (fun t _ => s.B.length - (intOf t).toNat)
      case atStart => exact ⟨0, by omega, rfl, hb⟩
      case round =>
        obtain ⟨wp, rfl⟩ : ∃ wp, wp = wr := ⟨wr, rfl⟩
        obtain ⟨j, hj, rfl, hbj⟩ := hrel
        have hszj := hbj.size
        have d8j := (hbj.cell (p := ⟨h, 2 + 6, none⟩) hhl).trans c8
        by_cases hltj : j < s.B.length
        · obtain ⟨g, rfl, hgl, hg⟩ := HPB.out (by omega)
          obtain ⟨x0, x1⟩ := hg j hltj
          obtain ⟨e, he⟩ : ∃ e, s.B[j] = e := ⟨_, rfl⟩
          have hmem : e ∈ s.B := by rw [← he]; exact List.getElem_mem hltj
          rw [he] at x0 x1
          have y0 := (hbj.cell (p := ⟨g, j * 2, none⟩) hgl).trans x0
          have y1 := (hbj.cell (p := ⟨g, j * 2 + 1, none⟩) hgl).trans x1
          obtain ⟨n0, n1, n2⟩ : 0 ≤ e.2.2 ∧ e.2.2 ≤ 1099511627776 ∧ (e.2.1 : Int) ≤ 9223372036854775807 := HH.out.mB _ hmem
          obtain ⟨ao, s0, s1, hrow⟩ := byte_form e (HH.out.eB e hmem) (HH.out.eV e hmem)
          rw [s0] at y0
          rw [s1] at y1
          obtain ⟨eb, m, n⟩ := e
          simp only at y0 y1 hrow n0 n1 n2
          have HR := hide hrow
          clear hg x0 x1 he hmem hrow s0 s1
          have hd1 : decide ((j : Int) < (s.B.length : Int)) = true := by simp; omega
          go_wp2_with fail
          go_loopw [8] (fun t wr => ∃ k : Nat, k ≤ m ∧ t = .int .i64 k ∧ wp.heap.size < wr.heap.size ∧ Below w.heap.size w wr ∧ wr.cell? ⟨wp.heap.size, 0, none⟩ = some (.slice ao m m) ∧ wr.cell? ⟨wp.heap.size, 1, none⟩ = some (.int .i64 n)) (fun t _ => m - (intOf t).toNat)
          case atStart =>
            refine ⟨0, by omega, rfl, by simp, by (repeat (any_goals (first | exact Below.refl _ _ | assumption | refine Below.drew ?_ | refine below_drewN ?_ _ | refine Below.setCell ?_ ?_ _ | refine Below.alloc ?_ ?_ _ | omega | (simp; done) | (simp; omega)))), ?_, ?_⟩
            all_goals go_simp
          case round =>
            obtain ⟨k, hk, rfl, hszr, hbr, b0, b1⟩ := hrel
            by_cases hkm : k < m
            · obtain ⟨b, rfl, hrow⟩ := HR.out (by omega)
              have q0 := (row_below hrow hbr hrow.lt).cell (i := k) hkm
              clear hrow
              have hd2 : decide ((k : Int) < (m : Int)) = true := by simp; omega
              have g0 : (0 : Int) ≤ (k : Int) := by omega
              have g1 : (k : Int) < (m : Int) := by omega
              obtain ⟨MB, hMB⟩ : ∃ MB, mkB n k = .int .u8 MB := ⟨_, rfl⟩
              rw [hMB] at q0
              go_wp2_with fail
              go_region_held3 (fun w' => w'.cell? ⟨wp.heap.size, 0, none⟩ = some (.slice (some ⟨b, 0, none⟩) m m) ∧ w'.cell? ⟨wp.heap.size, 1, none⟩ = some (.int .i64 n) ∧ w'.cell? ⟨b, k, none⟩ = some (.int .u8 MB)) (go_keep) ((go_at_call 55; refine (markByte_any _ _ _ n0 n1).mono ?_; rintro e w' ⟨rfl, rfl⟩; rw [hMB]))
              go_wp2
              go_roundw
              case rel =>
                refine ⟨k + 1, by omega, by go_num, by simp; omega, by (repeat (any_goals (first | exact Below.refl _ _ | assumption | refine Below.drew ?_ | refine below_drewN ?_ _ | refine Below.setCell ?_ ?_ _ | refine Below.alloc ?_ ?_ _ | omega | (simp; done) | (simp; omega)))), ?_, ?_⟩
                all_goals go_simp
              case measure => simp [intOf]; omega
            · go_wp2
              go_roundw
              case rel => exact ⟨j + 1, by omega, by go_num, hbr⟩
              case measure => simp [intOf]; omega
        · have hd3 : decide ((j : Int) < (s.B.length : Int)) = false := by simp; omega
          go_wp2_with fail
          have H1 := hide (HH.out.below hbj)
          refine (points_any h s _ H1.out).mono ?_
          rintro e w1 ⟨rfl, hb1⟩
          have hb2 : Below w.heap.size w w1 := hbj.trans (hb1.mono hszj)
          have H2 := hide (H1.out.below hb1)
          clear hb1
          go_wp2_with fail
          refine (heldPlaces_any h s _ H2.out).mono ?_
          rintro e w2 ⟨rfl, hb3⟩
          have hs2 := hb2.size
          have hb4 : Below w.heap.size w w2 := hb2.trans (hb3.mono hs2)
          clear hb3
          go_wp2
          go_ret
          exact ⟨rfl, hb4⟩
end Go.Proofs.Ytkhcjkmifddlbaa

/- Start -/
namespace Go.Proofs.Ytkhcjkmifddlbaa
open Go.RowKit Go.Deep

def hs0 : HS := ⟨0, .slice none 0 0, .slice none 0 0, .slice none 0 0, .slice none 0 0, .slice none 0 0, .slice none 0 0, .slice none 0 0, .slice none 0 0, [], [], [], [], [], []⟩
theorem held_start (w : World) : HeldInv (w.alloc (.cells #[.slice none 0 0, .slice none 0 0, .int .i64 0, .slice none 0 0, .slice none 0 0, .slice none 0 0, .slice none 0 0, .slice none 0 0, .slice none 0 0] 35)) w.heap.size hs0 := by
  refine { wd := ?wd, oP := World.ownsRow_nil _ _ _ _, oO := World.ownsRow_nil _ _ _ _, oS := World.ownsRow_nil _ _ _ _, oT := World.ownsRow_nil _ _ _ _, oR := World.ownsRow_nil _ _ _ _, eP := (fun e h => by cases h), eO := (fun e h => by cases h), eI := (fun e h => by cases h), eS := (fun e h => by cases h), eN := (fun e h => by cases h), eT := (fun e h => by cases h), eU := (fun e h => by cases h), eR := (fun e h => by cases h), eJ := (fun e h => by cases h), eM := (fun e h => by cases h), lo := by simp [hs0], hi := by simp [hs0], mP := (fun e h => by cases h), mO := (fun e h => by cases h), mS := (fun e h => by cases h), mT := (fun e h => by cases h), mR := (fun e h => by cases h), oB := World.ownsRow_nil _ _ _ _, eB := (fun e h => by cases h), eV := (fun e h => by cases h), mB := (fun e h => by cases h) }
  case wd =>
    refine World.rowIs_alloc w _ _ (wc hs0) (fun q hq => ?_)
    have hq : q < 9 := hq
    rcases (show q = 0 ∨ q = 1 ∨ q = 2 ∨ q = 3 ∨ q = 4 ∨ q = 5 ∨ q = 6 ∨ q = 7 ∨ q = 8 by omega) with rfl | rfl | rfl | rfl | rfl | rfl | rfl | rfl | rfl <;> rfl
end Go.Proofs.Ytkhcjkmifddlbaa

/- TrcW -/
namespace Go.Proofs.Ytkhcjkmifddlbaa
open Go.RowKit Go.Deep

theorem traceN_le (N : Nat) (n : Nat → Nat) (X Y K : Nat → Nat → Int) (m : Num.Mp) : traceN N n X Y K m ≤ 16 ∧ ∀ i, i < traceN N n X Y K m → (traceL n X Y K m i).length ≤ 4294967296 := by
  unfold traceN
  split
  · rename_i h
    have h0 : (Num.chkV N n X Y K).1 = 0 := by
      unfold traceE at h
      split at h
      · assumption
      · exact h
    rcases Num.chk_cases N n X Y K with ⟨_, hm, _, _⟩ | h1
    · obtain ⟨m1, _, m3⟩ := ok_many hm
      refine ⟨m1, fun i hi => ?_⟩
      have h2 := Num.ringSp_le m (ringL n X Y K i)
      have h3 := refRing_len (X i) (Y i) (K i) (n i)
      have h4 := m3 i hi
      unfold ringL at h2
      unfold traceL ringL
      omega
    · exact absurd h0 h1
  · exact ⟨by omega, fun i hi => by omega⟩

/-- A list of another type does not lie where outline writes. -/
theorem ty_not_outS {w : World} {base h ob N : Nat} {B nn : Nat → Nat} {X Y K : Nat → Nat → Int} {s : HS} {t : TypeId} (H : HeldInv w h s) (L : Lent w base ob N B nn X Y K) {b : Nat} (ty : tyOf w b = some t)
    (t1 : t ≠ 35) (t2 : t ≠ 62) (t3 : t ≠ 133) (t4 : t ≠ 158) (t5 : t ≠ 160) : ¬ outS h ob (N + 2) B s b := by
  rintro (rfl | rfl | ⟨i, hi, rfl⟩ | h1 | h1)
  · rw [row_ty H.wd] at ty; simp at ty; exact t1 ty.symm
  · rw [row_ty L.outer] at ty; simp at ty; exact t2 ty.symm
  · rw [row_ty (L.inner i hi)] at ty; simp at ty; exact t3 ty.symm
  · rw [owns_ty H.oP h1] at ty; simp at ty; exact t4 ty.symm
  · rw [owns_ty H.oO h1] at ty; simp at ty; exact t5 ty.symm

set_option maxRecDepth 100000 in
set_option maxHeartbeats 2000000 in
theorem traces_any (ad : Option Addr) (N cc h : Nat) (A : Nat → Option Addr) (C n : Nat → Nat) (X Y K : Nat → Nat → Int) (a b c d x y : Int) (s : HS) (w0 w : World) (hN : N ≤ 2097152) (hn : ∀ i, i < N → n i ≤ 2097152) (hS : Num.sumN n N ≤ 1099511627776)
    (ho : OutAt w0 ad N A C n X Y K) (hb0 : Below w0.heap.size w0 w) (hh : w0.heap.size ≤ h) (H : HeldInv w h s) (hs : s.n + N + 24 ≤ 1099511627776) :
    Calls Try.prog 18 #[.pointer (some ⟨h, 0, none⟩), .slice ad N cc, .agg #[.int .i64 a, .int .i64 b, .int .i64 c, .int .i64 d, .int .i64 x, .int .i64 y]] w fun e w' => e = .returned (.bool true) ∧ Below w0.heap.size w w' ∧ ∃ s', HeldInv w' h s' ∧ s'.n ≤ s.n + N + 24 ∧ s'.cs = s.cs ∧ s'.rs = s.rs := by
  have hn1 : ∀ i, i < N → n i ≤ 4294967295 := fun i hi => by have := hn i hi; omega
  have hn2 : ∀ i, i < N → n i ≤ 4294967296 := fun i hi => by have := hn i hi; omega
  have hsz0 := hb0.size
  have hhw := H.wd.lt
  have HN1 := hide hn1
  have HN2 := hide hn2
  obtain ⟨W0, hW0⟩ : ∃ W0, W0 = w.alloc (.cells #[.int .i64 a, .int .i64 b, .int .i64 c, .int .i64 d, .int .i64 x, .int .i64 y] 39) := ⟨_, rfl⟩
  have hbW : Below w.heap.size w W0 := by rw [hW0]; exact (Below.refl _ _).alloc (Nat.le_refl _) _
  have hMr : W0.rowIs w.heap.size 39 6 (mp6 a b c d x y) := by rw [hW0]; exact mp6_row a b c d x y w 39
  have hsW := hMr.lt
  have HH := hide (H.below hbW)
  have HUR := hide H.underR
  have HO := hide ((ho.below hb0).below hbW)
  have HBW := hide hbW
  have HMr := hide hMr
  have HW0 := hide hW0
  have hTN := traceN_le N n X Y K ⟨a, b, c, d, x, y⟩
  clear H hn1 hn2 ho hn hb0 hbW hMr hW0
  obtain ⟨TE, hTE⟩ : ∃ TE, TE = traceE N n X Y K ⟨a, b, c, d, x, y⟩ := ⟨_, rfl⟩
  obtain ⟨TN, hTNe⟩ : ∃ TN, TN = traceN N n X Y K ⟨a, b, c, d, x, y⟩ := ⟨_, rfl⟩
  obtain ⟨TL, hTL⟩ : ∃ TL, TL = traceL n X Y K ⟨a, b, c, d, x, y⟩ := ⟨_, rfl⟩
  rw [← hTNe, ← hTL] at hTN
  have HTE := hide hTE
  have HTN := hide hTNe
  have HTL := hide hTL
  have HTle := hide hTN.2
  have hT16 := hTN.1
  clear hTE hTNe hTL hTN
  go_enter Try.func18, Try.ntmps18
  go_wp2_with fail
  rw [← HW0.out]
  refine (lend_any _ _ _ A C n X Y K _ (by omega) HN1.out HO.out).mono ?_
  rintro e w1 ⟨rfl, hb1, B, hL⟩
  have HL := hide hL
  have HB1 := hide hb1
  have hs1 := hb1.size
  have HM1 := hide (row_below HMr.out hb1 hsW)
  obtain ⟨d0, d1, d2, d3, d4, d5⟩ := mp6_cells HM1.out
  have hM1l := HM1.out.lt
  clear hL hb1
  go_wp2_with fail
  refine (glyphTrace_any _ _ _ _ _ n X Y K _ _ _ _ _ _ _ (by omega) HN2.out HL.out.out).mono ?_
  rw [← HTE.out, ← HTN.out, ← HTL.out]
  rintro e w2 ⟨l, V, rfl, hb2, hSl⟩
  have HB2 := hide (HB1.out.trans (hb2.mono hs1))
  have HL2 := hide (HL.out.below hb2)
  have HS2 := hide hSl
  have hs2 := hb2.size
  have HM2 := hide (row_below HM1.out hb2 hM1l)
  clear hb2 hSl d0 d1 d2 d3 d4 d5
  obtain ⟨d0, d1, d2, d3, d4, d5⟩ := mp6_cells HM2.out
  have hM2l := HM2.out.lt
  go_wp2_with fail
  refine (refTrace_any _ _ _ A C n X Y K _ _ _ _ _ _ _ (by omega) HN2.out hS (HO.out.below HB2.out)).mono ?_
  rw [← HTE.out, ← HTN.out, ← HTL.out]
  rintro e w3 ⟨r, V', rfl, hb3, hSr⟩
  have HB3 := hide (HB2.out.trans (hb3.mono (by omega)))
  have HL3 := hide (HL2.out.below hb3)
  have HS3 := hide (HS2.out.below hb3)
  have HR3 := hide hSr
  have hs3 := hb3.size
  clear hb3 hSr d0 d1 d2 d3 d4 d5
  go_wp2_with fail
  refine (lent_any _ _ _ _ _ A C n B X Y K _ (by omega) HN1.out HL3.out (HO.out.below HB3.out)).mono ?_
  rintro e w4 ⟨rfl, hb4⟩
  have HB4 := hide (HB3.out.trans (hb4.mono (by omega)))
  have HL4 := hide (HL3.out.below hb4)
  have HS4 := hide (HS3.out.below hb4)
  have HR4 := hide (HR3.out.below hb4)
  have hs4 := hb4.size
  clear hb4
  go_wp2_with fail
  refine (sameRings_any l r _ _ TN V V' TL _ (by omega) HTle.out HS4.out HR4.out).mono ?_
  rintro e w5 ⟨rfl, hb5, hhp⟩
  have HB5 := hide (HB4.out.trans (hb5.mono (by omega)))
  have HL5 := hide (HL4.out.below hb5)
  have HS5 := hide (HS4.out.below hb5)
  have hs5 := hb5.size
  clear hb5 hhp
  have H5 := hide (HH.out.below HB5.out)
  go_wp2_with fail
  refine (outline_any W0.heap.size h W0.heap.size N (N + 2) B _ _ s _ (by omega) H5.out (HL5.out.lists HH.out.under (by omega) HN1.out) (by omega) (by omega)).mono ?_
  rintro e w6 ⟨rfl, hT6, s1, hI6, hn6, hcs, hrs, _, _, hT6e, _, hR6e, _⟩
  have hS6 : SpRings w6 w1.heap.size l TN V TL := HS5.out.of_blocks
    (fun q hq => hT6.block q (HS5.out.outer.lt q hq).2 (ty_not_outS H5.out HL5.out (owns_ty HS5.out.outer hq) (by decide) (by decide) (by decide) (by decide) (by decide)))
    (fun i hi q hq => hT6.block q ((HS5.out.inner i hi).lt q hq).2 (ty_not_outS H5.out HL5.out (owns_ty (HS5.out.inner i hi) hq) (by decide) (by decide) (by decide) (by decide) (by decide)))
  have hU6 : s1.UnderR w1.heap.size := by
    refine ⟨fun e he q hq => ?_, fun e he => ⟨fun q hq => ?_, fun i hi => ?_⟩⟩
    · rw [hT6e] at he; have := HUR.out.1 e he q hq; omega
    · rw [hR6e] at he; have := (HUR.out.2 e he).1 q hq; omega
    · rw [hR6e] at he; have := (HUR.out.2 e he).2 i hi; omega
  have HS6 := hide hS6
  have HU6 := hide hU6
  have HT6 := hide hT6
  have HI6 := hide hI6
  have hN6 := hide (And.intro hn6 (And.intro hcs hrs))
  have hsn : s1.n + TN + 1 ≤ 1099511627776 := by rw [hn6]; omega
  clear hT6 hI6 hn6 hcs hrs hT6e hR6e hS6 hU6
  go_wp2_with fail
  refine (heldRings_any h TN w1.heap.size l V TL s1 _ (by omega) HI6.out HS6.out HU6.out hsn).mono ?_
  rintro e w7 ⟨rfl, hT7, s2, hI7, hn7, hcs7, hrs7⟩
  have HT7 := hide hT7
  have HI7 := hide (And.intro hI7 (And.intro hn7 (And.intro hcs7 hrs7)))
  clear hT7 hI7 hn7 hcs7 hrs7
  go_wp2_with (go_at_call 49; refine (num_any _ _).mono ?_; rintro e w' ⟨rfl, rfl⟩)
  go_ret
  obtain ⟨hI7, hn7, hcs7, hrs7⟩ := HI7.out
  obtain ⟨hn6, hcs6, hrs6⟩ := hN6.out
  have hs6 := HT6.out.size
  refine ⟨rfl, ?_, s2, hI7, ?_, hcs7.trans hcs6, hrs7.trans hrs6⟩
  · have t6 := HT6.out.below (B := w0.heap.size) (by omega) (fun q hq => outS_ge H5.out hh (by omega) (fun i hi => by have := HL5.out.geB i hi; omega) hq)
    have t7 := HT7.out.below (B := w0.heap.size) (by omega) (fun q hq => by
      rcases hq with rfl | hq | hq | hq | ⟨i, hi, hq⟩
      · exact hh
      · have := (HI6.out.oT.lt q hq).1; omega
      · have := (HI6.out.oR.lt q hq).1; omega
      · have := (HS6.out.outer.lt q hq).1; omega
      · have := ((HS6.out.inner i hi).lt q hq).1; omega)
    exact (((HBW.out.trans (HB5.out.mono (by omega))).mono hsz0).trans t6).trans t7
  · rw [hn7, hn6]; omega

set_option maxRecDepth 100000 in
set_option maxHeartbeats 1000000 in
theorem traced_any (ad : Option Addr) (N cc : Nat) (A : Nat → Option Addr) (C n : Nat → Nat) (X Y K : Nat → Nat → Int) (a b c d x y : Int) (w : World) (hN : N ≤ 2097152) (hn : ∀ i, i < N → n i ≤ 2097152) (hS : Num.sumN n N ≤ 1099511627776) (ho : OutAt w ad N A C n X Y K) :
    Calls Try.prog 6 #[.slice ad N cc, .agg #[.int .i64 a, .int .i64 b, .int .i64 c, .int .i64 d, .int .i64 x, .int .i64 y]] w fun e w' => e = .returned (.bool true) ∧ Below w.heap.size w w' := by
  have HN := hide hn
  have HO := hide (ho.below ((Below.refl w.heap.size w).alloc (Nat.le_refl _) (.cells #[.int .i64 a, .int .i64 b, .int .i64 c, .int .i64 d, .int .i64 x, .int .i64 y] 39)))
  have HMr := hide (mp6_row a b c d x y w 39)
  have H0 := hide (held_start (w.alloc (.cells #[.int .i64 a, .int .i64 b, .int .i64 c, .int .i64 d, .int .i64 x, .int .i64 y] 39)))
  rw [nblk_alloc] at H0
  clear hn ho
  go_enter Try.func6, Try.ntmps6
  go_wp2_with fail
  refine (traces_any ad N cc (w.heap.size + 1) A C n X Y K _ _ _ _ _ _ hs0 (w.alloc (.cells #[.int .i64 a, .int .i64 b, .int .i64 c, .int .i64 d, .int .i64 x, .int .i64 y] 39)) _ hN HN.out hS HO.out ((Below.refl _ _).alloc (Nat.le_refl _) _) (by rw [nblk_alloc]; exact Nat.le_refl _) H0.out (by simp [hs0]; omega)).mono ?_
  rintro e w1 ⟨rfl, hb1, s1, hI1, hn1, _, _⟩
  rw [nblk_alloc] at hb1
  have hs1 : w.heap.size + 1 < w1.heap.size := hI1.wd.lt
  have HB1 : Hid (Below w.heap.size w w1) := Below.trans (by (repeat (any_goals (first | exact Below.refl _ _ | assumption | refine Below.drew ?_ | refine below_drewN ?_ _ | refine Below.setCell ?_ ?_ _ | refine Below.alloc ?_ ?_ _ | omega | (simp; done) | (simp; omega))))) (hb1.mono (Nat.le_succ _))
  have HI1 := hide hI1
  have HN1 : Hid (s1.n ≤ N + 24) := by unfold Hid; have : hs0.n = 0 := rfl; omega
  have hMr1 : w1.rowIs w.heap.size 39 6 (mp6 a b c d x y) := row_below (HMr.out.alloc _) hb1 (Nat.lt_succ_self _)
  obtain ⟨d0, d1, d2, d3, d4, d5⟩ := mp6_cells hMr1
  have hM1 := hMr1.lt
  have HBm : Hid (Below (w.heap.size + 1) (w.alloc (.cells #[.int .i64 a, .int .i64 b, .int .i64 c, .int .i64 d, .int .i64 x, .int .i64 y] 39)) w1) := ((Below.refl _ _).alloc (by rw [nblk_alloc]; exact Nat.le_refl _) _).trans hb1
  clear hb1 hI1 hn1 hMr1
  go_wp2_with fail
  refine (traces_any ad N cc (w.heap.size + 1) A C n X Y K _ _ _ _ _ _ s1 (w.alloc (.cells #[.int .i64 a, .int .i64 b, .int .i64 c, .int .i64 d, .int .i64 x, .int .i64 y] 39)) _ hN HN.out hS HO.out (by rw [nblk_alloc]; exact HBm.out) (by rw [nblk_alloc]; exact Nat.le_refl _) HI1.out (by have := HN1.out; omega)).mono ?_
  rintro e w2 ⟨rfl, hb2, s2, hI2, hn2, _, _⟩
  rw [nblk_alloc] at hb2
  have HB2 := hide (HB1.out.trans (hb2.mono (Nat.le_succ _)))
  have HI2 := hide hI2
  clear hb2 hI2 hn2 d0 d1 d2 d3 d4 d5
  go_wp2_with fail
  refine (dry_any (w.heap.size + 1) s2 _ HI2.out).mono ?_
  rintro e w3 ⟨rfl, hb3⟩
  have hs2 := HB2.out.size
  have HB3 := hide (HB2.out.trans (hb3.mono hs2))
  clear hb3
  go_wp2
  go_ret
  exact ⟨rfl, HB3.out⟩
end Go.Proofs.Ytkhcjkmifddlbaa

/- Read -/
namespace Go.Proofs.Ytkhcjkmifddlbaa
open Go.RowKit

section
variable {H : Type} {enc : TypeId × Value → H} {P : Program} {w : World} {base : Nat} {spare : Nat → Bool} {held : Bool}

/-- A struct whose fields are all ints of one cell each, in their order. -/
theorem struct_ints {t ti : TypeId} {fs : Array Field} {fuel : Nat} {cs : List Value} {x : DataW H × List MemPlace}
    (ht : P.underlying t = some (.struct fs)) (hi : P.underlying ti = some (.int .i64)) (h1 : P.cellsOf ti = 1) (hC : P.cellsOf t = fs.size)
    (hfs : ∀ i, i < fs.size → ∃ f, fs[i]? = some f ∧ f.type = ti ∧ f.offset = i)
    (h : DataW.trod enc P w base spare held fuel t cs = some x) :
    ∃ zs : List Int, cs = zs.map (Value.int .i64) ∧ zs.length = fs.size ∧ x = (.agg (zs.map fun z => .lit (.int .i64 z)), []) ∧ ∀ z ∈ zs, (Lit.int .i64 z).wf = true := by
  obtain ⟨xs, n, _, rfl, hl, hlen, hf⟩ := DataW.trod_struct ht h
  have key : ∀ i, i < fs.size → ∃ z : Int, cs[i]? = some (.int .i64 z) ∧ xs[i]? = some (.lit (.int .i64 z), []) ∧ (Lit.int .i64 z).wf = true := by
    intro i hlt
    obtain ⟨f, hfi, hft, hfo⟩ := hfs i hlt
    have e := hf i f hfi
    rw [hft, hfo, h1] at e
    have hx : ∃ y, xs[i]? = some y := ⟨xs[i], List.getElem?_eq_getElem (by omega)⟩
    obtain ⟨y, hy⟩ := hx
    rw [hy] at e
    obtain ⟨z, hc, hz, hw⟩ := DataW.trod_int hi e
    refine ⟨z, ?_, by rw [hy, hz], hw⟩
    have := congrArg (fun l => l[0]?) hc
    simpa [List.getElem?_take, List.getElem?_drop] using this
  refine ⟨cs.map intOf, ?_, by simp; omega, ?_, ?_⟩
  · apply List.ext_getElem?
    intro i
    by_cases hlt : i < fs.size
    · obtain ⟨z, hc, _, _⟩ := key i hlt
      simp [hc, intOf]
    · rw [List.getElem?_eq_none (by omega), List.getElem?_eq_none (by simp; omega)]
  · have e1 : xs.map (·.1) = (cs.map intOf).map fun z => DataW.lit (.int .i64 z) := by
      apply List.ext_getElem?
      intro i
      by_cases hlt : i < fs.size
      · obtain ⟨z, hc, hx, _⟩ := key i hlt
        simp [hc, hx, intOf]
      · rw [List.getElem?_eq_none (by simp; omega), List.getElem?_eq_none (by simp; omega)]
    have e2 : xs.flatMap (·.2) = [] := by
      rw [List.flatMap_eq_nil_iff]
      intro y hy
      obtain ⟨i, hi', rfl⟩ := List.mem_iff_getElem.1 hy
      obtain ⟨z, _, hx, _⟩ := key i (by omega)
      rw [List.getElem?_eq_getElem hi'] at hx
      simp at hx
      rw [hx]
    rw [e1, e2]
  · intro z hz
    obtain ⟨i, hi', rfl⟩ := List.mem_iff_getElem.1 hz
    simp at hi'
    obtain ⟨z', hc, _, hw⟩ := key i (by omega)
    have : cs[i] = .int .i64 z' := by
      rw [List.getElem?_eq_getElem hi'] at hc
      simpa using hc
    simp [this, intOf]
    exact hw
end

theorem list2 {α : Type} {l : List α} (h : l.length = 2) : ∃ a b, l = [a, b] := by
  match l, h with
  | [a, b], _ => exact ⟨a, b, rfl⟩
theorem list3 {α : Type} {l : List α} (h : l.length = 3) : ∃ a b c, l = [a, b, c] := by
  match l, h with
  | [a, b, c], _ => exact ⟨a, b, c, rfl⟩
theorem list6 {α : Type} {l : List α} (h : l.length = 6) : ∃ a b c d e f, l = [a, b, c, d, e, f] := by
  match l, h with
  | [a, b, c, d, e, f], _ => exact ⟨a, b, c, d, e, f, rfl⟩

end Go.Proofs.Ytkhcjkmifddlbaa

/- Open -/
namespace Go.Proofs.Ytkhcjkmifddlbaa
open Go.ChangeShapes Go.WideShapes Go.ChangeAt Go.RowKit Go.Deep

theorem cells_i : Try.prog.cellsOf 3 = 1 := by kernel_rfl
theorem cells_p : Try.prog.cellsOf 133 = 3 := by kernel_rfl
theorem cells_s : Try.prog.cellsOf 62 = 1 := by kernel_rfl

theorem addr_form {w : World} {a : Addr} {v : Value} (h : w.cell? (a.add 0) = some v) : a = ⟨a.block, a.off, none⟩ := by
  have hs := World.cell?_spot h
  obtain ⟨b, off, spot⟩ := a
  simp [Addr.add] at hs
  rw [hs]
theorem addr_add (b off i : Nat) : ((⟨b, off, none⟩ : Addr).add i) = ⟨b, off + i, none⟩ := by
  unfold Addr.add
  split
  · rename_i h; simp_all
  · simp

section
variable {H : Type} {enc : TypeId × Value → H} {w : World} {spare : Nat → Bool} {held : Bool}

set_option maxRecDepth 100000 in
theorem open_pt {fuel : Nat} {cs : List Value} {x : DataW H × List MemPlace} (h : DataW.trod enc Try.prog w 0 spare held fuel 133 cs = some x) : ∃ a b c : Int, cs = [.int .i64 a, .int .i64 b, .int .i64 c] := by
  obtain ⟨zs, hz, hl, _, _⟩ := struct_ints Try.underlying133 Try.underlying3 cells_i cells_p (by
    intro i hi
    have hi : i < 3 := hi
    rcases (show i = 0 ∨ i = 1 ∨ i = 2 by omega) with rfl | rfl | rfl <;> exact ⟨_, rfl, rfl, rfl⟩) h
  obtain ⟨a, b, c, rfl⟩ := list3 hl
  exact ⟨a, b, c, by simpa using hz⟩

/-- A ring as it is read. -/
def RingRead (w : World) (v : Value) (d : DataW H) (r : Option Addr × Nat × Nat × (Nat → Int) × (Nat → Int) × (Nat → Int)) : Prop :=
  v = .slice r.1 r.2.1 r.2.2.1 ∧ RingAt w r.1 r.2.1 r.2.2.2.1 r.2.2.2.2.1 r.2.2.2.2.2 ∧ r.2.1 + 1 ≤ Rows.uptoBulk d

theorem bulk_len (l : List (DataW H)) : l.length ≤ Rows.uptoBulkAll l := by
  induction l with
  | nil => simp [Rows.uptoBulkAll]
  | cons x r ih =>
    have : 1 ≤ Rows.uptoBulk x := by
      cases x with
      | lit l => cases l <;> simp [Rows.uptoBulk]
      | nil => simp [Rows.uptoBulk]
      | ptr d => simp [Rows.uptoBulk]
      | slice elems spare => simp [Rows.uptoBulk]
      | agg parts => simp [Rows.uptoBulk]
      | iface t d => simp [Rows.uptoBulk]
      | map entries => simp [Rows.uptoBulk]
      | held h => simp [Rows.uptoBulk]
    simp only [Rows.uptoBulkAll, List.length_cons]; omega

set_option maxRecDepth 100000 in
theorem open_ring {fuel : Nat} {v : Value} {x : DataW H × List MemPlace} (h : DataW.trod enc Try.prog w 0 spare held fuel 62 [v] = some x) : ∃ r, RingRead w v x.1 r := by
  rcases open_slice Try.underlying62 h with ⟨hcs, rfl⟩ | ⟨a, len, cap, m, n, D, Pl, hcs, _, hl, hm, hmm, rfl, hx⟩
  · simp at hcs
    exact ⟨(none, 0, 0, fun _ => 0, fun _ => 0, fun _ => 0), hcs, .inl rfl, by simp [Rows.uptoBulk]⟩
  · simp at hcs
    rw [cells_p] at hx
    have hlm : len ≤ m := by rw [hmm]; split <;> omega
    have key : ∀ i, ∃ q : Int × Int × Int, i < len → w.cell? (a.add (i * 3)) = some (.int .i64 q.1) ∧ w.cell? ((a.add (i * 3)).add 1) = some (.int .i64 q.2.1) ∧ w.cell? ((a.add (i * 3)).add 2) = some (.int .i64 q.2.2) := by
      intro i
      by_cases hi : i < len
      · obtain ⟨cs', h1, h2⟩ := hx i (by omega)
        obtain ⟨p, q, r, rfl⟩ := open_pt h2
        obtain ⟨_, _, h3⟩ := World.cells?_some h1
        refine ⟨(p, q, r), fun _ => ⟨?_, ?_, ?_⟩⟩
        · have := h3 0 (by omega)
          simpa [Addr.add] using this
        · exact h3 1 (by omega)
        · exact h3 2 (by omega)
      · exact ⟨(0, 0, 0), fun h => absurd h hi⟩
    obtain ⟨f, hf⟩ := Classical.skolem.1 key
    refine ⟨(some a, len, cap, fun i => (f i).1, fun i => (f i).2.1, fun i => (f i).2.2), hcs, ?_, ?_⟩
    · rcases Nat.eq_zero_or_pos len with h0 | h0
      · exact .inl h0
      · have e := addr_form (by simpa using (hf 0 h0).1)
        refine .inr ⟨a.block, a.off, by rw [← e], fun k hk => ?_⟩
        obtain ⟨c0, c1, c2⟩ := hf k hk
        rw [e, addr_add] at c0
        rw [e, addr_add, addr_add] at c1 c2
        exact ⟨c0, c1, c2⟩
    · simp only [Rows.uptoBulk]
      have := bulk_len ((List.range len).map D)
      simp at this
      omega

set_option maxRecDepth 100000 in
theorem open_outline {fuel : Nat} {v : Value} {x : DataW H × List MemPlace} (h : DataW.trod enc Try.prog w 0 spare held fuel 22 [v] = some x) :
    ∃ (a : Option Addr) (N c : Nat) (A : Nat → Option Addr) (C n : Nat → Nat) (X Y K : Nat → Nat → Int), v = .slice a N c ∧ OutAt w a N A C n X Y K ∧ N ≤ Rows.uptoBulk x.1 ∧ (∀ i, i < N → n i ≤ Rows.uptoBulk x.1) ∧ Num.sumN n N ≤ Rows.uptoBulk x.1 := by
  rcases open_slice1 Try.underlying22 cells_s h with ⟨hcs, rfl⟩ | ⟨a, len, cap, m, n, V, D, Pl, hcs, _, hl, hm, hmm, rfl, hx⟩
  · simp at hcs
    exact ⟨none, 0, 0, fun _ => none, fun _ => 0, fun _ => 0, fun _ _ => 0, fun _ _ => 0, fun _ _ => 0, hcs, ⟨.inl rfl, fun i hi => by omega⟩, by omega, fun i hi => by omega, by simp [Num.sumN]⟩
  · simp at hcs
    have hlm : len ≤ m := by rw [hmm]; split <;> omega
    have key : ∀ i, ∃ r, i < len → RingRead w (V i) (D i) r := by
      intro i
      by_cases hi : i < len
      · obtain ⟨r, hr⟩ := open_ring (hx i (by omega)).2
        exact ⟨r, fun _ => hr⟩
      · exact ⟨(none, 0, 0, fun _ => 0, fun _ => 0, fun _ => 0), fun h => absurd h hi⟩
    obtain ⟨f, hf⟩ := Classical.skolem.1 key
    have hsum : ∀ k, k ≤ len → Num.sumN (fun i => (f i).2.1) k ≤ Rows.uptoBulkAll ((List.range k).map D) := by
      intro k
      induction k with
      | zero => intro _; simp [Num.sumN]
      | succ k ih =>
        intro hk
        have i1 := ih (by omega)
        have i2 := (hf k (by omega)).2.2
        have e : Rows.uptoBulkAll ((List.range (k + 1)).map D) = Rows.uptoBulkAll ((List.range k).map D) + Rows.uptoBulk (D k) := by
          rw [List.range_succ, List.map_append]
          have ap : ∀ (l r : List (DataW H)), Rows.uptoBulkAll (l ++ r) = Rows.uptoBulkAll l + Rows.uptoBulkAll r := by
            intro l r
            induction l with
            | nil => simp [Rows.uptoBulkAll]
            | cons x l ih => simp only [List.cons_append, Rows.uptoBulkAll, ih]; omega
          rw [ap]; simp [Rows.uptoBulkAll]
        rw [e]
        simp only [Num.sumN]
        omega
    have hN := bulk_len ((List.range len).map D)
    simp at hN
    have hS := hsum len (Nat.le_refl _)
    have hb : Rows.uptoBulkAll ((List.range len).map D) ≤ Rows.uptoBulk (.slice ((List.range len).map D) ((List.range (m - len)).map fun j => D (len + j))) := by
      simp only [Rows.uptoBulk]; omega
    refine ⟨some a, len, cap, fun i => (f i).1, fun i => (f i).2.2.1, fun i => (f i).2.1, fun i => (f i).2.2.2.1, fun i => (f i).2.2.2.2.1, fun i => (f i).2.2.2.2.2, hcs, ⟨?_, fun i hi => (hf i hi).2.1⟩, by dsimp only; omega, ?_, by dsimp only; omega⟩
    · rcases Nat.eq_zero_or_pos len with h0 | h0
      · exact .inl h0
      · have e := addr_form (hx 0 (by omega)).1
        refine .inr ⟨a.block, a.off, by rw [← e], fun i hi => ?_⟩
        have c := (hx i (by omega)).1
        rw [e, addr_add, (hf i hi).1] at c
        exact c
    · intro i hi
      have h1 := Num.sumN_mono (fun i => (f i).2.1) (show i + 1 ≤ len by omega)
      simp only [Num.sumN] at h1
      dsimp only
      omega
end
end Go.Proofs.Ytkhcjkmifddlbaa
