/- outline: the caller writes what was lent full of marks, and keeps it. -/
import Derived.Test.YtkhcjkmifddlbaaHeldB
import Derived.Test.YtkhcjkmifddlbaaHeldC
namespace Go.Proofs.Ytkhcjkmifddlbaa
open Go.RowKit Go.Deep

theorem info_hp : (Try.prog.info? 158).map (fun i => (i.zero, i.size, i.bytes)) = some (some (.agg #[.slice none 0 0, .int .i64 0]), 2, 32) := by kernel_rfl
theorem info_ho : (Try.prog.info? 160).map (fun i => (i.zero, i.size, i.bytes)) = some (some (.agg #[.slice none 0 0, .int .i64 0]), 2, 32) := by kernel_rfl

/-- What was lent, as outline finds it: nothing is asked of what stands in the lists. -/
structure Lists (w : World) (T h ob M : Nat) (B l m : Nat → Nat) (s : HS) : Prop where
  outer : w.rowIs ob 62 M (fun i => .slice (some ⟨B i, 0, none⟩) (l i) (m i))
  inner : ∀ i, i < M → ∃ f, w.rowIs (B i) 133 (m i * 3) f
  geO : T ≤ ob
  geB : ∀ i, i < M → T ≤ B i
  inj : ∀ i j, i < M → j < M → B i = B j → i = j
  und : s.Under T
  hT : h ≤ T
  le : ∀ i, i < M → l i ≤ m i ∧ m i ≤ 4294967297

theorem Lent.lists {w : World} {base ob N h : Nat} {B n : Nat → Nat} {X Y K : Nat → Nat → Int} {s : HS} (hl : Lent w base ob N B n X Y K) (hu : s.Under base) (hh : h ≤ base) (hn : ∀ i, i < N → n i ≤ 4294967295) :
    Lists w base h ob (N + 2) B (ln N n) (fun i => ln N n i + 2) s :=
  ⟨hl.outer, fun i hi => ⟨_, hl.inner i hi⟩, hl.ge, hl.geB, hl.inj, hu, hh, fun i hi => ⟨by omega, by
    unfold ln; split
    · rename_i h; have := hn i h; omega
    · omega⟩⟩

/-- What outline may write. -/
def outS (h ob M : Nat) (B : Nat → Nat) (s : HS) (b : Nat) : Prop := b = h ∨ b = ob ∨ (∃ i, i < M ∧ b = B i) ∨ s.vP.ownBlock = some b ∨ s.vO.ownBlock = some b

/-- The state behind i rounds. -/
def stP (s : HS) (B m : Nat → Nat) (v : Value) (i : Nat) : HS := { s with n := s.n + i, vP := v, P := s.P ++ (List.range i).map fun j => (B j, m j, s.n + 1 + (j : Int)) }

theorem stP_zero (s : HS) (B m : Nat → Nat) : stP s B m s.vP 0 = s := by simp [stP]

theorem range_snoc {α : Type} (f : Nat → α) (i : Nat) : (List.range (i + 1)).map f = (List.range i).map f ++ [f i] := by
  rw [List.range_succ, List.map_append]; rfl

/-- No list that is held lies where list i does. -/
theorem stP_ne {w : World} {h i M T : Nat} {s : HS} {B m : Nat → Nat} {v : Value} {k : Int} (H : HeldInv w h { stP s B m v i with n := k }) (hu : s.Under T) (hge : ∀ i, i < M → T ≤ B i) (hinj : ∀ i j, i < M → j < M → B i = B j → i = j) (hi : i < M)
    {b : Nat} (u : Used h { stP s B m v i with n := k } b) (hty : tyOf w (B i) = some 133) : b ≠ B i := by
  intro e
  subst e
  have hT := hge i hi
  rcases H.used_pt u hty with ⟨x, hx, hb⟩ | ⟨x, hx, j, hj, hb⟩
  · rcases List.mem_append.1 hx with hx | hx
    · have := hu.1 x hx; omega
    · simp at hx
      obtain ⟨j, hj, rfl⟩ := hx
      have := hinj j i (by omega) hi hb
      omega
  · have := (hu.2.1 x hx).2 j hj; omega

theorem mark_step {wr : World} {b m k : Nat} {t : TypeId} {g : Nat → Value} {n : Int} (o : Obj) (h : wr.rowIs b t (m * 3) g) (hg : ∀ q, q < k * 3 → g q = mkP n q) :
    ∃ g', ((((wr.setCell ⟨b, k * 3, none⟩ (.int .i64 (2199023255552 + n))).setCell ⟨b, k * 3 + 1, none⟩ (.int .i64 (-7))).setCell ⟨b, k * 3 + 2, none⟩ (.int .i64 9)).alloc o).rowIs b t (m * 3) g' ∧ ∀ q, q < (k + 1) * 3 → g' q = mkP n q := by
  refine ⟨_, (((h.set (k * 3) _).set (k * 3 + 1) _).set (k * 3 + 2) _).alloc o, fun q hq => ?_⟩
  by_cases e2 : q = k * 3 + 2
  · subst e2; rw [if_pos rfl]; unfold mkP; rw [pc2]
  rw [if_neg e2]
  by_cases e1 : q = k * 3 + 1
  · subst e1; rw [if_pos rfl]; unfold mkP; rw [pc1]
  rw [if_neg e1]
  by_cases e0 : q = k * 3
  · subst e0; rw [if_pos rfl]; unfold mkP; rw [pc0]
  rw [if_neg e0]
  exact hg q (by omega)

theorem stP_succ (s : HS) (B m : Nat → Nat) (v v' : Value) (i : Nat) :
    ({ ({ stP s B m v i with n := s.n + (i : Int) + 1 } : HS) with vP := v', P := (stP s B m v i).P ++ [(B i, m i, s.n + (i : Int) + 1)] } : HS) = stP s B m v' (i + 1) := by
  unfold stP
  rw [range_snoc]
  simp only [HS.mk.injEq, List.append_assoc, true_and, and_true, List.append_cancel_left_eq, List.cons.injEq, Prod.mk.injEq]
  omega

theorem outline_push {T h ob M i g cap : Nat} {B l m : Nat → Nat} {s : HS} {v : Value} {w wo w1 wr w2 : World} {o : Obj} {xs : List Value} (L : Lists w T h ob M B l m s) (hlt : i < M) (HT : Touch (outS h ob M B s) w wo)
    (HW : v.ownBlock = s.vP.ownBlock ∨ ∃ g, v.ownBlock = some g ∧ w.heap.size ≤ g) (HI : HeldInv wo h (stP s B m v i))
    (HO : wo.rowIs ob 62 M (fun i => .slice (some ⟨B i, 0, none⟩) (l i) (m i))) (HR : ∀ j, i ≤ j → j < M → ∃ f, wo.rowIs (B j) 133 (m j * 3) f)
    (HT1 : Touch (fun b => b = h) wo w1) (HQ : Touch (fun b => b = B i) w1 wr) (HIw : HeldInv wr h { stP s B m v i with n := s.n + i + 1 })
    (hro : wr.rowIs (B i) 133 (m i * 3) (mkP (s.n + i + 1))) (hxs : xs = (stP s B m v i).P.flatMap peC)
    (hown : w2.ownsRow h 158 2 (.slice (some ⟨g, 0, none⟩) (s.P.length + i + 1) cap) (s.P.length + i + 1) (xs ++ [.slice (some ⟨B i, 0, none⟩) (m i) (m i), .int .i64 (s.n + i + 1)]))
    (hg : (wr.alloc o).grownBy w2 v.ownBlock) (hat : v.ownBlock = some g ∨ g = wr.heap.size + 1) :
    Touch (outS h ob M B s) w (w2.setCell ⟨h, 3, none⟩ (.slice (some ⟨g, 0, none⟩) (s.P.length + i + 1) cap)) ∧ HeldInv (w2.setCell ⟨h, 3, none⟩ (.slice (some ⟨g, 0, none⟩) (s.P.length + i + 1) cap)) h (stP s B m (.slice (some ⟨g, 0, none⟩) (s.P.length + i + 1) cap) (i + 1)) ∧
      ((Value.slice (some ⟨g, 0, none⟩) (s.P.length + i + 1) cap).ownBlock = s.vP.ownBlock ∨ ∃ g', (Value.slice (some ⟨g, 0, none⟩) (s.P.length + i + 1) cap).ownBlock = some g' ∧ w.heap.size ≤ g') ∧
      (w2.setCell ⟨h, 3, none⟩ (.slice (some ⟨g, 0, none⟩) (s.P.length + i + 1) cap)).rowIs ob 62 M (fun i => .slice (some ⟨B i, 0, none⟩) (l i) (m i)) ∧
      (∀ j, i + 1 ≤ j → j < M → ∃ f, (w2.setCell ⟨h, 3, none⟩ (.slice (some ⟨g, 0, none⟩) (s.P.length + i + 1) cap)).rowIs (B j) 133 (m j * 3) f) := by
  have hplen : (stP s B m v i).P.length = s.P.length + i := by simp [stP]
  have hr : ∀ b, v.ownBlock = some b → tyOf wr b = some 158 := fun b hb => owns_ty HIw.oP hb
  have hh := row_ty HIw.wd
  have hBh : ∀ j, i ≤ j → j < M → B j ≠ h := fun j h1 h2 => by
    obtain ⟨f, hf⟩ := HR j h1 h2
    exact row_ne hf HI.wd (by decide)
  have hoh : ob ≠ h := row_ne HO HI.wd (by decide)
  have hoB : ob ≠ B i := by
    obtain ⟨f, hf⟩ := HR i (Nat.le_refl _) hlt
    exact row_ne HO hf (by decide)
  have hsw : w.heap.size ≤ wr.heap.size := Nat.le_trans HT.size (Nat.le_trans HT1.size HQ.size)
  have hlo : ((stP s B m v i).P.length : Int) + (stP s B m v i).O.length + (stP s B m v i).S.length + (stP s B m v i).T.length + (stP s B m v i).R.length + (stP s B m v i).B.length ≤ (stP s B m v i).n := HI.lo
  refine ⟨?_, ?_, ?_, ?_, ?_⟩
  · have t1 := HT.trans' HT1 (fun x hx => .inl (.inl hx))
    have t2 := t1.trans' HQ (fun x hx => .inl (.inr (.inr (.inl ⟨i, hlt, hx⟩))))
    have t3 := (t2.alloc o).grown hg (fun b hb => by
      rcases HW with HW | ⟨g', h1, h2⟩
      · exact .inl (.inr (.inr (.inr (.inl (HW ▸ hb)))))
      · rw [h1] at hb; simp at hb; subst hb; exact .inr h2)
    exact t3.setCell (.inl (.inl rfl)) _
  · have := HeldInv.pushP (b := B i) (m := m i) (g := g) (cap := cap) HIw hro (by have := (L.le i hlt).2; omega) (by show ((stP s B m v i).P.length : Int) + (stP s B m v i).O.length + (stP s B m v i).S.length + (stP s B m v i).T.length + (stP s B m v i).R.length + (stP s B m v i).B.length + 1 ≤ s.n + i + 1; have e : (stP s B m v i).n = s.n + i := rfl; omega)
      (by show w2.ownsRow h _ 2 (.slice _ ((stP s B m v i).P.length + 1) cap) ((stP s B m v i).P.length + 1) ((stP s B m v i).P.flatMap peC ++ _); rw [hplen, ← hxs]; exact hown) hg hat
    have e := stP_succ s B m v (.slice (some ⟨g, 0, none⟩) (s.P.length + i + 1) cap) i
    rw [← e]
    have e2 : ((stP s B m v i).P.length + 1) = s.P.length + i + 1 := by rw [hplen]
    simp only [e2] at this
    exact this
  · rcases hat with hat | hat
    · rcases HW with HW | ⟨g', h1, h2⟩
      · left; rw [← HW, hat]; rfl
      · right; rw [hat] at h1; exact ⟨g', by simpa [Value.ownBlock] using h1, h2⟩
    · right; exact ⟨g, rfl, by omega⟩
  · exact row_of_step hg hr hh (HQ.row (HT1.row HO hoh) hoB) (by decide) (by decide)
  · intro j h1 h2
    obtain ⟨f, hf⟩ := HR j (by omega) h2
    exact ⟨f, row_of_step hg hr hh (HQ.row (HT1.row hf (hBh j (by omega) h2)) (fun e => by have := L.inj j i h2 hlt e; omega)) (by decide) (by decide)⟩

theorem mkP_cells (n : Int) (w : World) (t : TypeId) : (w.alloc (.cells #[.int .i64 (2199023255552 + n), .int .i64 (-7), .int .i64 9] t)).rowIs w.heap.size t 3 (mkP n) := by
  refine World.rowIs_alloc w #[.int .i64 (2199023255552 + n), .int .i64 (-7), .int .i64 9] t (mkP n) (fun i hi => ?_)
  have hi : i < 3 := hi
  rcases (show i = 0 ∨ i = 1 ∨ i = 2 by omega) with rfl | rfl | rfl <;> rfl

/-- One list of the outline becomes a list of one mark. -/
theorem out_step {w1 wr : World} {ob M k : Nat} {F B l m : Nat → Nat} {n : Int} {o : Obj} (hT : Touch (fun b => b = ob) w1 wr)
    (hrow : wr.rowIs ob 62 M (fun j => if j < k then .slice (some ⟨F j, 0, none⟩) 1 1 else .slice (some ⟨B j, 0, none⟩) (l j) (m j)))
    (hF : ∀ j, j < k → w1.heap.size ≤ F j ∧ wr.rowIs (F j) 133 3 (mkP n)) :
    Touch (fun b => b = ob) w1 (((wr.setCell ⟨ob, k, none⟩ (.slice (some ⟨wr.heap.size + 1, 0, none⟩) 1 1)).alloc o).alloc (.cells #[.int .i64 (2199023255552 + n), .int .i64 (-7), .int .i64 9] 133)) ∧
    ∃ F' : Nat → Nat, (((wr.setCell ⟨ob, k, none⟩ (.slice (some ⟨wr.heap.size + 1, 0, none⟩) 1 1)).alloc o).alloc (.cells #[.int .i64 (2199023255552 + n), .int .i64 (-7), .int .i64 9] 133)).rowIs ob 62 M (fun j => if j < k + 1 then .slice (some ⟨F' j, 0, none⟩) 1 1 else .slice (some ⟨B j, 0, none⟩) (l j) (m j)) ∧
      ∀ j, j < k + 1 → w1.heap.size ≤ F' j ∧ (((wr.setCell ⟨ob, k, none⟩ (.slice (some ⟨wr.heap.size + 1, 0, none⟩) 1 1)).alloc o).alloc (.cells #[.int .i64 (2199023255552 + n), .int .i64 (-7), .int .i64 9] 133)).rowIs (F' j) 133 3 (mkP n) := by
  have hs := hT.size
  refine ⟨((hT.setCell (.inl (by rfl)) _).alloc _).alloc _, fun j => if j = k then wr.heap.size + 1 else F j, ?_, ?_⟩
  · refine (((hrow.set k _).alloc _).alloc _).congr fun j hj => ?_
    by_cases e : j = k
    · subst e; simp
    · by_cases e2 : j < k
      · simp [e, e2, show j < k + 1 by omega]
      · simp [e, e2, show ¬ j < k + 1 by omega]
  · intro j hj
    by_cases e : j = k
    · subst e
      simp only [if_pos]
      refine ⟨by omega, ?_⟩
      have := mkP_cells n ((wr.setCell ⟨ob, j, none⟩ (.slice (some ⟨wr.heap.size + 1, 0, none⟩) 1 1)).alloc o) 133
      rw [nblk_alloc, nblk_setCell] at this
      exact this
    · simp only [if_neg e]
      obtain ⟨h1, h2⟩ := hF j (by omega)
      exact ⟨h1, ((h2.setOther (by simpa using row_ne h2 hrow (by decide)) _).alloc _).alloc _⟩

/-- No outline that is held lies at ob. -/
theorem stP_ne_ob {w : World} {h i ob T : Nat} {s : HS} {B m : Nat → Nat} {v : Value} {k : Int} (H : HeldInv w h { stP s B m v i with n := k }) (hu : s.Under T) (hge : T ≤ ob)
    {b : Nat} (u : Used h { stP s B m v i with n := k } b) (hty : tyOf w ob = some 62) : b ≠ ob := by
  intro e
  subst e
  obtain ⟨x, hx, hb⟩ := H.used_pts u hty
  have := (hu.2.1 x hx).1
  omega

set_option maxHeartbeats 1000000 in
theorem outline_any (T h ob N M : Nat) (B l m : Nat → Nat) (s : HS) (w : World) (hM : M ≤ 4294967297) (H : HeldInv w h s) (L : Lists w T h ob M B l m s) (hn : s.n + M + 1 ≤ 1099511627776) (hNM : N ≤ M) :
    Calls Try.prog 48 #[.pointer (some ⟨h, 2, none⟩), .slice (some ⟨ob, 0, none⟩) N M] w fun e w' => e = .returned (.tuple #[]) ∧ Touch (outS h ob M B s) w w' ∧ ∃ s', HeldInv w' h s' ∧ s'.n = s.n + M + 1 ∧ s'.cs = s.cs ∧ s'.rs = s.rs ∧ s'.S = s.S ∧ s'.vS = s.vS ∧ s'.T = s.T ∧ s'.vT = s.vT ∧ s'.R = s.R ∧ s'.vR = s.vR ∧ s'.B = s.B ∧ s'.vB = s.vB := by
  have HH := hide H
  have HL := hide L
  have l0 : 0 ≤ s.n := by have := H.lo; omega
  clear H L
  go_enter Try.func48, Try.ntmps48
  go_wp2_with fail
  go_loopw [5] (fun t wr => ∃ (i : Nat) (v : Value), i ≤ M ∧ t = .int .i64 i ∧ Touch (outS h ob M B s) w wr ∧ HeldInv wr h (stP s B m v i) ∧ (v.ownBlock = s.vP.ownBlock ∨ ∃ g, v.ownBlock = some g ∧ w.heap.size ≤ g)
      ∧ wr.rowIs ob 62 M (fun i => .slice (some ⟨B i, 0, none⟩) (l i) (m i)) ∧ (∀ j, i ≤ j → j < M → ∃ f, wr.rowIs (B j) 133 (m j * 3) f)) (fun t _ => M - (intOf t).toNat)
  case atStart => exact ⟨0, s.vP, by omega, rfl, Touch.refl _ _, by rw [stP_zero]; exact HH.out, .inl rfl, HL.out.outer, fun j _ hj => HL.out.inner j hj⟩
  case round =>
    obtain ⟨wo, rfl⟩ : ∃ wo, wo = wr := ⟨wr, rfl⟩
    obtain ⟨i, v, hi, rfl, hto, hinv, hown, hout, hrest⟩ := hrel
    by_cases hlt : i < M
    · obtain ⟨hle1, hle2⟩ := HL.out.le i hlt
      have oi := hout.cell (i := i) hlt
      have hd1 : decide ((i : Int) < (M : Int)) = true := by simp; omega
      have g0 : (0 : Int) ≤ (i : Int) := by omega
      have g1 : (i : Int) < (M : Int) := by omega
      have HI := hide hinv
      have HR := hide hrest
      have HO := hide hout
      have HW := hide hown
      have HT := hide hto
      clear hinv hrest hout hown hto
      go_wp2_with fail
      go_quiet (fail)
      go_wp2_with fail
      have HI2 : HeldInv (wo.drewN nq) h (stP s B m v i) := HI.out.of_blocks fun b _ => rfl
      refine (mark_any h _ _ HI2 (by show s.n + i + 1 ≤ _; omega)).mono ?_
      rintro e w1 ⟨rfl, hw1⟩
      have HI3 := hide (HI2.marked (by show s.n + i + 1 ≤ _; omega))
      have hT1 : Touch (fun b => b = h) wo w1 := by rw [hw1]; exact Touch.setCell (S := fun b => b = h) ((Touch.refl _ _).drewN nq) (.inl (by rfl)) _
      have hI1 : HeldInv w1 h { stP s B m v i with n := s.n + i + 1 } := by rw [hw1]; exact HI3.out
      have hv1 : (stP s B m v i).n + 1 = s.n + i + 1 := rfl
      rw [hv1]
      clear hw1 HI3 HI2 hv1
      have hBh : B i ≠ h := by
        obtain ⟨f, hf⟩ := HR.out i (Nat.le_refl _) hlt
        exact row_ne hf HI.out.wd (by decide)
      have hBo : ∀ j, j < M → i ≤ j → B j ≠ ob := fun j hj hij => by
        obtain ⟨f, hf⟩ := HR.out j hij hj
        exact row_ne hf HO.out (by decide)
      have hoh : ob ≠ h := row_ne HO.out HI.out.wd (by decide)
      obtain ⟨f0, hf0⟩ := HR.out i (Nat.le_refl _) hlt
      have hf1 := hide (hT1.row hf0 hBh)
      have HI1 := hide hI1
      have HT1 := hide hT1
      have HH2 := hide (And.intro hBh (And.intro hBo hoh))
      clear hf0 hI1 hT1 hBh hBo hoh
      obtain ⟨mk, hmk⟩ : ∃ mk, mk = s.n + (i : Int) + 1 := ⟨_, rfl⟩
      rw [← hmk]
      have m0 : 0 ≤ mk := by omega
      have m1 : mk ≤ 1099511627776 := by omega
      have HM := hide hmk
      clear hmk
      go_wp2_with fail
      go_loopw [8] (fun t wr => ∃ k : Nat, k ≤ m i ∧ t = .int .i64 k ∧ Touch (fun b => b = B i) w1 wr ∧ ∃ g, wr.rowIs (B i) 133 (m i * 3) g ∧ ∀ q, q < k * 3 → g q = mkP mk q) (fun t _ => m i - (intOf t).toNat)
      case atStart => exact ⟨0, by omega, rfl, Touch.refl _ _, _, hf1.out, by omega⟩
      case round =>
        obtain ⟨k, hk, rfl, hq, g, hrow, hg⟩ := hrel
        by_cases hkm : k < m i
        · have c0 := hrow.cell (i := k * 3) (by omega)
          have c1 := hrow.cell (i := k * 3 + 1) (by omega)
          have c2 := hrow.cell (i := k * 3 + 2) (by omega)
          have z0 := hrow.frozen (k * 3)
          have z1 := hrow.frozen (k * 3 + 1)
          have z2 := hrow.frozen (k * 3 + 2)
          have hbl := hrow.lt
          have hd2 : decide ((k : Int) < (m i : Int)) = true := by simp; omega
          have HS := hide (mark_step (.cells #[.int .i64 (2199023255552 + mk), .int .i64 (-7), .int .i64 9] 133) hrow hg)
          have HQ := hide hq
          clear hrow hg hq
          go_wp2_with fail
          refine (markPoint_any _ _ m0 m1).mono ?_
          rintro e w2 ⟨rfl, rfl⟩
          go_wp2
          go_roundw
          case rel => exact ⟨k + 1, by omega, by go_num, (((HQ.out.setCell (.inl (by rfl)) _).setCell (.inl (by rfl)) _).setCell (.inl (by rfl)) _).alloc _, HS.out⟩
          case measure => simp [intOf]; omega
        · have e : k = m i := by omega
          subst e
          have hro := hide (hrow.congr hg)
          have hIw : HeldInv wr h { stP s B m v i with n := s.n + i + 1 } := HI1.out.of_blocks fun b u => hq.block b (HI1.out.used_lt u) (stP_ne HI1.out HL.out.und HL.out.geB HL.out.inj hlt u (row_ty hf1.out))
          clear hrow hg
          have HIw := hide hIw
          clear hIw
          have HQ := hide hq
          clear hq
          have c3 : wr.cell? ⟨h, 2 + 1, none⟩ = some v := by rw [HIw.out.wd.cell (by omega)]; rfl
          have z3 := HIw.out.wd.frozen 3
          have hhl := HIw.out.wd.lt
          obtain ⟨i0, hi0, hz0, hz1, hz2⟩ := info_parts info_hp
          obtain ⟨xs, hxs⟩ : ∃ xs, xs = (stP s B m v i).P.flatMap peC := ⟨_, rfl⟩
          have hoP : wr.ownsRow h 158 2 v (s.P.length + i) xs := by
            have := HIw.out.oP
            have e : (stP s B m v i).P.length = s.P.length + i := by simp [stP]
            rw [hxs, ← e]; exact this
          have HX := hide hxs
          clear hxs
          have hplen : ((s.P.length : Int)) + i ≤ 1099511627776 := by
            have hlo := HIw.out.lo
            simp [stP] at hlo; omega
          go_wp2_with (at_builtin; refine wpList_append_lies _ rfl _ _ 26 rfl h 158 i0 (.agg #[.slice none 0 0, .int .i64 0]) 2 32 Try.underlying26 hi0 hz0 hz1 hz2 rfl (by omega) v (s.P.length + i) xs rfl (hoP.alloc _) ⟨wr.heap.size, 0, none⟩ 1 1 [.slice (some ⟨B i, 0, none⟩) (m i) (m i), .int .i64 mk] rfl rfl ?c1 ?c2 (by omega) ?c3 ?c4 ?c5 (wr.heap.size + 1) (by simp) ?_)
          case c2 => exact ⟨rfl, rfl⟩
          case c3 => unfold maxLen; omega
          case c4 => omega
          case c5 => omega
          intro g1 cap w2 hown2 hgrow hat hlt2
          rw [HM.out] at hown2
          have HP := hide (outline_push HL.out hlt HT.out HW.out HI.out HO.out HR.out HT1.out HQ.out HIw.out (by rw [← HM.out]; exact hro.out) HX.out hown2 hgrow hat)
          have hty : some h ≠ v.ownBlock := fun e => by
            have := owns_ty hoP e.symm
            rw [row_ty HIw.out.wd] at this
            simp at this
          have c3' := (hgrow.cell_far ⟨h, 2 + 1, none⟩ (by simp; omega) hty).trans (by go_simp : _ = some v)
          have z3' := (hgrow.frozen_far ⟨h, 3, none⟩ (by simp; omega) hty).trans (by go_simp : _ = false)
          clear hown2 hgrow hat hty hoP
          go_wp2
          go_roundw
          case rel => exact ⟨i + 1, _, by omega, by go_num, HP.out⟩
          case measure => simp [intOf]; omega
    · have e : i = M := by omega
      subst e
      have hd1 : decide ((i : Int) < (i : Int)) = false := by simp
      have HI := hide hinv
      have HO := hide hout
      have HW := hide hown
      have HT := hide hto
      clear hinv hrest hout hown hto
      go_wp2_with fail
      refine (mark_any h _ _ HI.out (by show s.n + i + 1 ≤ _; omega)).mono ?_
      rintro e w1 ⟨rfl, hw1⟩
      have HI3 := hide (HI.out.marked (by show s.n + i + 1 ≤ _; omega))
      have hT1 : Touch (fun b => b = h) wo w1 := by rw [hw1]; exact Touch.setCell (S := fun b => b = h) (Touch.refl _ _) (.inl (by rfl)) _
      have hI1 : HeldInv w1 h { stP s B m v i with n := s.n + i + 1 } := by rw [hw1]; exact HI3.out
      have hv1 : (stP s B m v i).n + 1 = s.n + i + 1 := rfl
      rw [hv1]
      clear hw1 HI3 hv1
      have hoh : ob ≠ h := row_ne HO.out HI.out.wd (by decide)
      have hO1 := hide (hT1.row HO.out hoh)
      have HI1 := hide hI1
      have HT1 := hide hT1
      clear hI1 hT1
      obtain ⟨mk, hmk⟩ : ∃ mk, mk = s.n + (i : Int) + 1 := ⟨_, rfl⟩
      rw [← hmk]
      have m0 : 0 ≤ mk := by omega
      have m1 : mk ≤ 1099511627776 := by omega
      have HM := hide hmk
      clear hmk
      go_wp2_with fail
      go_loopw [10] (fun t wr => ∃ k : Nat, k ≤ i ∧ t = .int .i64 k ∧ Touch (fun b => b = ob) w1 wr ∧ ∃ F : Nat → Nat, wr.rowIs ob 62 i (fun j => if j < k then .slice (some ⟨F j, 0, none⟩) 1 1 else .slice (some ⟨B j, 0, none⟩) (l j) (m j)) ∧
          ∀ j, j < k → w1.heap.size ≤ F j ∧ wr.rowIs (F j) 133 3 (mkP mk)) (fun t _ => i - (intOf t).toNat)
      case atStart => exact ⟨0, by omega, rfl, Touch.refl _ _, fun _ => 0, hO1.out.congr (fun j _ => by simp), by omega⟩
      case round =>
        obtain ⟨k, hk, rfl, hq, F, hrow, hF⟩ := hrel
        by_cases hki : k < i
        · have c0 := hrow.cell (i := k) hki
          have z0 := hrow.frozen k
          have hbl := hrow.lt
          have hd2 : decide ((k : Int) < (i : Int)) = true := by simp; omega
          have HS := hide (out_step (o := .cells #[.int .i64 (2199023255552 + mk), .int .i64 (-7), .int .i64 9] 133) hq hrow hF)
          clear hrow hq hF
          go_wp2_with fail
          refine (markPoint_any _ _ m0 m1).mono ?_
          rintro e w2 ⟨rfl, rfl⟩
          go_wp2
          go_roundw
          case rel => exact ⟨k + 1, by omega, by go_num, HS.out⟩
          case measure => simp [intOf]; omega
        · have e : k = i := by omega
          subst e
          have hro := hide (hrow.congr (g := fun j => .slice (some ⟨F j, 0, none⟩) 1 1) (fun j hj => by simp [hj]))
          have hIw : HeldInv wr h { stP s B m v k with n := s.n + k + 1 } := HI1.out.of_blocks fun b u => hq.block b (HI1.out.used_lt u) (stP_ne_ob HI1.out HL.out.und HL.out.geO u (row_ty hO1.out))
          have HF := hide hF
          clear hrow hF
          have HIw := hide hIw
          clear hIw
          have HQ := hide hq
          clear hq
          have c4 : wr.cell? ⟨h, 2 + 2, none⟩ = some s.vO := by rw [HIw.out.wd.cell (by omega)]; rfl
          have z4 := HIw.out.wd.frozen 4
          have hhl := HIw.out.wd.lt
          obtain ⟨i0, hi0, hz0, hz1, hz2⟩ := info_parts info_ho
          obtain ⟨xs, hxs⟩ : ∃ xs, xs = s.O.flatMap oeC := ⟨_, rfl⟩
          have hoO : wr.ownsRow h 160 2 s.vO s.O.length xs := by
            rw [hxs]; exact HIw.out.oO
          have HX := hide hxs
          clear hxs
          have hplen : (s.O.length : Int) ≤ 1099511627776 := by
            have hlo := HIw.out.lo
            simp [stP] at hlo; omega
          go_wp2_with (at_builtin; refine wpList_append_lies _ rfl _ _ 27 rfl h 160 i0 (.agg #[.slice none 0 0, .int .i64 0]) 2 32 Try.underlying27 hi0 hz0 hz1 hz2 rfl (by omega) s.vO s.O.length xs rfl (hoO.alloc _) ⟨wr.heap.size, 0, none⟩ 1 1 [.slice (some ⟨ob, 0, none⟩) k k, .int .i64 mk] rfl rfl ?d1 ?d2 (by omega) ?d3 ?d4 ?d5 (wr.heap.size + 1) (by simp) ?_)
          case d2 => exact ⟨rfl, rfl⟩
          case d3 => unfold maxLen; omega
          case d4 => omega
          case d5 => omega
          intro g1 cap w2 hown2 hgrow hat hlt2
          rw [HM.out, HX.out] at hown2
          have hty : some h ≠ s.vO.ownBlock := fun e => by
            have := owns_ty hoO e.symm
            rw [row_ty HIw.out.wd] at this
            simp at this
          have hI2 : HeldInv (w2.setCell ⟨h, 4, none⟩ (.slice (some ⟨g1, 0, none⟩) (s.O.length + 1) cap)) h { ({ stP s B m v k with n := s.n + k + 1 } : HS) with vO := .slice (some ⟨g1, 0, none⟩) (s.O.length + 1) cap, O := s.O ++ [(ob, k, F, s.n + k + 1)] } :=
            HeldInv.pushO (b := ob) (m := k) (g := g1) (cap := cap) (F := F) HIw.out hro.out (fun j hj => by rw [← HM.out]; exact (HF.out j hj).2) (by omega) (by have := HI.out.lo; simp [stP] at this ⊢; omega) hown2 hgrow hat
          have hT2 : Touch (outS h ob k B s) w (w2.setCell ⟨h, 4, none⟩ (.slice (some ⟨g1, 0, none⟩) (s.O.length + 1) cap)) := by
            have t1 := HT.out.trans' HT1.out (fun x hx => .inl (.inl hx))
            have t2 := t1.trans' HQ.out (fun x hx => .inl (.inr (.inl hx)))
            have t3 := (t2.alloc _).grown hgrow (fun b hb => .inl (.inr (.inr (.inr (.inr hb)))))
            exact t3.setCell (.inl (.inl (by rfl))) _
          have HI2 := hide hI2
          have HT2 := hide hT2
          have c4' := (hgrow.cell_far ⟨h, 2 + 2, none⟩ (by simp; omega) hty).trans (by go_simp : _ = some s.vO)
          have z4' := (hgrow.frozen_far ⟨h, 4, none⟩ (by simp; omega) hty).trans (by go_simp : _ = false)
          clear hown2 hgrow hat hty hoO hI2 hT2
          go_wp2
          go_end0
          exact ⟨rfl, HT2.out, _, HI2.out, rfl, rfl, rfl, rfl, rfl, rfl, rfl, rfl, rfl, rfl, rfl⟩
end Go.Proofs.Ytkhcjkmifddlbaa
