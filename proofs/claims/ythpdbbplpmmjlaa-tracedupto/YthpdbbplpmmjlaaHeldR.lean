/- sameRings; the caller keeps rings. -/
import Derived.Test.YthpdbbplpmmjlaaHeldT
import Derived.Test.YthpdbbplpmmjlaaTrcC
namespace Go.Proofs.Ythpdbbplpmmjlaa
open Go.RowKit Go.Deep

set_option maxRecDepth 100000 in
set_option maxHeartbeats 1000000 in
theorem sameRings_any (v v' : Value) (base base' m : Nat) (V V' : Nat → Value) (L : Nat → List (Int × Int)) (w : World) (hm : m ≤ 4294967296) (hl : ∀ i, i < m → (L i).length ≤ 4294967296) (h1 : SpRings w base v m V L) (h2 : SpRings w base' v' m V' L) :
    Calls Try.prog 42 #[v, v'] w fun e w' => e = .returned (.bool true) ∧ Below w.heap.size w w' ∧ w'.heap = w.heap := by
  obtain ⟨ao, cap, rfl, ha⟩ := owns_formN h1.outer
  obtain ⟨ao', cap', rfl, ha'⟩ := owns_formN h2.outer
  have H1 := hide h1
  have H2 := hide h2
  have HL := hide hl
  have HA := hide ha
  have HA' := hide ha'
  clear h1 h2 ha ha' hl
  go_enter Try.func42, Try.ntmps42
  go_wp2_with fail
  go_loopw [5] (fun i wr => ∃ k : Nat, k ≤ m ∧ i = .int .i64 k ∧ Below w.heap.size w wr ∧ wr.heap = w.heap) (fun i _ => m - (intOf i).toNat)
  case atStart => exact ⟨0, by omega, rfl, Below.refl _ _, rfl⟩
  case round =>
    obtain ⟨k, hk, rfl, hb, hheap⟩ := hrel
    by_cases hlt : k < m
    · obtain ⟨b, rfl⟩ := HA.out (by omega)
      obtain ⟨b', rfl⟩ := HA'.out (by omega)
      have q0 := H1.out.outer.cellAt k (by omega)
      have r0 := H2.out.outer.cellAt k (by omega)
      rw [List.getElem?_map, List.getElem?_range hlt] at q0 r0
      simp only [Option.map_some] at q0 r0
      have HCq := hide (fun (W : World) (hW : W.heap = w.heap) => sameSpots_any (V k) (V' k) base base' (L k) W (HL.out k hlt) (owns_of_block (H1.out.inner k hlt) (fun b _ => by rw [hW])) (owns_of_block (H2.out.inner k hlt) (fun b _ => by rw [hW])))
      obtain ⟨a1, c1, hv1, _⟩ := owns_formN (H1.out.inner k hlt)
      obtain ⟨a2, c2, hv2, _⟩ := owns_formN (H2.out.inner k hlt)
      rw [hv1] at q0 HCq
      rw [hv2] at r0 HCq
      clear hv1 hv2
      have q1 : wr.cell? ⟨b, k, none⟩ = some (.slice a1 (L k).length c1) := by rw [← q0]; unfold World.cell?; rw [hheap]
      have r1 : wr.cell? ⟨b', k, none⟩ = some (.slice a2 (L k).length c2) := by rw [← r0]; unfold World.cell?; rw [hheap]
      have HHp := hide hheap
      have HB := hide hb
      clear q0 r0 hheap hb
      have g0 : (0 : Int) ≤ (k : Int) := by omega
      have g1 : (k : Int) < (m : Int) := by omega
      have hd1 : decide ((k : Int) < (m : Int)) = true := by simp; omega
      go_wp2_with fail
      go_region_held3 (fun w' => w'.cell? ⟨b, k, none⟩ = some (.slice a1 (L k).length c1) ∧ w'.cell? ⟨b', k, none⟩ = some (.slice a2 (L k).length c2)) (first | exact ⟨q1, r1⟩ | go_keep) ((go_at_call 38; refine (HCq.out wr.drew HHp.out).mono ?_; rintro e w' ⟨rfl, n5, rfl⟩))
      all_goals
        go_wp2
        go_roundw
        case rel => exact ⟨k + 1, by omega, by go_num, by have := HB.out; (repeat (any_goals (first | exact Below.refl _ _ | assumption | refine Below.drew ?_ | refine below_drewN ?_ _ | refine Below.setCell ?_ ?_ _ | refine Below.alloc ?_ ?_ _ | omega | (simp; done) | (simp; omega)))), HHp.out⟩
        case measure => simp [intOf]; omega
    · go_wp2
      go_ret
      exact ⟨rfl, hb, hheap⟩

theorem info_hr : (Try.prog.info? 116).map (fun i => (i.zero, i.size, i.bytes)) = some (some (.agg #[.slice none 0 0, .int .i64 0]), 2, 32) := by kernel_rfl
theorem mkT_cells (n : Int) (w : World) (t : TypeId) : (w.alloc (.cells #[.int .i64 (2199023255552 + n), .int .i64 (-7)] t)).rowIs w.heap.size t 2 (mkT n) := by
  refine World.rowIs_alloc w #[.int .i64 (2199023255552 + n), .int .i64 (-7)] t (mkT n) (fun i hi => ?_)
  have hi : i < 2 := hi
  rcases (show i = 0 ∨ i = 1 by omega) with rfl | rfl <;> rfl

/-- One ring of the list becomes a list of one mark. -/
theorem ring_step {w1 wr : World} {ob M k : Nat} {F : Nat → Nat} {f0 : Nat → Value} {n : Int} {o : Obj} (hT : Touch (fun b => b = ob) w1 wr)
    (hrow : wr.rowIs ob 48 M (fun j => if j < k then .slice (some ⟨F j, 0, none⟩) 1 1 else f0 j))
    (hF : ∀ j, j < k → w1.heap.size ≤ F j ∧ wr.rowIs (F j) 41 2 (mkT n)) :
    Touch (fun b => b = ob) w1 (((wr.setCell ⟨ob, k, none⟩ (.slice (some ⟨wr.heap.size + 1, 0, none⟩) 1 1)).alloc o).alloc (.cells #[.int .i64 (2199023255552 + n), .int .i64 (-7)] 41)) ∧
    ∃ F' : Nat → Nat, (((wr.setCell ⟨ob, k, none⟩ (.slice (some ⟨wr.heap.size + 1, 0, none⟩) 1 1)).alloc o).alloc (.cells #[.int .i64 (2199023255552 + n), .int .i64 (-7)] 41)).rowIs ob 48 M (fun j => if j < k + 1 then .slice (some ⟨F' j, 0, none⟩) 1 1 else f0 j) ∧
      ∀ j, j < k + 1 → w1.heap.size ≤ F' j ∧ (((wr.setCell ⟨ob, k, none⟩ (.slice (some ⟨wr.heap.size + 1, 0, none⟩) 1 1)).alloc o).alloc (.cells #[.int .i64 (2199023255552 + n), .int .i64 (-7)] 41)).rowIs (F' j) 41 2 (mkT n) := by
  have hs := hT.size
  refine ⟨((hT.setCell (.inl (by rfl)) _).alloc _).alloc _, fun j => if j = k then wr.heap.size + 1 else F j, ?_, ?_⟩
  · refine (((hrow.set k _).alloc _).alloc _).congr fun j hj => ?_
    by_cases e : j = k
    · subst e; simp
    · by_cases e2 : j < k
      · simp [e, e2, show j < k + 1 by omega]
      · simp [e, e2, show ¬ j < k + 1 by omega]
  · intro j hj
    by_cases e : j = k
    · subst e
      simp only [if_pos]
      refine ⟨by omega, ?_⟩
      have := mkT_cells n ((wr.setCell ⟨ob, j, none⟩ (.slice (some ⟨wr.heap.size + 1, 0, none⟩) 1 1)).alloc o) 41
      rw [nblk_alloc, nblk_setCell] at this
      exact this
    · simp only [if_neg e]
      obtain ⟨h1, h2⟩ := hF j (by omega)
      exact ⟨h1, ((h2.setOther (by simpa using row_ne h2 hrow (by decide)) _).alloc _).alloc _⟩

/-- What rings may write. -/
def ringS (h m : Nat) (s : HS) (x : Value) (V : Nat → Value) (b : Nat) : Prop := b = h ∨ s.vT.ownBlock = some b ∨ s.vR.ownBlock = some b ∨ x.ownBlock = some b ∨ ∃ i, i < m ∧ (V i).ownBlock = some b
/-- All spots and rings that are held lie below block B. -/
def HS.UnderR (s : HS) (B : Nat) : Prop := (∀ e ∈ s.T, ∀ b, e.1 = some b → b < B) ∧ ∀ e ∈ s.R, (∀ b, e.1 = some b → b < B) ∧ ∀ i, i < e.2.1 → e.2.2.1 i < B
theorem HeldInv.underR {w : World} {h : Nat} {s : HS} (H : HeldInv w h s) : s.UnderR w.heap.size :=
  ⟨fun e he b hb => (H.eT e he b hb).lt, fun e he => ⟨fun b hb => (H.eR e he b hb).lt, fun i hi => (H.eJ e he i hi).lt⟩⟩

/-- The state while the rings are marked, one by one. -/
structure RingSt (w wr : World) (h base k m : Nat) (s s' : HS) (x : Value) (V : Nat → Value) (L : Nat → List (Int × Int)) : Prop where
  inv : HeldInv wr h s'
  n : s'.n = s.n + k
  cs : s'.cs = s.cs
  rs : s'.rs = s.rs
  R : s'.R = s.R
  vR : s'.vR = s.vR
  T : ∀ e ∈ s'.T, e ∈ s.T ∨ ∃ i, i < k ∧ e.1 = (V i).ownBlock
  vT : s'.vT.ownBlock = s.vT.ownBlock ∨ ∃ g, s'.vT.ownBlock = some g ∧ w.heap.size ≤ g
  touch : Touch (ringS h m s x V) w wr
  outer : wr.ownsRow base 48 1 x m ((List.range m).map V)
  inner : ∀ i, k ≤ i → i < m → wr.ownsRow base 41 2 (V i) (L i).length ((L i).flatMap spC)

theorem RingSt.free {w wr : World} {h base k m : Nat} {s s' : HS} {x : Value} {V : Nat → Value} {L : Nat → List (Int × Int)} (H : RingSt w wr h base k m s s' x V L) (hx : SpRings w base x m V L) (hu : s.UnderR base) (hk : k < m) : ∀ b, (V k).ownBlock = some b → s'.Free b := by
  intro b hb
  have hge := ((hx.inner k hk).lt b hb).1
  refine ⟨fun e he e1 => ?_, fun e he i hi e1 => ?_⟩
  · rcases H.T e he with h1 | ⟨i, hi, h1⟩
    · have := hu.1 e h1 b e1; omega
    · exact hx.inj i k (by omega) hk (by omega) b (by rw [← h1]; exact e1) hb
  · rw [H.R] at he
    have := (hu.2 e he).2 i hi
    omega

theorem RingSt.step {w wr w' : World} {h base k m : Nat} {s s' s'' : HS} {x : Value} {V : Nat → Value} {L : Nat → List (Int × Int)} (H : RingSt w wr h base k m s s' x V L) (hx : SpRings w base x m V L) (hk : k < m) (hT : Touch (spotS h s' (V k)) wr w') (hI : HeldInv w' h s'') (hK : SpotsKept wr s' s'' (V k)) : RingSt w w' h base (k + 1) m s s'' x V L := by
  have hsz := H.touch.size
  have tyH := row_ty H.inv.wd
  have notS : ∀ b t, tyOf wr b = some t → t ≠ 35 → t ≠ 114 → (V k).ownBlock ≠ some b → ¬ spotS h s' (V k) b := by
    rintro b t ht h1 h2 h3 (rfl | h4 | h4)
    · rw [tyH] at ht; simp at ht; exact h1 ht.symm
    · rw [owns_ty H.inv.oT h4] at ht; simp at ht; exact h2 ht.symm
    · exact h3 h4
  refine { inv := hI, n := by rw [hK.n, H.n]; omega, cs := hK.cs.trans H.cs, rs := hK.rs.trans H.rs, R := hK.R.trans H.R, vR := hK.vR.trans H.vR, T := ?T, vT := ?vT, touch := ?touch, outer := ?outer, inner := ?inner }
  case T =>
    intro e he
    rcases hK.T e he with h1 | h1
    · rcases H.T e h1 with h2 | ⟨i, hi, h2⟩
      · exact .inl h2
      · exact .inr ⟨i, by omega, h2⟩
    · exact .inr ⟨k, by omega, h1⟩
  case vT =>
    rcases hK.vT with h1 | ⟨g, h1, h2⟩
    · rcases H.vT with h3 | ⟨g, h3, h4⟩
      · exact .inl (h1.trans h3)
      · exact .inr ⟨g, h1.trans h3, h4⟩
    · exact .inr ⟨g, h1, by omega⟩
  case touch =>
    refine H.touch.trans' hT (fun b hb => ?_)
    rcases hb with rfl | hb | hb
    · exact .inl (.inl rfl)
    · rcases H.vT with h3 | ⟨g, h3, h4⟩
      · exact .inl (.inr (.inl (h3 ▸ hb)))
      · rw [h3] at hb; simp at hb; subst hb; exact .inr h4
    · exact .inl (.inr (.inr (.inr (.inr ⟨k, hk, hb⟩))))
  case outer =>
    refine owns_of_block H.outer (fun b hb => hT.block b (H.outer.lt b hb).2 (notS b _ (owns_ty H.outer hb) (by decide) (by decide) (fun e => ?_)))
    have h1 := owns_ty H.outer hb
    rw [owns_ty (H.inner k (Nat.le_refl _) hk) e] at h1
    simp at h1
  case inner =>
    intro i hi hm
    refine owns_of_block (H.inner i (by omega) hm) (fun b hb => hT.block b ((H.inner i (by omega) hm).lt b hb).2 (notS b _ (owns_ty (H.inner i (by omega) hm) hb) (by decide) (by decide) (fun e => ?_)))
    exact hx.inj k i hk hm (by omega) b e hb
end Go.Proofs.Ythpdbbplpmmjlaa
