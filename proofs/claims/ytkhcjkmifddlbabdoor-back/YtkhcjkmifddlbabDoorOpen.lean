/- The argument: how an outline that came in is read. -/
import Derived.Test.YtkhcjkmifddlbabDoorRows
import Derived.Test.YtkhcjkmifddlbabDoorMem
import Derived.Test.YtkhcjkmifddlbabDoorRead
import Derived.ProofKit
import Derived.Deep.Slices
namespace Go.Proofs.YtkhcjkmifddlbabDoor
open Go.ChangeShapes Go.WideShapes Go.ChangeAt Go.RowKit Go.Deep

theorem cells_i : Tryd.prog.cellsOf 3 = 1 := by kernel_rfl
theorem cells_p : Tryd.prog.cellsOf 83 = 3 := by kernel_rfl
theorem cells_s : Tryd.prog.cellsOf 79 = 1 := by kernel_rfl

theorem addr_form {w : World} {a : Addr} {v : Value} (h : w.cell? (a.add 0) = some v) : a = ⟨a.block, a.off, none⟩ := by
  have hs := World.cell?_spot h
  obtain ⟨b, off, spot⟩ := a
  simp [Addr.add] at hs
  rw [hs]
theorem addr_add (b off i : Nat) : ((⟨b, off, none⟩ : Addr).add i) = ⟨b, off + i, none⟩ := by
  unfold Addr.add
  split
  · rename_i h; simp_all
  · simp

section
variable {H : Type} {enc : TypeId × Value → H} {w : World} {spare : Nat → Bool} {held : Bool}

set_option maxRecDepth 100000 in
theorem open_pt {fuel : Nat} {cs : List Value} {x : DataW H × List MemPlace} (h : DataW.trod enc Tryd.prog w 0 spare held fuel 83 cs = some x) : ∃ a b c : Int, cs = [.int .i64 a, .int .i64 b, .int .i64 c] := by
  obtain ⟨zs, hz, hl, _, _⟩ := struct_ints Tryd.underlying83 Tryd.underlying3 cells_i cells_p (by
    intro i hi
    have hi : i < 3 := hi
    rcases (show i = 0 ∨ i = 1 ∨ i = 2 by omega) with rfl | rfl | rfl <;> exact ⟨_, rfl, rfl, rfl⟩) h
  obtain ⟨a, b, c, rfl⟩ := list3 hl
  exact ⟨a, b, c, by simpa using hz⟩

/-- A ring as it is read. -/
def RingRead (w : World) (v : Value) (d : DataW H) (r : Option Addr × Nat × Nat × (Nat → Int) × (Nat → Int) × (Nat → Int)) : Prop :=
  v = .slice r.1 r.2.1 r.2.2.1 ∧ RingAt w r.1 r.2.1 r.2.2.2.1 r.2.2.2.2.1 r.2.2.2.2.2 ∧ r.2.1 + 1 ≤ Rows.uptoBulk d

theorem bulk_len (l : List (DataW H)) : l.length ≤ Rows.uptoBulkAll l := by
  induction l with
  | nil => simp [Rows.uptoBulkAll]
  | cons x r ih =>
    have : 1 ≤ Rows.uptoBulk x := by
      cases x with
      | lit l => cases l <;> simp [Rows.uptoBulk]
      | nil => simp [Rows.uptoBulk]
      | ptr d => simp [Rows.uptoBulk]
      | slice elems spare => simp [Rows.uptoBulk]
      | agg parts => simp [Rows.uptoBulk]
      | iface t d => simp [Rows.uptoBulk]
      | map entries => simp [Rows.uptoBulk]
      | held h => simp [Rows.uptoBulk]
    simp only [Rows.uptoBulkAll, List.length_cons]; omega

set_option maxRecDepth 100000 in
theorem open_ring {fuel : Nat} {v : Value} {x : DataW H × List MemPlace} (h : DataW.trod enc Tryd.prog w 0 spare held fuel 79 [v] = some x) : ∃ r, RingRead w v x.1 r := by
  rcases open_slice Tryd.underlying79 h with ⟨hcs, rfl⟩ | ⟨a, len, cap, m, n, D, Pl, hcs, _, hl, hm, hmm, rfl, hx⟩
  · simp at hcs
    exact ⟨(none, 0, 0, fun _ => 0, fun _ => 0, fun _ => 0), hcs, .inl rfl, by simp [Rows.uptoBulk]⟩
  · simp at hcs
    rw [cells_p] at hx
    have hlm : len ≤ m := by rw [hmm]; split <;> omega
    have key : ∀ i, ∃ q : Int × Int × Int, i < len → w.cell? (a.add (i * 3)) = some (.int .i64 q.1) ∧ w.cell? ((a.add (i * 3)).add 1) = some (.int .i64 q.2.1) ∧ w.cell? ((a.add (i * 3)).add 2) = some (.int .i64 q.2.2) := by
      intro i
      by_cases hi : i < len
      · obtain ⟨cs', h1, h2⟩ := hx i (by omega)
        obtain ⟨p, q, r, rfl⟩ := open_pt h2
        obtain ⟨_, _, h3⟩ := World.cells?_some h1
        refine ⟨(p, q, r), fun _ => ⟨?_, ?_, ?_⟩⟩
        · have := h3 0 (by omega)
          simpa [Addr.add] using this
        · exact h3 1 (by omega)
        · exact h3 2 (by omega)
      · exact ⟨(0, 0, 0), fun h => absurd h hi⟩
    obtain ⟨f, hf⟩ := Classical.skolem.1 key
    refine ⟨(some a, len, cap, fun i => (f i).1, fun i => (f i).2.1, fun i => (f i).2.2), hcs, ?_, ?_⟩
    · rcases Nat.eq_zero_or_pos len with h0 | h0
      · exact .inl h0
      · have e := addr_form (by simpa using (hf 0 h0).1)
        refine .inr ⟨a.block, a.off, by rw [← e], fun k hk => ?_⟩
        obtain ⟨c0, c1, c2⟩ := hf k hk
        rw [e, addr_add] at c0
        rw [e, addr_add, addr_add] at c1 c2
        exact ⟨c0, c1, c2⟩
    · simp only [Rows.uptoBulk]
      have := bulk_len ((List.range len).map D)
      simp at this
      omega

set_option maxRecDepth 100000 in
theorem open_outline {fuel : Nat} {v : Value} {x : DataW H × List MemPlace} (h : DataW.trod enc Tryd.prog w 0 spare held fuel 85 [v] = some x) :
    ∃ (a : Option Addr) (N c : Nat) (A : Nat → Option Addr) (C n : Nat → Nat) (X Y K : Nat → Nat → Int), v = .slice a N c ∧ OutAt w a N A C n X Y K ∧ N ≤ Rows.uptoBulk x.1 ∧ (∀ i, i < N → n i ≤ Rows.uptoBulk x.1) ∧ Num.sumN n N ≤ Rows.uptoBulk x.1 := by
  rcases open_slice1 Tryd.underlying85 cells_s h with ⟨hcs, rfl⟩ | ⟨a, len, cap, m, n, V, D, Pl, hcs, _, hl, hm, hmm, rfl, hx⟩
  · simp at hcs
    exact ⟨none, 0, 0, fun _ => none, fun _ => 0, fun _ => 0, fun _ _ => 0, fun _ _ => 0, fun _ _ => 0, hcs, ⟨.inl rfl, fun i hi => by omega⟩, by omega, fun i hi => by omega, by simp [Num.sumN]⟩
  · simp at hcs
    have hlm : len ≤ m := by rw [hmm]; split <;> omega
    have key : ∀ i, ∃ r, i < len → RingRead w (V i) (D i) r := by
      intro i
      by_cases hi : i < len
      · obtain ⟨r, hr⟩ := open_ring (hx i (by omega)).2
        exact ⟨r, fun _ => hr⟩
      · exact ⟨(none, 0, 0, fun _ => 0, fun _ => 0, fun _ => 0), fun h => absurd h hi⟩
    obtain ⟨f, hf⟩ := Classical.skolem.1 key
    have hsum : ∀ k, k ≤ len → Num.sumN (fun i => (f i).2.1) k ≤ Rows.uptoBulkAll ((List.range k).map D) := by
      intro k
      induction k with
      | zero => intro _; simp [Num.sumN]
      | succ k ih =>
        intro hk
        have i1 := ih (by omega)
        have i2 := (hf k (by omega)).2.2
        have e : Rows.uptoBulkAll ((List.range (k + 1)).map D) = Rows.uptoBulkAll ((List.range k).map D) + Rows.uptoBulk (D k) := by
          rw [List.range_succ, List.map_append]
          have ap : ∀ (l r : List (DataW H)), Rows.uptoBulkAll (l ++ r) = Rows.uptoBulkAll l + Rows.uptoBulkAll r := by
            intro l r
            induction l with
            | nil => simp [Rows.uptoBulkAll]
            | cons x l ih => simp only [List.cons_append, Rows.uptoBulkAll, ih]; omega
          rw [ap]; simp [Rows.uptoBulkAll]
        rw [e]
        simp only [Num.sumN]
        omega
    have hN := bulk_len ((List.range len).map D)
    simp at hN
    have hS := hsum len (Nat.le_refl _)
    have hb : Rows.uptoBulkAll ((List.range len).map D) ≤ Rows.uptoBulk (.slice ((List.range len).map D) ((List.range (m - len)).map fun j => D (len + j))) := by
      simp only [Rows.uptoBulk]; omega
    refine ⟨some a, len, cap, fun i => (f i).1, fun i => (f i).2.2.1, fun i => (f i).2.1, fun i => (f i).2.2.2.1, fun i => (f i).2.2.2.2.1, fun i => (f i).2.2.2.2.2, hcs, ⟨?_, fun i hi => (hf i hi).2.1⟩, by dsimp only; omega, ?_, by dsimp only; omega⟩
    · rcases Nat.eq_zero_or_pos len with h0 | h0
      · exact .inl h0
      · have e := addr_form (hx 0 (by omega)).1
        refine .inr ⟨a.block, a.off, by rw [← e], fun i hi => ?_⟩
        have c := (hx i (by omega)).1
        rw [e, addr_add, (hf i hi).1] at c
        exact c
    · intro i hi
      have h1 := Num.sumN_mono (fun i => (f i).2.1) (show i + 1 ≤ len by omega)
      simp only [Num.sumN] at h1
      dsimp only
      omega
end
end Go.Proofs.YtkhcjkmifddlbabDoor
