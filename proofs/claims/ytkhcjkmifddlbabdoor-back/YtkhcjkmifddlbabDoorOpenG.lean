/- The argument: how a picture that came in is read. -/
import Derived.Test.YtkhcjkmifddlbabDoorOpenK
import Derived.Test.YtkhcjkmifddlbabDoorHeldY
import Derived.SizedLaws
namespace Go.Proofs.YtkhcjkmifddlbabDoor
open Go.ChangeShapes Go.WideShapes Go.ChangeAt Go.RowKit Go.Deep

theorem cells_gray : Tryd.prog.cellsOf 24 = 3 := by kernel_rfl
theorem cells_bys : Tryd.prog.cellsOf 22 = 1 := by kernel_rfl
theorem cells_by : Tryd.prog.cellsOf 5 = 1 := by kernel_rfl
theorem bytes_by : Tryd.prog.bytesOf 5 = 1 := by kernel_rfl
theorem list3g {α : Type} {l : List α} (h : l.length = 3) : ∃ a b c, l = [a, b, c] := by
  match l, h with
  | [a, b, c], _ => exact ⟨a, b, c, rfl⟩
theorem u8_wf {z : Int} (h : (Lit.int .u8 z).wf = true) : 0 ≤ z ∧ z ≤ 255 := by
  have m1 : IntKind.u8.min = 0 := by decide
  have m2 : IntKind.u8.max = 255 := by decide
  simp only [Lit.wf, Bool.and_eq_true, decide_eq_true_eq, m1, m2] at h
  exact h

section
variable {H : Type} {enc : TypeId × Value → H} {w : World} {spare : Nat → Bool} {held : Bool}
set_option maxRecDepth 100000 in
theorem open_bytes {fuel : Nat} {v : Value} {x : DataW H × List MemPlace} (h : DataW.trod enc Tryd.prog w 0 spare held fuel 22 [v] = some x) :
    ∃ (a : Option Addr) (n c : Nat) (X : Nat → Int), v = .slice a n c ∧ ByAt w a n X ∧ (∀ k, k < n → 0 ≤ X k ∧ X k ≤ 255) ∧ (n = 0 ∨ ∃ D S, x.1 = .slice D S ∧ D.length = n) := by
  rcases open_slice Tryd.underlying22 h with ⟨hcs, rfl⟩ | ⟨a, len, cap, m, n, D, Pl, hcs, _, hl, hm, hmm, rfl, hx⟩
  · simp at hcs
    exact ⟨none, 0, 0, fun _ => 0, hcs, .inl rfl, fun k hk => by omega, .inl rfl⟩
  · simp at hcs
    rw [cells_by] at hx
    have hlm : len ≤ m := by rw [hmm]; split <;> omega
    have key : ∀ i, ∃ q : Int, i < len → w.cell? (a.add (i * 1)) = some (.int .u8 q) ∧ 0 ≤ q ∧ q ≤ 255 := by
      intro i
      by_cases hi : i < len
      · obtain ⟨cs', h1, h2⟩ := hx i (by omega)
        obtain ⟨z, rfl, _, hw⟩ := DataW.trod_int Tryd.underlying5 h2
        obtain ⟨_, _, h3⟩ := World.cells?_some h1
        refine ⟨z, fun _ => ⟨?_, u8_wf hw⟩⟩
        have := h3 0 (by omega)
        simpa [Addr.add] using this
      · exact ⟨0, fun h => absurd h hi⟩
    obtain ⟨f, hf⟩ := Classical.skolem.1 key
    refine ⟨some a, len, cap, f, hcs, ?_, fun k hk => (hf k hk).2, .inr ⟨_, _, rfl, by simp⟩⟩
    rcases Nat.eq_zero_or_pos len with h0 | h0
    · exact .inl h0
    · have e := addr_form (by simpa using (hf 0 h0).1)
      refine .inr ⟨a.block, a.off, by rw [← e], fun k hk => ?_⟩
      have c0 := (hf k hk).1
      rw [e, addr_add, Nat.mul_one] at c0
      exact c0

set_option maxRecDepth 100000 in
theorem open_gray {fuel : Nat} {cs : List Value} {x : DataW H × List MemPlace} (h : DataW.trod enc Tryd.prog w 0 spare held fuel 24 cs = some x) :
    ∃ (W HH : Int) (a : Option Addr) (n c : Nat) (X : Nat → Int), cs = [.int .i64 W, .int .i64 HH, .slice a n c] ∧ ByAt w a n X ∧ (∀ k, k < n → 0 ≤ X k ∧ X k ≤ 255) ∧ (n = 0 ∨ ∃ e0 e1 D S, x.1 = .agg [e0, e1, .slice D S] ∧ D.length = n) := by
  obtain ⟨xs, n, _, rfl, hl, hlen, hf⟩ := DataW.trod_struct Tryd.underlying24 h
  have hl3 : cs.length = 3 := by first | exact hl.trans cells_gray | (rw [cells_gray] at hl; exact hl) | (rw [cells_gray] at hl; exact hl.symm)
  obtain ⟨c0, c1, c2, rfl⟩ := list3g hl3
  have hlen3 : xs.length = 3 := hlen
  obtain ⟨y0, y1, y2, rfl⟩ := list3g hlen3
  have e0 := hf 0 _ rfl
  have e1 := hf 1 _ rfl
  have e2 := hf 2 _ rfl
  change DataW.trod enc Tryd.prog w 0 spare held n 3 (([c0, c1, c2].drop 0).take (Tryd.prog.cellsOf 3)) = some y0 at e0
  change DataW.trod enc Tryd.prog w 0 spare held n 3 (([c0, c1, c2].drop 1).take (Tryd.prog.cellsOf 3)) = some y1 at e1
  change DataW.trod enc Tryd.prog w 0 spare held n 22 (([c0, c1, c2].drop 2).take (Tryd.prog.cellsOf 22)) = some y2 at e2
  rw [cells_i] at e0 e1
  rw [cells_bys] at e2
  change DataW.trod enc Tryd.prog w 0 spare held n 3 [c0] = some y0 at e0
  change DataW.trod enc Tryd.prog w 0 spare held n 3 [c1] = some y1 at e1
  change DataW.trod enc Tryd.prog w 0 spare held n 22 [c2] = some y2 at e2
  obtain ⟨z0, h0, _, _⟩ := DataW.trod_int Tryd.underlying3 e0
  obtain ⟨z1, h1, _, _⟩ := DataW.trod_int Tryd.underlying3 e1
  obtain ⟨a, k, c, X, hv, hb, hbd, hd⟩ := open_bytes e2
  simp at h0 h1
  subst h0 h1 hv
  refine ⟨z0, z1, a, k, c, X, rfl, hb, hbd, ?_⟩
  rcases hd with hd | ⟨D, S, hd, hD⟩
  · exact .inl hd
  · refine .inr ⟨y0.1, y1.1, D, S, ?_, hD⟩
    simp [hd]
end
end Go.Proofs.YtkhcjkmifddlbabDoor
