/- Arguments that are spots, maps, segments: how they are read. -/
import Derived.Test.YtkhcjkmifddlbaaRows
import Derived.Test.YtkhcjkmifddlbaaRead
import Derived.WalkKit
import Derived.ProofKit
import Derived.Below
namespace Go.Proofs.Ytkhcjkmifddlbaa
open Go.ChangeShapes Go.WideShapes Go.ChangeAt Go.RowKit

theorem ownB : ownKnob Try.prog.godebug = none := by kernel_rfl
theorem laidOutB' : laidOutB Try.prog = true := by kernel_rfl
theorem cellsIntB : Try.prog.cellsOf 3 = 1 := by kernel_rfl
theorem cellsSpotB : Try.prog.cellsOf 41 = 2 := by kernel_rfl
theorem cellsSegB : Try.prog.cellsOf 44 = 9 := by kernel_rfl

section
variable {H : Type} {enc : TypeId × Value → H} {w : World} {base : Nat} {spare : Nat → Bool} {held : Bool}

set_option maxRecDepth 100000 in
theorem trod_spot {fuel : Nat} {cs : List Value} {x : DataW H × List MemPlace} (h : DataW.trod enc Try.prog w base spare held fuel 41 cs = some x) : ∃ a b : Int, cs = [.int .i64 a, .int .i64 b] := by
  obtain ⟨zs, hz, hl, _, _⟩ := struct_ints Try.underlying41 Try.underlying3 cellsIntB cellsSpotB (by
    intro i hi
    have hi : i < 2 := hi
    rcases (show i = 0 ∨ i = 1 by omega) with rfl | rfl <;> exact ⟨_, rfl, rfl, rfl⟩) h
  obtain ⟨a, b, rfl⟩ := list2 hl
  exact ⟨a, b, by simpa using hz⟩

set_option maxRecDepth 100000 in
theorem open_spotB {r : Reach} {b0 : Nat} {v : Value} {d : DataW H} {p : List MemPlace} (hv : Value.okWide Try.prog w r b0 41 v) (h : DataW.Trod enc Try.prog w base spare held 41 v d p) :
    ∃ a b : Int, v = .agg #[.int .i64 a, .int .i64 b] := by
  obtain ⟨cs, rfl, hsz⟩ := okWide_struct Try.underlying41 hv
  obtain ⟨fuel, hf⟩ := h
  obtain ⟨a, b, hz⟩ := trod_spot hf
  refine ⟨a, b, ?_⟩
  simp [Value.cells] at hz
  obtain ⟨l⟩ := cs
  simp at hz
  rw [hz]

set_option maxRecDepth 100000 in
theorem trod_seg {fuel : Nat} {cs : List Value} {x : DataW H × List MemPlace} (h : DataW.trod enc Try.prog w base spare held fuel 44 cs = some x) :
    ∃ k x0 y0 x1 y1 x2 y2 x3 y3 : Int, cs = [.int .i64 k, .int .i64 x0, .int .i64 y0, .int .i64 x1, .int .i64 y1, .int .i64 x2, .int .i64 y2, .int .i64 x3, .int .i64 y3] := by
  obtain ⟨xs, n, _, _, hl, hlen, hf⟩ := DataW.trod_struct Try.underlying44 h
  rw [cellsSegB] at hl
  have hlen : xs.length = 5 := hlen
  have part : ∀ i, i < 5 → ∃ y, xs[i]? = some y := fun i hi => ⟨xs[i], List.getElem?_eq_getElem (by omega)⟩
  obtain ⟨w0, e0⟩ := part 0 (by omega)
  obtain ⟨w1, e1⟩ := part 1 (by omega)
  obtain ⟨w2, e2⟩ := part 2 (by omega)
  obtain ⟨w3, e3⟩ := part 3 (by omega)
  obtain ⟨w4, e4⟩ := part 4 (by omega)
  have f0 : DataW.trod enc Try.prog w base spare held n 3 ((cs.drop 0).take (Try.prog.cellsOf 3)) = xs[0]? := hf 0 _ rfl
  have f1 : DataW.trod enc Try.prog w base spare held n 41 ((cs.drop 1).take (Try.prog.cellsOf 41)) = xs[1]? := hf 1 _ rfl
  have f2 : DataW.trod enc Try.prog w base spare held n 41 ((cs.drop 3).take (Try.prog.cellsOf 41)) = xs[2]? := hf 2 _ rfl
  have f3 : DataW.trod enc Try.prog w base spare held n 41 ((cs.drop 5).take (Try.prog.cellsOf 41)) = xs[3]? := hf 3 _ rfl
  have f4 : DataW.trod enc Try.prog w base spare held n 41 ((cs.drop 7).take (Try.prog.cellsOf 41)) = xs[4]? := hf 4 _ rfl
  rw [e0] at f0
  rw [e1] at f1
  rw [e2] at f2
  rw [e3] at f3
  rw [e4] at f4
  rw [cellsIntB] at f0
  rw [cellsSpotB] at f1 f2 f3 f4
  obtain ⟨k, g0, _, _⟩ := DataW.trod_int Try.underlying3 f0
  obtain ⟨x0, y0, g1⟩ := trod_spot f1
  obtain ⟨x1, y1, g2⟩ := trod_spot f2
  obtain ⟨x2, y2, g3⟩ := trod_spot f3
  obtain ⟨x3, y3, g4⟩ := trod_spot f4
  refine ⟨k, x0, y0, x1, y1, x2, y2, x3, y3, ?_⟩
  match cs, hl with
  | [c0, c1, c2, c3, c4, c5, c6, c7, c8], _ =>
    simp at g0 g1 g2 g3 g4
    simp [g0, g1, g2, g3, g4]

set_option maxRecDepth 100000 in
theorem open_segB {r : Reach} {b0 : Nat} {v : Value} {d : DataW H} {p : List MemPlace} (hv : Value.okWide Try.prog w r b0 44 v) (h : DataW.Trod enc Try.prog w base spare held 44 v d p) :
    ∃ k x0 y0 x1 y1 x2 y2 x3 y3 : Int, v = .agg #[.int .i64 k, .int .i64 x0, .int .i64 y0, .int .i64 x1, .int .i64 y1, .int .i64 x2, .int .i64 y2, .int .i64 x3, .int .i64 y3] := by
  obtain ⟨cs, rfl, hsz⟩ := okWide_struct Try.underlying44 hv
  obtain ⟨fuel, hf⟩ := h
  obtain ⟨k, x0, y0, x1, y1, x2, y2, x3, y3, hz⟩ := trod_seg hf
  refine ⟨k, x0, y0, x1, y1, x2, y2, x3, y3, ?_⟩
  simp [Value.cells] at hz
  obtain ⟨l⟩ := cs
  simp at hz
  rw [hz]
end
end Go.Proofs.Ytkhcjkmifddlbaa
