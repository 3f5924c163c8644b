/- Readings of structs of integers. -/
import Derived.ProofKit
import Derived.Below
namespace Go.Proofs.YtkhcjkmifddlbabDoor
open Go.RowKit

section
variable {H : Type} {enc : TypeId × Value → H} {P : Program} {w : World} {base : Nat} {spare : Nat → Bool} {held : Bool}

/-- A struct whose fields are all ints of one cell each, in their order. -/
theorem struct_ints {t ti : TypeId} {fs : Array Field} {fuel : Nat} {cs : List Value} {x : DataW H × List MemPlace}
    (ht : P.underlying t = some (.struct fs)) (hi : P.underlying ti = some (.int .i64)) (h1 : P.cellsOf ti = 1) (hC : P.cellsOf t = fs.size)
    (hfs : ∀ i, i < fs.size → ∃ f, fs[i]? = some f ∧ f.type = ti ∧ f.offset = i)
    (h : DataW.trod enc P w base spare held fuel t cs = some x) :
    ∃ zs : List Int, cs = zs.map (Value.int .i64) ∧ zs.length = fs.size ∧ x = (.agg (zs.map fun z => .lit (.int .i64 z)), []) ∧ ∀ z ∈ zs, (Lit.int .i64 z).wf = true := by
  obtain ⟨xs, n, _, rfl, hl, hlen, hf⟩ := DataW.trod_struct ht h
  have key : ∀ i, i < fs.size → ∃ z : Int, cs[i]? = some (.int .i64 z) ∧ xs[i]? = some (.lit (.int .i64 z), []) ∧ (Lit.int .i64 z).wf = true := by
    intro i hlt
    obtain ⟨f, hfi, hft, hfo⟩ := hfs i hlt
    have e := hf i f hfi
    rw [hft, hfo, h1] at e
    have hx : ∃ y, xs[i]? = some y := ⟨xs[i], List.getElem?_eq_getElem (by omega)⟩
    obtain ⟨y, hy⟩ := hx
    rw [hy] at e
    obtain ⟨z, hc, hz, hw⟩ := DataW.trod_int hi e
    refine ⟨z, ?_, by rw [hy, hz], hw⟩
    have := congrArg (fun l => l[0]?) hc
    simpa [List.getElem?_take, List.getElem?_drop] using this
  refine ⟨cs.map intOf, ?_, by simp; omega, ?_, ?_⟩
  · apply List.ext_getElem?
    intro i
    by_cases hlt : i < fs.size
    · obtain ⟨z, hc, _, _⟩ := key i hlt
      simp [hc, intOf]
    · rw [List.getElem?_eq_none (by omega), List.getElem?_eq_none (by simp; omega)]
  · have e1 : xs.map (·.1) = (cs.map intOf).map fun z => DataW.lit (.int .i64 z) := by
      apply List.ext_getElem?
      intro i
      by_cases hlt : i < fs.size
      · obtain ⟨z, hc, hx, _⟩ := key i hlt
        simp [hc, hx, intOf]
      · rw [List.getElem?_eq_none (by simp; omega), List.getElem?_eq_none (by simp; omega)]
    have e2 : xs.flatMap (·.2) = [] := by
      rw [List.flatMap_eq_nil_iff]
      intro y hy
      obtain ⟨i, hi', rfl⟩ := List.mem_iff_getElem.1 hy
      obtain ⟨z, _, hx, _⟩ := key i (by omega)
      rw [List.getElem?_eq_getElem hi'] at hx
      simp at hx
      rw [hx]
    rw [e1, e2]
  · intro z hz
    obtain ⟨i, hi', rfl⟩ := List.mem_iff_getElem.1 hz
    simp at hi'
    obtain ⟨z', hc, _, hw⟩ := key i (by omega)
    have : cs[i] = .int .i64 z' := by
      rw [List.getElem?_eq_getElem hi'] at hc
      simpa using hc
    simp [this, intOf]
    exact hw
end

theorem list2 {α : Type} {l : List α} (h : l.length = 2) : ∃ a b, l = [a, b] := by
  match l, h with
  | [a, b], _ => exact ⟨a, b, rfl⟩
theorem list3 {α : Type} {l : List α} (h : l.length = 3) : ∃ a b c, l = [a, b, c] := by
  match l, h with
  | [a, b, c], _ => exact ⟨a, b, c, rfl⟩
theorem list6 {α : Type} {l : List α} (h : l.length = 6) : ∃ a b c d e f, l = [a, b, c, d, e, f] := by
  match l, h with
  | [a, b, c, d, e, f], _ => exact ⟨a, b, c, d, e, f, rfl⟩

end Go.Proofs.YtkhcjkmifddlbabDoor
