/- Joined: BoxesProof. -/
import Derived.Test.YtkhcjkmifddlbaaPart1
import Derived.Test.YtkhcjkmifddlbaaPart9
import Derived.Deep.Slices
/- BoxesProof -/
namespace Go.Proofs.Ytkhcjkmifddlbaa
open Go.ChangeShapes Go.WideShapes Go.ChangeAt Go.RowKit Go.Deep

theorem cells_box : Try.prog.cellsOf 61 = 4 := by kernel_rfl
theorem list4' {α : Type} {l : List α} (h : l.length = 4) : ∃ a b c d, l = [a, b, c, d] := by
  match l, h with
  | [a, b, c, d], _ => exact ⟨a, b, c, d, rfl⟩
section
variable {H : Type} {enc : TypeId × Value → H} {w : World} {spare : Nat → Bool} {held : Bool}
set_option maxRecDepth 100000 in
theorem open_box {fuel : Nat} {cs : List Value} {x : DataW H × List MemPlace} (h : DataW.trod enc Try.prog w 0 spare held fuel 61 cs = some x) : ∃ a b c d : Int, cs = [.int .i64 a, .int .i64 b, .int .i64 c, .int .i64 d] := by
  obtain ⟨zs, hz, hl, _, _⟩ := struct_ints Try.underlying61 Try.underlying3 cells_i cells_box (by
    intro i hi
    have hi : i < 4 := hi
    rcases (show i = 0 ∨ i = 1 ∨ i = 2 ∨ i = 3 by omega) with rfl | rfl | rfl | rfl <;> exact ⟨_, rfl, rfl, rfl⟩) h
  obtain ⟨a, b, c, d, rfl⟩ := list4' hl
  exact ⟨a, b, c, d, by simpa using hz⟩
set_option maxRecDepth 100000 in
theorem open_boxes {fuel : Nat} {v : Value} {x : DataW H × List MemPlace} (h : DataW.trod enc Try.prog w 0 spare held fuel 58 [v] = some x) : ∃ (a : Option Addr) (n c : Nat) (F : Nat → Nat → Int), v = .slice a n c ∧ BoxAt w a n F := by
  rcases open_slice Try.underlying58 h with ⟨hcs, rfl⟩ | ⟨a, len, cap, m, n, D, Pl, hcs, _, hl, hm, hmm, rfl, hx⟩
  · simp at hcs
    exact ⟨none, 0, 0, fun _ _ => 0, hcs, .inl rfl⟩
  · simp at hcs
    rw [cells_box] at hx
    have hlm : len ≤ m := by rw [hmm]; split <;> omega
    have key : ∀ i, ∃ q : Nat → Int, i < len → w.cell? (a.add (i * 4)) = some (.int .i64 (q 0)) ∧ w.cell? ((a.add (i * 4)).add 1) = some (.int .i64 (q 1)) ∧ w.cell? ((a.add (i * 4)).add 2) = some (.int .i64 (q 2)) ∧ w.cell? ((a.add (i * 4)).add 3) = some (.int .i64 (q 3)) := by
      intro i
      by_cases hi : i < len
      · obtain ⟨cs', h1, h2⟩ := hx i (by omega)
        obtain ⟨p, q, r, s, rfl⟩ := open_box h2
        obtain ⟨_, _, h3⟩ := World.cells?_some h1
        refine ⟨fun z => if z = 0 then p else if z = 1 then q else if z = 2 then r else s, fun _ => ⟨?_, ?_, ?_, ?_⟩⟩
        · have := h3 0 (by omega)
          simpa [Addr.add] using this
        · exact h3 1 (by omega)
        · exact h3 2 (by omega)
        · exact h3 3 (by omega)
      · exact ⟨fun _ => 0, fun h => absurd h hi⟩
    obtain ⟨f, hf⟩ := Classical.skolem.1 key
    refine ⟨some a, len, cap, f, hcs, ?_⟩
    rcases Nat.eq_zero_or_pos len with h0 | h0
    · exact .inl h0
    · have e := addr_form (by simpa using (hf 0 h0).1)
      refine .inr ⟨a.block, a.off, by rw [← e], fun k hk => ?_⟩
      obtain ⟨c0, c1, c2, c3⟩ := hf k hk
      rw [e, addr_add] at c0
      rw [e, addr_add, addr_add] at c1 c2 c3
      exact ⟨c0, c1, c2, c3⟩
end

set_option maxRecDepth 100000 in
theorem boxes_lifted (os : Os) (started : os.Started) (H : Type) (enc : TypeId × Value → H) :
    ReturnsInHanded {} Try.checked os 9 .any (Rows.boxesSpec.pre6 enc Try.prog Try.f9 Rows.boxesRow.domain false) (Rows.boxesSpec.post enc Try.prog Try.f9 false true false false) := by
  refine returnsInHanded_of_change (C := Try.checked) own_k started (by kernel_rfl) Try.func9
    (ChangeSpec.witness6 (enc := enc) (C := Try.checked) false ⟨#[], #[.slice none 0 0, .int .i64 0, .int .i64 0, .int .i64 0, .int .i64 0, .int .i64 0, .int .i64 0, .int .i64 0], []⟩ 8 (by kernel_rfl) (by kernel_rfl) (by kernel_rfl) (by kernel_rfl)) ?_
  intro W base args ds gs before hval0 hW hcnd _
  have hval : ∀ (j : Nat) t v, Try.f9.params[j]? = some t → args[j]? = some v → Value.okWide Try.prog W .any base t v := hval0
  have hW' := hW
  obtain ⟨p, q, hA0, hV, rfl, hfz, hnd⟩ := hW
  have hA : DataW.TrodAll enc Try.prog W 0 (fun _ => true) true Try.f9.params.toList args.toList ds p := hA0
  rw [Try.params9] at hA hval
  have hA1 := hA
  obtain ⟨v0, vs0, d0, ds0, p0, q0, hargs, rfl, rfl, h0, r0⟩ := trodAll_cons hA
  obtain ⟨v1, vs1, d1, ds1, p1, q1, rfl, rfl, rfl, h1, r1⟩ := trodAll_cons r0
  obtain ⟨v2, vs2, d2, ds2, p2, q2, rfl, rfl, rfl, h2, r2⟩ := trodAll_cons r1
  obtain ⟨v3, vs3, d3, ds3, p3, q3, rfl, rfl, rfl, h3, r3⟩ := trodAll_cons r2
  obtain ⟨v4, vs4, d4, ds4, p4, q4, rfl, rfl, rfl, h4, r4⟩ := trodAll_cons r3
  obtain ⟨v5, vs5, d5, ds5, p5, q5, rfl, rfl, rfl, h5, r5⟩ := trodAll_cons r4
  obtain ⟨v6, vs6, d6, ds6, p6, q6, rfl, rfl, rfl, h6, r6⟩ := trodAll_cons r5
  obtain ⟨v7, vs7, d7, ds7, p7, q7, rfl, rfl, rfl, h7, r7⟩ := trodAll_cons r6
  obtain ⟨rfl, rfl, rfl⟩ := trodAll_nil r7
  have hargs : args = #[v0, v1, v2, v3, v4, v5, v6, v7] := by cases args; simp_all
  subst hargs
  obtain ⟨rfl, rfl⟩ := trodVars_none hV
  obtain ⟨sa, sl, sc, rfl⟩ := okWide_slice Try.underlying58 (hval 0 58 v0 rfl rfl)
  obtain ⟨z1, rfl, _⟩ := open_int (hval 1 3 v1 rfl rfl) h1
  obtain ⟨z2, rfl, _⟩ := open_int (hval 2 3 v2 rfl rfl) h2
  obtain ⟨z3, rfl, b3⟩ := open_int (hval 3 3 v3 rfl rfl) h3
  obtain ⟨z4, rfl, b4⟩ := open_int (hval 4 3 v4 rfl rfl) h4
  obtain ⟨z5, rfl, b5⟩ := open_int (hval 5 3 v5 rfl rfl) h5
  obtain ⟨z6, rfl, b6⟩ := open_int (hval 6 3 v6 rfl rfl) h6
  obtain ⟨z7, rfl, b7⟩ := open_int (hval 7 3 v7 rfl rfl) h7
  have h00 := h0
  obtain ⟨fuel, hf⟩ := h00
  obtain ⟨a, n, c, F, hv, ho⟩ := open_boxes (by simpa [Value.cells] using hf)
  simp only [Value.slice.injEq] at hv
  obtain ⟨rfl, rfl, rfl⟩ := hv
  clear hA0 hval0
  refine (boxes_any sa sl sc F z1 z2 z3 z4 z5 z6 z7 W ho b3 b4 b5 b6 b7).mono fun e W' ⟨he, bel⟩ => ?_
  subst he
  refine ⟨_, rfl, _, _, _, [], _, [], hW', trodAll_mk1 (shut_bool Try.underlying4 _), belowAll bel _ _ _ _ ?_ hA1, rfl, bel.frame _, fun h => by cases h⟩
  intro t ht
  have ht : t ∈ [58, 3, 3, 3, 3, 3, 3, 3] := ht
  have ht : t = 58 ∨ t = 3 := by
    rcases List.mem_cons.1 ht with h | h
    · exact .inl h
    · right
      repeat (rcases List.mem_cons.1 h with h | h; exact h)
      cases h
  rcases ht with rfl | rfl <;> exact ⟨by kernel_rfl, of_decide_eq_true (by kernel_rfl)⟩

theorem boxes_holds : Rows.BoxesSaid :=
  OpenClaim.holds_of_wide 9 Try.f9 rfl rfl rfl rfl rfl rfl rfl ⟨rfl, rfl, rfl, rfl, rfl⟩ rfl rfl rfl rfl rfl (by kernel_rfl) Try.func9 (by kernel_rfl)
    (of_decide_eq_true (by kernel_rfl)) (by unfold Func.isWrapper; first | (rw [if_pos (by decide +kernel)]; kernel_rfl) | (rw [if_neg (by decide +kernel)]; exact ⟨rfl, rfl⟩))
    (fun os started H enc _ => boxes_lifted os started H enc)
#print axioms boxes_holds
end Go.Proofs.Ytkhcjkmifddlbaa
