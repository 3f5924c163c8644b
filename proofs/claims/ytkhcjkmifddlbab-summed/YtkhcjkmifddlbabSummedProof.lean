/- Joined: SummedProof. -/
import Derived.Test.YtkhcjkmifddlbabPart1
import Derived.Test.YtkhcjkmifddlbabSumA
/- SummedProof -/
namespace Go.Proofs.Ytkhcjkmifddlbab
open Go.ChangeShapes Go.WideShapes Go.ChangeAt Go.RowKit Go.Deep

set_option maxRecDepth 100000 in
theorem summed_lifted (os : Os) (started : os.Started) (H : Type) (enc : TypeId × Value → H) :
    ReturnsInHanded {} Try.checked os 4 .any (Rows.summedSpec.pre6 enc Try.prog Try.f4 Rows.summedRow.domain false) (Rows.summedSpec.post enc Try.prog Try.f4 false true false false) := by
  refine returnsInHanded_of_change (C := Try.checked) own_k started (by kernel_rfl) Try.func4
    (ChangeSpec.witness6 (enc := enc) (C := Try.checked) false ⟨#[], #[.slice none 0 0, .slice none 0 0, .agg #[.int .i64 0, .int .i64 0, .int .i64 0, .int .i64 0, .int .i64 0, .int .i64 0], .int .i64 0, .int .i64 0, .int .i64 0, .int .i64 0, .int .i64 0], []⟩ 8 (by kernel_rfl) (by kernel_rfl) (by kernel_rfl) (by kernel_rfl)) ?_
  intro W base args ds gs before hval0 hW hcnd _
  have hval : ∀ (j : Nat) t v, Try.f4.params[j]? = some t → args[j]? = some v → Value.okWide Try.prog W .any base t v := hval0
  have hW' := hW
  obtain ⟨p, q, hA0, hV, rfl, hfz, hnd⟩ := hW
  have hA : DataW.TrodAll enc Try.prog W 0 (fun _ => true) true Try.f4.params.toList args.toList ds p := hA0
  rw [Try.params4] at hA hval
  have hA1 := hA
  obtain ⟨v0, vs0, d0, ds0, p0, q0, hargs, rfl, rfl, h0, r0⟩ := trodAll_cons hA
  obtain ⟨v1, vs1, d1, ds1, p1, q1, rfl, rfl, rfl, h1, r1⟩ := trodAll_cons r0
  obtain ⟨v2, vs2, d2, ds2, p2, q2, rfl, rfl, rfl, h2, r2⟩ := trodAll_cons r1
  obtain ⟨v3, vs3, d3, ds3, p3, q3, rfl, rfl, rfl, h3, r3⟩ := trodAll_cons r2
  obtain ⟨v4, vs4, d4, ds4, p4, q4, rfl, rfl, rfl, h4, r4⟩ := trodAll_cons r3
  obtain ⟨v5, vs5, d5, ds5, p5, q5, rfl, rfl, rfl, h5, r5⟩ := trodAll_cons r4
  obtain ⟨v6, vs6, d6, ds6, p6, q6, rfl, rfl, rfl, h6, r6⟩ := trodAll_cons r5
  obtain ⟨v7, vs7, d7, ds7, p7, q7, rfl, rfl, rfl, h7, r7⟩ := trodAll_cons r6
  obtain ⟨rfl, rfl, rfl⟩ := trodAll_nil r7
  have hargs : args = #[v0, v1, v2, v3, v4, v5, v6, v7] := by cases args; simp_all
  subst hargs
  obtain ⟨rfl, rfl⟩ := trodVars_none hV
  obtain ⟨sa, sl, sc, rfl⟩ := okWide_slice Try.underlying22 (hval 0 22 v0 rfl rfl)
  obtain ⟨ta, tl, tc, rfl⟩ := okWide_slice Try.underlying22 (hval 1 22 v1 rfl rfl)
  obtain ⟨a, b, c, d, x, y, rfl⟩ := open_mapB (hval 2 24 v2 rfl rfl) h2
  obtain ⟨z3, rfl, b3⟩ := open_int (hval 3 3 v3 rfl rfl) h3
  obtain ⟨z4, rfl, b4⟩ := open_int (hval 4 3 v4 rfl rfl) h4
  obtain ⟨z5, rfl, b5⟩ := open_int (hval 5 3 v5 rfl rfl) h5
  obtain ⟨z6, rfl, b6⟩ := open_int (hval 6 3 v6 rfl rfl) h6
  obtain ⟨z7, rfl, b7⟩ := open_int (hval 7 3 v7 rfl rfl) h7
  have h00 := h0
  obtain ⟨fuel, hf⟩ := h00
  obtain ⟨a', N, c', A, C, n, X, Y, K, hv, ho, hN, hX, hY, hK⟩ := open_outlineB (by simpa [Value.cells] using hf)
  simp only [Value.slice.injEq] at hv
  obtain ⟨rfl, rfl, rfl⟩ := hv
  have h11 := h1
  obtain ⟨fuel2, hf2⟩ := h11
  obtain ⟨a2, N2, c2, A2, C2, n2, X2, Y2, K2, hv2, ho2, hN2, hX2, hY2, hK2⟩ := open_outlineB (by simpa [Value.cells] using hf2)
  simp only [Value.slice.injEq] at hv2
  obtain ⟨rfl, rfl, rfl⟩ := hv2
  clear hA0 hval0
  refine (ksummed_any sa sl sc A C n X Y K ta tl tc A2 C2 n2 X2 Y2 K2 a b c d x y z3 z4 z5 z6 z7 W hN ho hN2 ho2 hX hY hK hX2 hY2 hK2 b3 b4 b5 b6 b7).mono fun e W' ⟨he, bel⟩ => ?_
  subst he
  refine ⟨_, rfl, _, _, _, [], _, [], hW', trodAll_mk1 (shut_bool Try.underlying4 _), belowAll bel _ _ _ _ ?_ hA1, rfl, bel.frame _, fun h => by cases h⟩
  intro t ht
  have ht : t ∈ [22, 22, 24, 3, 3, 3, 3, 3] := ht
  have ht : t = 22 ∨ t = 24 ∨ t = 3 := by
    rcases List.mem_cons.1 ht with h | h
    · exact .inl h
    · rcases List.mem_cons.1 h with h | h
      · exact .inl h
      · rcases List.mem_cons.1 h with h | h
        · exact .inr (.inl h)
        · right; right
          repeat (rcases List.mem_cons.1 h with h | h; exact h)
          cases h
  rcases ht with rfl | rfl | rfl <;> exact ⟨by kernel_rfl, of_decide_eq_true (by kernel_rfl)⟩

theorem summed_holds : Rows.SummedSaid :=
  OpenClaim.holds_of_wide 4 Try.f4 rfl rfl rfl rfl rfl rfl rfl ⟨rfl, rfl, rfl, rfl, rfl⟩ rfl rfl rfl rfl rfl (by kernel_rfl) Try.func4 (by kernel_rfl)
    (of_decide_eq_true (by kernel_rfl)) (by unfold Func.isWrapper; first | (rw [if_pos (by decide +kernel)]; kernel_rfl) | (rw [if_neg (by decide +kernel)]; exact ⟨rfl, rfl⟩))
    (fun os started H enc _ => summed_lifted os started H enc)
#print axioms summed_holds
end Go.Proofs.Ytkhcjkmifddlbab
