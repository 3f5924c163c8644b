/- The statement LaidSaid, proved. -/
import Derived.Test.YtkhcjkmifddlbabOpenG
import Derived.Test.YtkhcjkmifddlbabLaidW
namespace Go.Proofs.Ytkhcjkmifddlbab
open Go.ChangeShapes Go.WideShapes Go.ChangeAt Go.RowKit Go.Deep

theorem reach_lt : reachBytes ≤ 140737488355328 := by decide

section
variable {H : Type} {enc : TypeId × Value → H} {w : World} {spare : Nat → Bool} {held : Bool}
set_option maxRecDepth 100000 in
/-- A picture that came in: its bytes are no more than the reach. -/
theorem open_grayArg {r : Reach} {b0 j : Nat} {v : Value} {d : DataW H} {p : List MemPlace} {ts : List TypeId} {ds : List (DataW H)} (hv : Value.okWide Try.prog w r b0 57 v) (h : DataW.Trod enc Try.prog w 0 spare held 57 v d p)
    (hz : (DataW.weightsEach Try.prog ts ds).all (· ≤ reachBytes) = true) (ht : ts[j]? = some 57) (hd : ds[j]? = some d) :
    ∃ (W HH : Int) (a : Option Addr) (n c : Nat) (X : Nat → Int), v = .agg #[.int .i64 W, .int .i64 HH, .slice a n c] ∧ ByAt w a n X ∧ (∀ k, k < n → 0 ≤ X k ∧ X k ≤ 255) ∧ n ≤ 140737488355328 := by
  obtain ⟨cs, rfl, hsz⟩ := okWide_struct Try.underlying57 hv
  obtain ⟨fuel, hf⟩ := h
  obtain ⟨W, HH, a, n, c, X, hcs, hb, hbd, hdd⟩ := open_gray hf
  refine ⟨W, HH, a, n, c, X, ?_, hb, hbd, ?_⟩
  · simp [Value.cells] at hcs
    obtain ⟨l⟩ := cs
    simp at hcs
    rw [hcs]
  · rcases hdd with h0 | ⟨e0, e1, D, S, hD, hl⟩
    · omega
    · have hD : d = .agg [e0, e1, .slice D S] := hD
      subst hD
      have hm : (D.length + S.length) * Try.prog.bytesOf 5 ∈ DataW.weights Try.prog 57 (.agg [e0, e1, DataW.slice D S] : DataW H) := by
        simp [DataW.weights, DataW.weightsEach, Try.underlying57, Try.underlying55]
      have h1 := List.all_eq_true.1 hz _ (DataW.weights_mem_each ht hd _ hm)
      rw [bytes_by] at h1
      have h1 : (D.length + S.length) * 1 ≤ reachBytes := by simpa using h1
      have h2 := reach_lt
      omega
end

set_option maxRecDepth 100000 in
theorem laid_lifted (os : Os) (started : os.Started) (H : Type) (enc : TypeId × Value → H) :
    ReturnsInHanded {} Try.checked os 6 .any (Rows.laidSpec.pre6 enc Try.prog Try.f6 Rows.laidRow.domain false) (Rows.laidSpec.post enc Try.prog Try.f6 false true false false) := by
  refine returnsInHanded_of_change_sized (C := Try.checked) own_k started (by kernel_rfl) Try.func6
    (ChangeSpec.witness6 (enc := enc) (C := Try.checked) false ⟨#[], #[.agg #[.int .i64 0, .int .i64 0, .slice none 0 0], .agg #[.int .i64 0, .int .i64 0, .slice none 0 0], .int .i64 0, .int .i64 0, .int .i64 0], []⟩ 8 (by kernel_rfl) (by kernel_rfl) (by kernel_rfl) (by kernel_rfl)) ?_
  intro W base args ds gs before hval0 hW hcnd hsz _
  have hval : ∀ (j : Nat) t v, Try.f6.params[j]? = some t → args[j]? = some v → Value.okWide Try.prog W .any base t v := hval0
  have hW' := hW
  obtain ⟨p, q, hA0, hV, rfl, hfz, hnd⟩ := hW
  have hA : DataW.TrodAll enc Try.prog W 0 (fun _ => true) true Try.f6.params.toList args.toList ds p := hA0
  rw [Try.params6] at hA hval
  have hA1 := hA
  obtain ⟨v0, vs0, d0, ds0, p0, q0, hargs, rfl, rfl, h0, r0⟩ := trodAll_cons hA
  obtain ⟨v1, vs1, d1, ds1, p1, q1, rfl, rfl, rfl, h1, r1⟩ := trodAll_cons r0
  obtain ⟨v2, vs2, d2, ds2, p2, q2, rfl, rfl, rfl, h2, r2⟩ := trodAll_cons r1
  obtain ⟨v3, vs3, d3, ds3, p3, q3, rfl, rfl, rfl, h3, r3⟩ := trodAll_cons r2
  obtain ⟨v4, vs4, d4, ds4, p4, q4, rfl, rfl, rfl, h4, r4⟩ := trodAll_cons r3
  obtain ⟨rfl, rfl, rfl⟩ := trodAll_nil r4
  have hargs : args = #[v0, v1, v2, v3, v4] := by cases args; simp_all
  subst hargs
  obtain ⟨rfl, rfl⟩ := trodVars_none hV
  have hsz' : (DataW.weightsEach Try.prog ([57, 57, 3, 3, 3] ++ Rows.laidSpec.plain.varTypes Try.prog) ([d0, d1, d2, d3, d4] ++ [])).all (· ≤ reachBytes) = true := by
    have := hsz
    rw [Try.params6] at this
    exact this
  obtain ⟨UW, UH, a, n, c, U, rfl, hU, bU, hn⟩ := open_grayArg (j := 0) (hval 0 57 v0 rfl rfl) h0 hsz' rfl rfl
  obtain ⟨OW, OH, a', m, c', O, rfl, hO, bO, hm⟩ := open_grayArg (j := 1) (hval 1 57 v1 rfl rfl) h1 hsz' rfl rfl
  obtain ⟨z2, rfl, _⟩ := open_int (hval 2 3 v2 rfl rfl) h2
  obtain ⟨z3, rfl, _⟩ := open_int (hval 3 3 v3 rfl rfl) h3
  obtain ⟨z4, rfl, _⟩ := open_int (hval 4 3 v4 rfl rfl) h4
  clear hA0 hval0
  refine (laid_any a a' n m c c' UW UH OW OH z2 z3 z4 U O W hn hm hU hO bU bO).mono fun e W' ⟨he, bel⟩ => ?_
  subst he
  refine ⟨_, rfl, _, _, _, [], _, [], hW', trodAll_mk1 (shut_bool Try.underlying4 _), belowAll bel _ _ _ _ ?_ hA1, rfl, bel.frame _, fun h => by cases h⟩
  intro t ht
  have ht : t ∈ [57, 57, 3, 3, 3] := ht
  have ht : t = 57 ∨ t = 3 := by
    rcases List.mem_cons.1 ht with h | h
    · exact .inl h
    · rcases List.mem_cons.1 h with h | h
      · exact .inl h
      · right
        repeat (rcases List.mem_cons.1 h with h | h; exact h)
        cases h
  rcases ht with rfl | rfl <;> exact ⟨by kernel_rfl, of_decide_eq_true (by kernel_rfl)⟩

theorem laid_holds : Rows.LaidSaid :=
  OpenClaim.holds_of_wide 6 Try.f6 rfl rfl rfl rfl rfl rfl rfl ⟨rfl, rfl, rfl, rfl, rfl⟩ rfl rfl rfl rfl rfl (by kernel_rfl) Try.func6 (by kernel_rfl)
    (of_decide_eq_true (by kernel_rfl)) (by unfold Func.isWrapper; first | (rw [if_pos (by decide +kernel)]; kernel_rfl) | (rw [if_neg (by decide +kernel)]; exact ⟨rfl, rfl⟩))
    (fun os started H enc _ => laid_lifted os started H enc)
#print axioms laid_holds
end Go.Proofs.Ytkhcjkmifddlbab
