/- The statement TextedCardSaid, proved. -/
import Derived.Test.YtkhcjkmifddlbabDoorOpenG
import Derived.Test.YtkhcjkmifddlbabDoorTextedW
import Derived.Test.YtkhcjkmifddlbabDoorTie
import Derived.Test.YtkhcjkmifddlbabDoorCards
import Derived.ChangeMaps5
import Derived.LaidHandle
import Derived.LaidMore
namespace Go.Proofs.YtkhcjkmifddlbabDoor
open Go.ChangeShapes Go.WideShapes Go.ChangeAt Go.RowKit Go.Deep

theorem reach_ltT : reachBytes ≤ 140737488355328 := by decide

section
variable {H : Type} {enc : TypeId × Value → H} {w : World} {spare : Nat → Bool} {held : Bool}
set_option maxRecDepth 100000 in
/-- A picture that came in: its bytes are no more than the reach. -/
theorem open_grayArgT {r : Reach} {b0 j : Nat} {v : Value} {d : DataW H} {p : List MemPlace} {ts : List TypeId} {ds : List (DataW H)} (hv : Value.okWide Tryd.prog w r b0 24 v) (h : DataW.Trod enc Tryd.prog w 0 spare held 24 v d p)
    (hz : (DataW.weightsEach Tryd.prog ts ds).all (· ≤ reachBytes) = true) (ht : ts[j]? = some 24) (hd : ds[j]? = some d) :
    ∃ (W HH : Int) (a : Option Addr) (n c : Nat) (X : Nat → Int), v = .agg #[.int .i64 W, .int .i64 HH, .slice a n c] ∧ ByAt w a n X ∧ (∀ k, k < n → 0 ≤ X k ∧ X k ≤ 255) ∧ n ≤ 140737488355328 := by
  obtain ⟨cs, rfl, hsz⟩ := okWide_struct Tryd.underlying24 hv
  obtain ⟨fuel, hf⟩ := h
  obtain ⟨W, HH, a, n, c, X, hcs, hb, hbd, hdd⟩ := open_gray hf
  refine ⟨W, HH, a, n, c, X, ?_, hb, hbd, ?_⟩
  · simp [Value.cells] at hcs
    obtain ⟨l⟩ := cs
    simp at hcs
    rw [hcs]
  · rcases hdd with h0 | ⟨e0, e1, D, S, hD, hl⟩
    · omega
    · have hD : d = .agg [e0, e1, .slice D S] := hD
      subst hD
      have hm : (D.length + S.length) * Tryd.prog.bytesOf 5 ∈ DataW.weights Tryd.prog 24 (.agg [e0, e1, DataW.slice D S] : DataW H) := by
        simp [DataW.weights, DataW.weightsEach, Tryd.underlying24, Tryd.underlying22]
      have h1 := List.all_eq_true.1 hz _ (DataW.weights_mem_each ht hd _ hm)
      rw [bytes_by] at h1
      have h1 : (D.length + S.length) * 1 ≤ reachBytes := by simpa using h1
      have h2 := reach_ltT
      omega
set_option maxRecDepth 100000 in
/-- A text that came in: no longer than the reach. -/
theorem open_textArg {r : Reach} {b0 j : Nat} {v : Value} {d : DataW H} {p : List MemPlace} {ts : List TypeId} {ds : List (DataW H)} (hv : Value.okWide Tryd.prog w r b0 9 v) (h : DataW.Trod enc Tryd.prog w 0 spare held 9 v d p)
    (hz : (DataW.weightsEach Tryd.prog ts ds).all (· ≤ reachBytes) = true) (ht : ts[j]? = some 9) (hd : ds[j]? = some d) :
    ∃ s : ByteArray, v = .string s ∧ (s.size : Int) ≤ 9000000000000000000 := by
  obtain ⟨s, rfl, rfl, _, _⟩ := Go.ChangeMaps.open_string Tryd.underlying9 hv h
  refine ⟨s, rfl, ?_⟩
  have hm : s.data.toList.length ∈ DataW.weights Tryd.prog 9 (.lit (.string s.data.toList) : DataW H) := by
    simp [DataW.weights]
  have h1 := List.all_eq_true.1 hz _ (DataW.weights_mem_each ht hd _ hm)
  have h1 : s.data.toList.length ≤ reachBytes := by simpa using h1
  have h2 := reach_ltT
  have h3 : s.data.toList.length = s.size := by simp
  omega
end

def laidT : List (String × DataW Unit) := [("math/bits.deBruijn32tab", Rows.laid_math_bits_deBruijn32tab), ("math/bits.deBruijn64tab", Rows.laid_math_bits_deBruijn64tab), ("internal/strconv.uint64pow10", Rows.laid_internal_strconv_uint64pow10)]
set_option maxRecDepth 100000 in
theorem door_metT (os : Os) (args : Array Value) : laidMetH Tryd.prog laidT ((World.doorLaid Tryd.prog 24 os).forCall (fun _ _ => 0) ⟨#[], args, []⟩).memory :=
  laidMetH_of_parts3 (fuel := 8) (laidMet_of_run' 8 (by kernel_rfl) (by kernel_rfl)) (by kernel_rfl) (by kernel_rfl)

set_option maxRecDepth 100000 in
theorem texted_lifted (os : Os) (started : os.Started) (H : Type) (enc : TypeId × Value → H) :
    ReturnsInHanded {} Tryd.checked os 3 .any (fun w args => (Rows.textedSpec.pre enc Tryd.prog Tryd.f3 [] false w args ∧ laidMetH Tryd.prog laidT w) ∧ sizedMet enc Tryd.prog Tryd.f3 (OpenSpec.ofChange Rows.textedSpec) false w args)
      (Rows.textedSpec.post enc Tryd.prog Tryd.f3 false true false false) := by
  refine returnsInHanded_of_change_and (C := Tryd.checked) (X := fun w _ => laidMetH Tryd.prog laidT w) (fun _ _ _ hh h => h.of_heap hh) own_k started (by kernel_rfl) Tryd.func3
    (ChangeSpec.witness_shaped (enc := enc) (C := Tryd.checked) (os := os) (X := fun w _ => laidMetH Tryd.prog laidT w) false (World.doorLaid Tryd.prog 24 os) #[.agg #[.int .i64 0, .int .i64 0, .slice none 0 0], .string ⟨#[]⟩] 8 rfl (World.shaped_of_RefB (by kernel_rfl) (by kernel_rfl)) (by kernel_rfl) (by kernel_rfl) (by kernel_rfl) (door_metT os _)) ?_
  intro W base args ds gs before hval0 hW _ hsz _ _
  have hval : ∀ (j : Nat) t v, Tryd.f3.params[j]? = some t → args[j]? = some v → Value.okWide Tryd.prog W .any base t v := hval0
  have hW' := hW
  obtain ⟨p, q, hA0, hV, rfl, hfz, hnd⟩ := hW
  have hA : DataW.TrodAll enc Tryd.prog W 0 (fun _ => true) true Tryd.f3.params.toList args.toList ds p := hA0
  rw [Tryd.params3] at hA hval
  have hA1 := hA
  obtain ⟨v0, vs0, d0, ds0, p0, q0, hargs, rfl, rfl, h0, r0⟩ := trodAll_cons hA
  obtain ⟨v1, vs1, d1, ds1, p1, q1, rfl, rfl, rfl, h1, r1⟩ := trodAll_cons r0
  obtain ⟨rfl, rfl, rfl⟩ := trodAll_nil r1
  have hargs : args = #[v0, v1] := by cases args; simp_all
  subst hargs
  obtain ⟨rfl, rfl⟩ := trodVars_none hV
  have hsz' : (DataW.weightsEach Tryd.prog ([24, 9] ++ Rows.textedSpec.plain.varTypes Tryd.prog) ([d0, d1] ++ [])).all (· ≤ reachBytes) = true := by
    have := hsz
    rw [Tryd.params3] at this
    exact this
  obtain ⟨UW, UH, a, n, c, U, rfl, hU, bU, hn⟩ := open_grayArgT (j := 0) (hval 0 24 v0 rfl rfl) h0 hsz' rfl rfl
  obtain ⟨t, rfl, ht⟩ := open_textArg (j := 1) (hval 1 9 v1 rfl rfl) h1 hsz' rfl rfl
  clear hA0 hval0
  refine (texted_any a n c UW UH U t W hn ht hU bU).mono fun e W' ⟨he, bel⟩ => ?_
  subst he
  refine ⟨_, rfl, _, _, _, [], _, [], hW', trodAll_mk1 (shut_bool Tryd.underlying4 _), belowAll bel _ _ _ _ ?_ hA1, rfl, bel.frame _, fun h => by cases h⟩
  intro t ht
  have ht : t ∈ [24, 9] := ht
  have ht : t = 24 ∨ t = 9 := by
    rcases List.mem_cons.1 ht with h | h
    · exact .inl h
    · rcases List.mem_cons.1 h with h | h
      · exact .inr h
      · cases h
  rcases ht with rfl | rfl <;> exact ⟨by kernel_rfl, of_decide_eq_true (by kernel_rfl)⟩

theorem texted_row_holds : Rows.TextedSaid :=
  OpenClaim.holds_of_wide 3 Tryd.f3 rfl rfl rfl rfl rfl rfl rfl ⟨rfl, rfl, rfl, rfl, rfl⟩ rfl rfl rfl rfl rfl (by kernel_rfl) Tryd.func3 (by kernel_rfl)
    (of_decide_eq_true (by kernel_rfl)) (by unfold Func.isWrapper; first | (rw [if_pos (by decide +kernel)]; kernel_rfl) | (rw [if_neg (by decide +kernel)]; exact ⟨rfl, rfl⟩))
    (fun os started H enc _ => texted_lifted os started H enc)
theorem texted_holds : Rows.TextedCardSaid :=
  Claim7.holds_tied_plain_at .later [] [.data, .data, .data] true Rows.textedCard.stood.harness false
    texted_row_holds (fun _ h => by cases h) (by kernel_rfl) (fun _ h => by cases h) texted_row_tie rfl ⟨rfl, rfl⟩ (by kernel_rfl) rfl
    (fun f fn hf hfn => by
      obtain rfl : f = 3 := Option.some.inj ((show Tryd.prog.funcNamed "glyph/glyphlaw.Texted" = some 3 by kernel_rfl).symm.trans hf) |>.symm
      obtain rfl : fn = Tryd.f3 := (Option.some.inj (Tryd.func3.symm.trans hfn)).symm
      exact ⟨by kernel_rfl, fun j t ht => by
        rw [Tryd.params3] at ht
        have hm : t ∈ [24, 9] := by simpa using Array.mem_of_getElem? ht
        have hall : ([24, 9].all fun u => !Tryd.prog.wantsStandIn u) = true := by kernel_rfl
        exact (show Tryd.prog.wantsStandIn t = false by simpa using List.all_eq_true.1 hall t hm)⟩)
    (by kernel_rfl)
#print axioms texted_holds
end Go.Proofs.YtkhcjkmifddlbabDoor
