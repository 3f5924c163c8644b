/- Plain: both walks give the same segments. -/
import Derived.Test.YtkhcjkmifddlbaaSegs
namespace Go.Proofs.Ytkhcjkmifddlbaa
namespace Num
section
variable {X Y K : Nat → Int} {n : Nat}

theorem exists_on (hn : 2 ≤ n) (hs : ∀ i, i < n → badB K n i = false) : ∃ t, t < 2 * n ∧ onB X Y K n t = true := by
  by_cases hall : ∃ t, t < 2 * n ∧ onB X Y K n t = true
  · exact hall
  exfalso
  have hno : ∀ t, t < 2 * n → onB X Y K n t = false := fun t ht => by
    cases h : onB X Y K n t with
    | false => rfl
    | true => exact absurd ⟨t, ht, h⟩ hall
  have k0 : ∀ i, i < n → K i ≠ 0 := fun i hi h => by
    have := hno (2 * i) (by omega)
    simp only [onB, stp, show 2 * i % 2 = 0 by omega, if_pos, show 2 * i / 2 = i by omega, Nat.mod_eq_of_lt hi, h] at this
    simp at this
  have q0 : ¬ (K 0 = 1 ∧ K 1 = 1) := fun h => by
    have := hno 1 (by omega)
    simp only [onB, stp, show ¬ 1 % 2 = 0 by omega, show 1 / 2 = 0 by omega, Nat.zero_mod, Nat.zero_add, Nat.mod_eq_of_lt (show 1 < n by omega), h] at this
    simp at this
  have m0 := may_all (by omega) hs 0
  have m1 := may_all (by omega) hs 1
  have z0 := k0 0 (by omega)
  have z1 := k0 1 (by omega)
  have za := k0 ((0 + n - 1) % n) (Nat.mod_lt _ (by omega))
  have zb := k0 ((1 + n - 1) % n) (Nat.mod_lt _ (by omega))
  have zc := k0 ((0 + 1) % n) (Nat.mod_lt _ (by omega))
  have zd := k0 ((1 + 1) % n) (Nat.mod_lt _ (by omega))
  rw [Nat.zero_mod] at m0
  rw [Nat.mod_eq_of_lt (show 1 < n by omega)] at m1
  simp only [mayB, Bool.or_eq_true, Bool.and_eq_true, beq_iff_eq] at m0 m1
  omega

theorem segs_eq (hn : 2 ≤ n) (hs : ∀ i, i < n → badB K n i = false) :
    ∃ (f : Nat) (p : Int × Int × Int), (imp X Y K n)[f]? = some p ∧ p.2.2 = 0 ∧ (∀ (j : Nat) (q : Int × Int × Int), j < f → (imp X Y K n)[j]? = some q → q.2.2 ≠ 0) ∧
      walkL ((imp X Y K n).drop (f + 1) ++ (imp X Y K n).take (f + 1)) (initS p) = refRing X Y K n := by
  obtain ⟨t, ht, hon⟩ := exists_on (X := X) (Y := Y) hn hs
  rcases firstI_cases (onB X Y K n) (2 * n) with ⟨_, hno⟩ | ⟨t0, ht0, hon0, hno, _⟩
  · rw [hno t ht] at hon; cases hon
  have hp : ∃ p, stp X Y K n t0 = some p ∧ p.2.2 = 0 := by
    unfold onB at hon0
    cases h : stp X Y K n t0 with
    | none => simp [h] at hon0
    | some p => exact ⟨p, rfl, by simpa [h] using hon0⟩
  obtain ⟨p, hp, hp0⟩ := hp
  have hR : imp X Y K n = stops X Y K n 0 t0 ++ (p :: stops X Y K n (t0 + 1) (2 * n - t0 - 1)) := by
    rw [imp_eq, List.range_eq_range']
    show stops X Y K n 0 (2 * n) = _
    rw [show 2 * n = t0 + (1 + (2 * n - t0 - 1)) by omega, stops_add, stops_add, stops_one, Nat.zero_add, hp]
    rw [show t0 + (1 + (2 * n - t0 - 1)) - t0 - 1 = 2 * n - t0 - 1 by omega]
    rfl
  have hlen : (imp X Y K n).drop ((stops X Y K n 0 t0).length + 1) = stops X Y K n (t0 + 1) (2 * n - t0 - 1) := by
    rw [hR, List.drop_append, List.drop_of_length_le (by omega), List.nil_append, show (stops X Y K n 0 t0).length + 1 - (stops X Y K n 0 t0).length = 1 by omega]
    rfl
  have htk : (imp X Y K n).take ((stops X Y K n 0 t0).length + 1) = stops X Y K n 0 t0 ++ [p] := by
    rw [hR, List.take_append, List.take_of_length_le (by omega), show (stops X Y K n 0 t0).length + 1 - (stops X Y K n 0 t0).length = 1 by omega]
    rfl
  refine ⟨(stops X Y K n 0 t0).length, p, ?_, hp0, ?_, ?_⟩
  · rw [hR, List.getElem?_append_right (Nat.le_refl _), Nat.sub_self]; rfl
  · intro j q hj hq
    rw [hR, List.getElem?_append_left hj] at hq
    have hmem := List.mem_of_getElem? hq
    unfold stops at hmem
    rw [List.mem_filterMap] at hmem
    obtain ⟨u, hu, hst⟩ := hmem
    rw [List.mem_range'_1] at hu
    have := hno u (by omega)
    intro h0
    simp [onB, hst, h0] at this
  · rw [hlen, htk]
    have e1 : stops X Y K n 0 t0 ++ [p] = stops X Y K n (2 * n) (t0 + 1) := by
      have h1 := stops_period (X := X) (Y := Y) (K := K) (n := n) 0 (t0 + 1)
      rw [Nat.zero_add] at h1
      rw [h1, stops_add, stops_one, Nat.zero_add, hp]
      rfl
    have e2 : stops X Y K n (t0 + 1) (2 * n - t0 - 1) ++ stops X Y K n (2 * n) (t0 + 1) = stops X Y K n (t0 + 1) (2 * n) := by
      have h1 := stops_add (X := X) (Y := Y) (K := K) (n := n) (t0 + 1) (2 * n - t0 - 1) (t0 + 1)
      rw [show 2 * n - t0 - 1 + (t0 + 1) = 2 * n by omega, show t0 + 1 + (2 * n - t0 - 1) = 2 * n by omega] at h1
      exact h1.symm
    rw [e1, e2]
    have hE : onB X Y K n (t0 + 2 * n) = true := by rw [onB_period]; exact hon0
    have hfrom : fromV X Y K n t0 = scanR X Y K n (t0 + 2 * n + 1 - (t0 + 1)) (t0 + 1) (initS p) 0 := by
      unfold fromV
      rw [stp_stv hp, show t0 + 2 * n + 1 - (t0 + 1) = 2 * n by omega]
    have h := walk_ref (X := X) (Y := Y) (show 0 < n by omega) hs (t0 + 2 * n) hE (2 * n) (t0 + 1) t0 0 (initS p) (by omega) (by omega) (by omega) (by omega) hfrom (.inl ⟨rfl, rfl⟩) (by omega)
    rw [h]
    unfold refRing
    have hz : ∀ a d, (∀ u, a ≤ u → u < a + d → onB X Y K n u = false) → (List.range' a d).filterMap (refF X Y K n) = [] := by
      intro a d hu
      rw [List.filterMap_eq_nil_iff]
      intro u hm
      rw [List.mem_range'_1] at hm
      simp [refF, hu u hm.1 hm.2]
    have r1 : List.range (2 * n) = List.range' 0 t0 ++ (t0 :: List.range' (t0 + 1) (2 * n - t0 - 1)) := by
      rw [List.range_eq_range', show 2 * n = t0 + (2 * n - t0 - 1 + 1) by omega, ← List.range'_append_1, List.range'_succ, Nat.zero_add]
      rw [show t0 + (2 * n - t0 - 1 + 1) - t0 - 1 = 2 * n - t0 - 1 by omega]
    have r2 : List.range' (t0 + 1) (2 * n - 1) = List.range' (t0 + 1) (2 * n - t0 - 1) ++ List.range' (2 * n) t0 := by
      have := List.range'_append_1 (s := t0 + 1) (m := 2 * n - t0 - 1) (n := t0)
      rw [show t0 + 1 + (2 * n - t0 - 1) = 2 * n by omega, show 2 * n - t0 - 1 + t0 = 2 * n - 1 by omega] at this
      exact this.symm
    rw [r1, r2, List.filterMap_append, List.filterMap_append, List.filterMap_cons]
    rw [hz 0 t0 (fun u _ hu => hno u (by omega)), hz (2 * n) t0 (fun u h1 h2 => by
      have := onB_period (X := X) (Y := Y) (K := K) (n := n) (u - 2 * n)
      rw [show u - 2 * n + 2 * n = u by omega] at this
      rw [this]; exact hno _ (by omega))]
    simp [refF, hon0]

theorem walkL_length : ∀ (l : List (Int × Int × Int)) (g : Sg), (walkL l g).length ≤ l.length := by
  intro l
  induction l with
  | nil => intro g; simp [walkL]
  | cons p r ih =>
    intro g
    simp only [walkL]
    split
    · have := ih (initS p); simp; omega
    · have := ih (addP g p); simp; omega

theorem imp_length (m : Nat) : ((List.range m).flatMap (impF X Y K n)).length ≤ 2 * m := by
  induction m with
  | zero => simp
  | succ m ih =>
    rw [List.range_succ, List.flatMap_append, List.length_append]
    have : ((List.flatMap (impF X Y K n) [m])).length ≤ 2 := by
      simp [impF]; split <;> simp
    omega
end
end Num
end Go.Proofs.Ytkhcjkmifddlbaa
