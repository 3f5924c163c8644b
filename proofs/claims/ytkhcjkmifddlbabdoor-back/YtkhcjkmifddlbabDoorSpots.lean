/- Rows of spots that a call makes. -/
import Derived.Test.YtkhcjkmifddlbabDoorCrvB
import Derived.Test.YtkhcjkmifddlbabDoorHeld
namespace Go.Proofs.YtkhcjkmifddlbabDoor
open Go.RowKit Go.Deep

/-- The cells of a spot. -/
def spC (p : Int × Int) : List Value := [.int .i64 p.1, .int .i64 p.2]
theorem info_spot : (Tryd.prog.info? 65).map (fun i => (i.zero, i.size, i.bytes)) = some (some (.agg #[.int .i64 0, .int .i64 0]), 2, 16) := by kernel_rfl
theorem push_sp {w : World} {base : Nat} {v : Value} {l l' : List (Int × Int)} {p : Int × Int} {m : Nat} (h : w.ownsRow base 65 2 v m (l.flatMap spC ++ [.int .i64 p.1, .int .i64 p.2])) (hl : l' = l ++ [p]) (hm : m = l.length + 1) : w.ownsRow base 65 2 v l'.length (l'.flatMap spC) := by
  have e1 : l'.length = m := by rw [hl, hm]; simp
  have e2 : l'.flatMap spC = l.flatMap spC ++ [.int .i64 p.1, .int .i64 p.2] := by rw [hl]; simp [spC]
  rw [e1, e2]; exact h
theorem owns_mono {w : World} {base base' : Nat} {t : TypeId} {sz : Nat} {v : Value} {n : Nat} {xs : List Value} (h : w.ownsRow base t sz v n xs) (hb : base' ≤ base) : w.ownsRow base' t sz v n xs := by
  refine ⟨h.1, ?_⟩
  rcases h.2 with hn | ⟨g, cap, cur, rfl, hb', rest⟩
  · exact .inl hn
  · exact .inr ⟨g, cap, cur, rfl, Nat.le_trans hb hb', rest⟩
theorem news_sp (W : World) (cs : List Value) (t : TypeId) (H : Nat) (hH : W.heap.size = H) : ∀ (j : Nat) (u : Value), cs[j]? = some u → (W.alloc (.cells cs.toArray t)).cell? ((⟨H, 0, none⟩ : Addr).add j) = some u := by
  intro j u hj
  subst hH
  have e2 : ((⟨W.heap.size, 0, none⟩ : Addr).add j) = ⟨W.heap.size, j, none⟩ := by
    unfold Addr.add
    split
    · rename_i h; simp_all
    · simp
  have hlt : j < cs.length := by
    rcases Nat.lt_or_ge j cs.length with h | h
    · exact h
    · rw [List.getElem?_eq_none h] at hj; cases hj
  have hr := (World.rowIs_alloc W cs.toArray t (fun i => cs[i]?.getD u) (fun i hi => by simp at hi; simp [hi])).cell (i := j) (by simpa using hlt)
  rw [e2, hr]
  simp [hj]
theorem one_two (a b : Int) : ∀ u ∈ [Value.int .i64 a, .int .i64 b], u.oneCell' = true := by
  intro u hu
  simp at hu
  rcases hu with rfl | rfl <;> rfl
theorem flat2_len (l : List (Int × Int)) : (l.flatMap spC).length = l.length * 2 := by
  induction l with
  | nil => simp
  | cons x r ih => rw [List.flatMap_cons, List.length_append, ih]; simp [spC]; omega
theorem flat2_one (l : List (Int × Int)) : ∀ u ∈ l.flatMap spC, u.oneCell' = true := by
  intro u hu
  rw [List.mem_flatMap] at hu
  obtain ⟨g, _, hg⟩ := hu
  exact one_two g.1 g.2 u hg
theorem flat2_at : ∀ (l : List (Int × Int)) (i : Nat) (hi : i < l.length), (l.flatMap spC)[i * 2]? = some (.int .i64 l[i].1) ∧ (l.flatMap spC)[i * 2 + 1]? = some (.int .i64 l[i].2) := by
  intro l
  induction l with
  | nil => intro i hi; simp at hi
  | cons x r ih =>
    intro i hi
    rw [List.flatMap_cons]
    have h2 : (spC x).length = 2 := rfl
    cases i with
    | zero => simp [spC]
    | succ j =>
      have := ih j (by simpa using hi)
      simp only [List.getElem_cons_succ]
      rw [List.getElem?_append_right (by omega), List.getElem?_append_right (by omega), h2, show (j + 1) * 2 - 2 = j * 2 by omega, show (j + 1) * 2 + 1 - 2 = j * 2 + 1 by omega]
      exact this
theorem owns_sp {w : World} {base b cap : Nat} {t : TypeId} {l : List (Int × Int)} (h : w.ownsRow base t 2 (.slice (some ⟨b, 0, none⟩) l.length cap) l.length (l.flatMap spC)) (i : Nat) (hi : i < l.length) :
    w.cell? ⟨b, i * 2, none⟩ = some (.int .i64 l[i].1) ∧ w.cell? ⟨b, i * 2 + 1, none⟩ = some (.int .i64 l[i].2) := by
  have e := flat2_at l i hi
  have e0 := h.cellAt (i * 2) (by omega)
  have e1 := h.cellAt (i * 2 + 1) (by omega)
  rw [e.1] at e0
  rw [e.2] at e1
  exact ⟨e0, e1⟩
theorem owns_formN {w : World} {base : Nat} {t : TypeId} {z : Nat} {v : Value} {n : Nat} {xs : List Value} (h : w.ownsRow base t z v n xs) : ∃ ao cap, v = .slice ao n cap ∧ (0 < n → ∃ b, ao = some ⟨b, 0, none⟩) := by
  rcases h.2 with ⟨rfl, h0⟩ | ⟨g, cap, cur, rfl, _⟩
  · exact ⟨none, 0, by rw [h0], by omega⟩
  · exact ⟨some ⟨g, 0, none⟩, cap, rfl, fun _ => ⟨g, rfl⟩⟩
/-- The cells of a row of spots, as the new ones of an append. -/
theorem news_row {w : World} {base g cap : Nat} {t : TypeId} {l : List (Int × Int)} (h : w.ownsRow base t 2 (.slice (some ⟨g, 0, none⟩) l.length cap) l.length (l.flatMap spC)) : ∀ (j : Nat) (u : Value), (l.flatMap spC)[j]? = some u → w.cell? ((⟨g, 0, none⟩ : Addr).add j) = some u := by
  intro j u hj
  have e2 : ((⟨g, 0, none⟩ : Addr).add j) = ⟨g, j, none⟩ := by
    unfold Addr.add
    split
    · rename_i h; simp_all
    · simp
  have hlt : j < l.length * 2 := by
    rcases Nat.lt_or_ge j (l.length * 2) with h | h
    · exact h
    · rw [List.getElem?_eq_none (by rw [flat2_len]; exact h)] at hj; cases hj
  rw [e2, h.cellAt j hlt, hj]
end Go.Proofs.YtkhcjkmifddlbabDoor
