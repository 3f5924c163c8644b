/- The caller's step on Lay. -/
import Derived.Test.YtkhcjkmifddlbabDoorRefLz
import Derived.Test.YtkhcjkmifddlbabDoorLendG
import Derived.Test.YtkhcjkmifddlbabDoorHeldZ
import Derived.Test.YtkhcjkmifddlbabDoorPlaceC
import Derived.Test.YtkhcjkmifddlbabDoorDryB
import Derived.Test.YtkhcjkmifddlbabDoorStart
namespace Go.Proofs.YtkhcjkmifddlbabDoor
open Go.RowKit Go.Deep

/-- Bytes that a call handed out, as they are read. -/
theorem owns_byC {w : World} {base : Nat} {v : Value} {l : List Int} (h : w.ownsRow base 5 1 v l.length (byC l)) : ∃ ao cap, v = .slice ao l.length cap ∧ ByAt w ao l.length (fun k => l.getD k 0) := by
  obtain ⟨ao, cap, rfl, hao⟩ := owns_formN h
  refine ⟨ao, cap, rfl, ?_⟩
  rcases Nat.eq_zero_or_pos l.length with h0 | h0
  · exact .inl h0
  · obtain ⟨g, rfl⟩ := hao h0
    refine .inr ⟨g, 0, rfl, fun k hk => ?_⟩
    have hc := h.cellAt k (by omega)
    rw [Nat.zero_add, hc]
    simp [byC, hk]

/-- The pictures that are lent, where they lie. -/
structure LayS (w : World) (ub vb ab bb B1 B2 : Nat) (a a' : Option Addr) (n m c c' : Nat) (UW UH OW OH : Int) (U O : Nat → Int) : Prop where
  ru : w.rowIs ub 24 3 (gz UW UH (.slice a n c))
  rv : w.rowIs vb 24 3 (gz OW OH (.slice a' m c'))
  ra : w.rowIs ab 24 3 (gz UW UH (.slice (some ⟨B1, 0, none⟩) n (n + 2)))
  rb : w.rowIs bb 24 3 (gz OW OH (.slice (some ⟨B2, 0, none⟩) m (m + 2)))
  l1 : w.rowIs B1 5 (n + 2) (lentB n U)
  l2 : w.rowIs B2 5 (m + 2) (lentB m O)
theorem LayS.of_blocks {w w' : World} {ub vb ab bb B1 B2 : Nat} {a a' : Option Addr} {n m c c' : Nat} {UW UH OW OH : Int} {U O : Nat → Int} (h : LayS w ub vb ab bb B1 B2 a a' n m c c' UW UH OW OH U O)
    (e : ∀ q, q = ub ∨ q = vb ∨ q = ab ∨ q = bb ∨ q = B1 ∨ q = B2 → w'.heap[q]? = w.heap[q]?) : LayS w' ub vb ab bb B1 B2 a a' n m c c' UW UH OW OH U O :=
  ⟨h.ru.of_block (e _ (by simp)), h.rv.of_block (e _ (by simp)), h.ra.of_block (e _ (by simp)), h.rb.of_block (e _ (by simp)), h.l1.of_block (e _ (by simp)), h.l2.of_block (e _ (by simp))⟩
theorem LayS.lt {w : World} {ub vb ab bb B1 B2 : Nat} {a a' : Option Addr} {n m c c' : Nat} {UW UH OW OH : Int} {U O : Nat → Int} (h : LayS w ub vb ab bb B1 B2 a a' n m c c' UW UH OW OH U O) {q : Nat} (hq : q = ub ∨ q = vb ∨ q = ab ∨ q = bb ∨ q = B1 ∨ q = B2) : q < w.heap.size := by
  rcases hq with rfl | rfl | rfl | rfl | rfl | rfl
  · exact h.ru.lt
  · exact h.rv.lt
  · exact h.ra.lt
  · exact h.rb.lt
  · exact h.l1.lt
  · exact h.l2.lt
theorem LayS.below {w w' : World} {ub vb ab bb B1 B2 : Nat} {a a' : Option Addr} {n m c c' : Nat} {UW UH OW OH : Int} {U O : Nat → Int} (h : LayS w ub vb ab bb B1 B2 a a' n m c c' UW UH OW OH U O) (hb : Below w.heap.size w w') : LayS w' ub vb ab bb B1 B2 a a' n m c c' UW UH OW OH U O :=
  h.of_blocks fun q hq => hb.block q (h.lt hq)
/-- A picture's row is no place where bytes writes. -/
theorem gray_not {w : World} {h : Nat} {s : HS} {x : Value} (H : HeldInv w h s) (hx : ByRow w x) {q : Nat} {f : Nat → Value} (hr : w.rowIs q 24 3 f) : ¬ byteS h s x q := by
  rintro (rfl | h1 | h1)
  · have := row_ty H.wd; rw [row_ty hr] at this; simp at this
  · have := owns_ty H.oB h1; rw [row_ty hr] at this; simp at this
  · have := (hx.lt h1).2; rw [row_ty hr] at this; simp at this
theorem byte_not {w : World} {h k : Nat} {s : HS} {x : Value} (H : HeldInv w h s) {q : Nat} {f : Nat → Value} (hr : w.rowIs q 5 k f) (hne : x.ownBlock ≠ some q) : ¬ byteS h s x q := by
  rintro (rfl | h1 | h1)
  · have := row_ty H.wd; rw [row_ty hr] at this; simp at this
  · have := owns_ty H.oB h1; rw [row_ty hr] at this; simp at this
  · exact hne h1
theorem LayS.held {w w' : World} {h : Nat} {s : HS} {x : Value} {ub vb ab bb B1 B2 : Nat} {a a' : Option Addr} {n m c c' : Nat} {UW UH OW OH : Int} {U O : Nat → Int} (L : LayS w ub vb ab bb B1 B2 a a' n m c c' UW UH OW OH U O) (H : HeldInv w h s) (hx : ByRow w x) (hT : Touch (byteS h s x) w w') (h1 : x.ownBlock ≠ some B1) (h2 : x.ownBlock ≠ some B2) : LayS w' ub vb ab bb B1 B2 a a' n m c c' UW UH OW OH U O :=
  ⟨hT.row L.ru (gray_not H hx L.ru), hT.row L.rv (gray_not H hx L.rv), hT.row L.ra (gray_not H hx L.ra), hT.row L.rb (gray_not H hx L.rb), hT.row L.l1 (byte_not H L.l1 h1), hT.row L.l2 (byte_not H L.l2 h2)⟩
/-- A picture's row is none of those that are held. -/
theorem gray_not_used {w : World} {h : Nat} {s : HS} (H : HeldInv w h s) {q : Nat} {f : Nat → Value} (hr : w.rowIs q 24 3 f) : ¬ Used h s q := by
  have ht := row_ty hr
  intro u
  rcases u with rfl | u | u | u | ⟨x, hx, rfl⟩ | ⟨x, hx, rfl⟩ | ⟨x, hx, i, hi, rfl⟩ | ⟨x, hx, hb⟩ | u | u | ⟨x, hx, hb⟩ | ⟨x, hx, hb⟩ | ⟨x, hx, i, hi, rfl⟩ | u | ⟨x, hx, hb⟩
  · rw [row_ty H.wd] at ht; simp at ht
  · rw [owns_ty H.oP u] at ht; simp at ht
  · rw [owns_ty H.oO u] at ht; simp at ht
  · rw [owns_ty H.oS u] at ht; simp at ht
  · rw [row_ty (H.eP x hx)] at ht; simp at ht
  · rw [row_ty (H.eO x hx)] at ht; simp at ht
  · rw [row_ty (H.eI x hx i hi)] at ht; simp at ht
  · rw [row_ty (H.eS x hx _ hb)] at ht; simp at ht
  · rw [owns_ty H.oT u] at ht; simp at ht
  · rw [owns_ty H.oR u] at ht; simp at ht
  · rw [row_ty (H.eT x hx _ hb)] at ht; simp at ht
  · rw [row_ty (H.eR x hx _ hb)] at ht; simp at ht
  · rw [row_ty (H.eJ x hx i hi)] at ht; simp at ht
  · rw [owns_ty H.oB u] at ht; simp at ht
  · rw [rowIz_ty (H.eB x hx _ hb)] at ht; simp at ht
/-- What bytes writes lies behind the caller's world, or is held already. -/
theorem byteS_ge {w : World} {h B0 : Nat} {s : HS} {x : Value} (H : HeldInv w h s) (hh : B0 ≤ h) (hx : ∀ q, x.ownBlock = some q → B0 ≤ q) {q : Nat} (hq : byteS h s x q) : B0 ≤ q := by
  rcases hq with rfl | hq | hq
  · exact hh
  · have := (H.oB.lt q hq).1; omega
  · exact hx q hq