/- withImplied. -/
import Derived.Test.YtkhcjkmifddlbaaSegsB
import Derived.Test.YtkhcjkmifddlbaaLend
import Derived.Deep.AppendLies
namespace Go.Proofs.Ytkhcjkmifddlbaa
open Go.RowKit Go.Deep

/-- The cells of a point. -/
def ptC (p : Int × Int × Int) : List Value := [.int .i64 p.1, .int .i64 p.2.1, .int .i64 p.2.2]
/-- The points of the first k points' list, the implied ones among them. -/
def impU (X Y K : Nat → Int) (n k : Nat) : List (Int × Int × Int) := (List.range k).flatMap (Num.impF X Y K n)
theorem impU_succ (X Y K : Nat → Int) (n k : Nat) : impU X Y K n (k + 1) = impU X Y K n k ++ Num.impF X Y K n k := by
  unfold impU; rw [List.range_succ, List.flatMap_append]; simp
theorem impU_len (X Y K : Nat → Int) (n k : Nat) : (impU X Y K n k).length ≤ 2 * k := Num.imp_length k

/-- One point more in a row of points that the call owns. -/
theorem push_pt {w : World} {base : Nat} {v : Value} {l l' : List (Int × Int × Int)} {p : Int × Int × Int} {m : Nat} (h : w.ownsRow base 133 3 v m (l.flatMap ptC ++ [.int .i64 p.1, .int .i64 p.2.1, .int .i64 p.2.2])) (hl : l' = l ++ [p]) (hm : m = l.length + 1) : w.ownsRow base 133 3 v l'.length (l'.flatMap ptC) := by
  have e1 : l'.length = m := by rw [hl, hm]; simp
  have e2 : l'.flatMap ptC = l.flatMap ptC ++ [.int .i64 p.1, .int .i64 p.2.1, .int .i64 p.2.2] := by rw [hl]; simp [ptC]
  rw [e1, e2]; exact h

theorem owns_ne_new {w : World} {base : Nat} {t : TypeId} {sz : Nat} {v : Value} {n : Nat} {xs : List Value} (h : w.ownsRow base t sz v n xs) {b : Nat} (hb : w.heap.size ≤ b) : some b ≠ v.ownBlock := fun e => by
  have := (h.lt b e.symm).2; omega

theorem news_new (W : World) (cs : List Value) (t : TypeId) (H : Nat) (hH : W.heap.size = H) : ∀ (j : Nat) (u : Value), cs[j]? = some u → (W.alloc (.cells cs.toArray t)).cell? ((⟨H, 0, none⟩ : Addr).add j) = some u := by
  intro j u hj
  subst hH
  have e2 : ((⟨W.heap.size, 0, none⟩ : Addr).add j) = ⟨W.heap.size, j, none⟩ := by
    unfold Addr.add
    split
    · rename_i h; simp_all
    · simp
  have hlt : j < cs.length := by
    rcases Nat.lt_or_ge j cs.length with h | h
    · exact h
    · rw [List.getElem?_eq_none h] at hj; cases hj
  have hr := (World.rowIs_alloc W cs.toArray t (fun i => cs[i]?.getD u) (fun i hi => by simp at hi; simp [hi])).cell (i := j) (by simpa using hlt)
  rw [e2, hr]
  simp [hj]
theorem one_ints (a b c : Int) : ∀ u ∈ [Value.int .i64 a, .int .i64 b, .int .i64 c], u.oneCell' = true := by
  intro u hu
  simp at hu
  rcases hu with rfl | rfl | rfl <;> rfl

theorem impF_no {X Y K : Nat → Int} {n k : Nat} (h : ¬ (K k = 1 ∧ K (Num.nx n k) = 1)) : Num.impF X Y K n k = [(2 * X k, 2 * Y k, K k)] := by unfold Num.impF; rw [if_neg h]
theorem impF_yes {X Y K : Nat → Int} {n k : Nat} (h : K k = 1 ∧ K (Num.nx n k) = 1) : Num.impF X Y K n k = [(2 * X k, 2 * Y k, K k)] ++ [(X k + X (Num.nx n k), Y k + Y (Num.nx n k), 0)] := by unfold Num.impF; rw [if_pos h]; rfl

set_option maxRecDepth 100000 in
set_option maxHeartbeats 2000000 in
theorem withImplied_any (a : Option Addr) (n c : Nat) (X Y K : Nat → Int) (w : World) (hn : n ≤ 2097152) (hX : ∀ i, i < n → -4096 ≤ X i ∧ X i ≤ 4096) (hY : ∀ i, i < n → -4096 ≤ Y i ∧ Y i ≤ 4096) (hr : RingAt w a n X Y K) :
    Calls Try.prog 159 #[.slice a n c] w fun e w' => ∃ v, e = .returned v ∧ Below w.heap.size w w' ∧ w'.ownsRow w.heap.size 133 3 v (impU X Y K n n).length ((impU X Y K n n).flatMap ptC) := by
  have HR := hide hr
  have HX := hide hX
  have HY := hide hY
  clear hr hX hY
  obtain ⟨i0, hi0, hz0, hz1, hz2⟩ := info_parts info_pt
  go_enter Try.func159, Try.ntmps159
  go_wp2_with fail
  go_loopw [3, 9] (fun v t wr => ∃ k : Nat, k ≤ n ∧ t = .int .i64 k ∧ Below w.heap.size w wr ∧ wr.ownsRow w.heap.size 133 3 v (impU X Y K n k).length ((impU X Y K n k).flatMap ptC)) (fun _ t _ => n - (intOf t).toNat)
  case atStart => exact ⟨0, by omega, rfl, Below.refl _ _, World.ownsRow_nil _ _ _ _⟩
  case round =>
    obtain ⟨v, rfl⟩ : ∃ v, v = u3 := ⟨_, rfl⟩
    obtain ⟨k, hk, rfl, hb, hown⟩ := hrel
    have hsz := hb.size
    have hlen := impU_len X Y K n k
    by_cases hlt : k < n
    · have hd1 : decide ((k : Int) < (n : Int)) = true := by simp; omega
      rcases HR.out with h | ⟨b, off, rfl, hc⟩
      · omega
      obtain ⟨bX, bX'⟩ := HX.out k hlt
      obtain ⟨bY, bY'⟩ := HY.out k hlt
      have hbl : b < w.heap.size := World.block_lt_of_cell? w _ (hc k hlt).1
      have hcr : ∀ j, j < n → wr.cell? ⟨b, off + j * 3, none⟩ = some (.int .i64 (X j)) ∧ wr.cell? ⟨b, off + j * 3 + 1, none⟩ = some (.int .i64 (Y j)) ∧ wr.cell? ⟨b, off + j * 3 + 2, none⟩ = some (.int .i64 (K j)) := fun j hj => by
        obtain ⟨u0, u1, u2⟩ := hc j hj
        exact ⟨(hb.cell (p := ⟨b, _, none⟩) hbl).trans u0, (hb.cell (p := ⟨b, _, none⟩) hbl).trans u1, (hb.cell (p := ⟨b, _, none⟩) hbl).trans u2⟩
      obtain ⟨d0, d1, d2⟩ := hcr k hlt
      have HC := hide hc
      clear hc hcr
      have hbw : b < wr.heap.size := by omega
      obtain ⟨L, hL⟩ : ∃ L, L = impU X Y K n k := ⟨_, rfl⟩
      rw [← hL] at hown hlen
      obtain ⟨ln, hln⟩ : ∃ ln, ln = L.length := ⟨_, rfl⟩
      obtain ⟨xs, hxs⟩ : ∃ xs, xs = L.flatMap ptC := ⟨_, rfl⟩
      rw [← hln, ← hxs] at hown
      rw [← hln] at hlen
      have HL := hide hL
      have HLn := hide hln
      have Hxs := hide hxs
      clear hL hln hxs
      go_wp2_with (at_builtin; refine wpList_append_lies _ rfl _ _ 62 rfl w.heap.size 133 i0 (.agg #[.int .i64 0, .int .i64 0, .int .i64 0]) 3 24 Try.underlying62 hi0 hz0 hz1 hz2 rfl (by omega) v ln xs rfl ((hown.alloc _).alloc _) ⟨wr.heap.size + 1, 0, none⟩ 1 1 [.int .i64 (2 * X k), .int .i64 (2 * Y k), .int .i64 (K k)] rfl rfl ?c1 ?c2 (by omega) ?c3 ?c4 ?c5 (wr.heap.size + 1 + 1) (by simp) ?_)
      case c1 => exact news_new (wr.alloc _) [.int .i64 (2 * X k), .int .i64 (2 * Y k), .int .i64 (K k)] _ _ (by simp)
      case c2 => exact one_ints _ _ _
      case c3 => unfold maxLen; omega
      case c4 => omega
      case c5 => simp; omega
      intro g cap w1 hown1 hgrow hat hlt1
      have hb1 : Below w.heap.size w w1 := ((hb.alloc (by omega) _).alloc (by simp; omega) _).grown hgrow (by simp; omega) (fun q hq => (hown.lt q hq).1)
      have hs1 : wr.heap.size + 1 < w1.heap.size := by have := hgrow.size; simp at this; omega
      have hne : some wr.heap.size ≠ v.ownBlock := owns_ne_new hown (Nat.le_refl _)
      have p0 : w1.cell? ⟨wr.heap.size, 0, none⟩ = some (.int .i64 (X k)) := (hgrow.cell_far ⟨wr.heap.size, 0, none⟩ (by simp; omega) hne).trans (by go_simp)
      have p1 : w1.cell? ⟨wr.heap.size, 1, none⟩ = some (.int .i64 (Y k)) := (hgrow.cell_far ⟨wr.heap.size, 1, none⟩ (by simp; omega) hne).trans (by go_simp)
      have p2 : w1.cell? ⟨wr.heap.size, 2, none⟩ = some (.int .i64 (K k)) := (hgrow.cell_far ⟨wr.heap.size, 2, none⟩ (by simp; omega) hne).trans (by go_simp)
      have hcr : ∀ j, j < n → w1.cell? ⟨b, off + j * 3, none⟩ = some (.int .i64 (X j)) ∧ w1.cell? ⟨b, off + j * 3 + 1, none⟩ = some (.int .i64 (Y j)) ∧ w1.cell? ⟨b, off + j * 3 + 2, none⟩ = some (.int .i64 (K j)) := fun j hj => by
        obtain ⟨u0, u1, u2⟩ := HC.out j hj
        exact ⟨(hb1.cell (p := ⟨b, _, none⟩) hbl).trans u0, (hb1.cell (p := ⟨b, _, none⟩) hbl).trans u1, (hb1.cell (p := ⟨b, _, none⟩) hbl).trans u2⟩
      have hO1 : w1.ownsRow w.heap.size 133 3 (.slice (some ⟨g, 0, none⟩) (ln + 1) cap) (L ++ [(2 * X k, 2 * Y k, K k)]).length ((L ++ [(2 * X k, 2 * Y k, K k)]).flatMap ptC) :=
        push_pt (by rw [← Hxs.out]; exact hown1) rfl (by rw [HLn.out])
      have HO1 := hide hO1
      have HXF : Hid ((L ++ [(2 * X k, 2 * Y k, K k)]).flatMap ptC = xs ++ [.int .i64 (2 * X k), .int .i64 (2 * Y k), .int .i64 (K k)]) := by unfold Hid; rw [Hxs.out]; simp [ptC]
      obtain ⟨e0, e1, e2⟩ := hcr 0 (by omega)
      simp only [Nat.zero_mul, Nat.add_zero] at e0 e1 e2
      have hsucc : impU X Y K n (k + 1) = L ++ Num.impF X Y K n k := by rw [HL.out]; exact impU_succ _ _ _ _ _
      have HSu := hide hsucc
      have hbw1 : b < w1.heap.size := by omega
      have hbs1 : w.heap.size ≤ w1.heap.size := hb1.size
      have hwr1 : wr.heap.size < w1.heap.size := by omega
      clear hgrow hat hne hO1 hown hb hsucc d0 d1 d2
      by_cases hl2 : k + 1 < n
      · obtain ⟨f0, f1, f2⟩ := hcr (k + 1) hl2
        have hnx : Num.nx n k = k + 1 := by unfold Num.nx; rw [if_pos hl2]
        have HNx := hide hnx
        obtain ⟨cX, cX'⟩ := HX.out (k + 1) (by omega)
        obtain ⟨cY, cY'⟩ := HY.out (k + 1) (by omega)
        clear hcr hnx
        by_cases hq : K k = 1 ∧ K (k + 1) = 1
        · obtain ⟨q1, q2⟩ := hq
          have t1 : (K k == 1) = true := by simp [q1]
          have t2 : (K (k + 1) == 1) = true := by simp [q2]
          have HF := hide (impF_yes (X := X) (Y := Y) (n := n) (k := k) ⟨q1, by rw [HNx.out]; exact q2⟩)
          clear q1 q2
          go_wp2_with (at_builtin; refine wpList_append_lies _ rfl _ _ 62 rfl w.heap.size 133 i0 (.agg #[.int .i64 0, .int .i64 0, .int .i64 0]) 3 24 Try.underlying62 hi0 hz0 hz1 hz2 rfl (by omega) _ (ln + 1) _ rfl ((hown1.alloc _).alloc _) ⟨w1.heap.size + 1, 0, none⟩ 1 1 [.int .i64 (X k + X (k + 1)), .int .i64 (Y k + Y (k + 1)), .int .i64 0] rfl rfl ?m1 ?m2 (by omega) ?m3 ?m4 ?m5 (w1.heap.size + 1 + 1) (by simp) ?_)
          case m1 => exact news_new (w1.alloc _) [.int .i64 (X k + X (k + 1)), .int .i64 (Y k + Y (k + 1)), .int .i64 0] _ _ (by simp)
          case m2 => exact one_ints _ _ _
          case m3 => unfold maxLen; omega
          case m4 => omega
          case m5 => simp; omega
          intro g2 cap2 w2 hown2 hgrow2 hat2 hlt2
          have hb2 : Below w.heap.size w w2 := ((hb1.alloc (by omega) _).alloc (by simp; omega) _).grown hgrow2 (by simp; omega) (fun q hq => (hown1.lt q hq).1)
          have HO2 : Hid (w2.ownsRow w.heap.size 133 3 (.slice (some ⟨g2, 0, none⟩) (ln + 1 + 1) cap2) (impU X Y K n (k + 1)).length ((impU X Y K n (k + 1)).flatMap ptC)) :=
            push_pt (l := L ++ [(2 * X k, 2 * Y k, K k)]) (p := (X k + X (k + 1), Y k + Y (k + 1), 0)) (by rw [HXF.out]; simpa using hown2) (by rw [HSu.out, HF.out, HNx.out, List.append_assoc]) (by rw [HLn.out]; simp)
          clear hown2 hgrow2 hat2 hown1 hb1
          go_wp2
          go_roundw
          case rel => exact ⟨k + 1, by omega, by go_num, hb2, HO2.out⟩
          case measure => simp [intOf]; omega
        · have HF := hide (impF_no (X := X) (Y := Y) (n := n) (k := k) (by rw [HNx.out]; exact hq))
          have HE : Hid (w1.ownsRow w.heap.size 133 3 (.slice (some ⟨g, 0, none⟩) (ln + 1) cap) (impU X Y K n (k + 1)).length ((impU X Y K n (k + 1)).flatMap ptC)) := by
            unfold Hid; rw [HSu.out, HF.out]; exact HO1.out
          by_cases q1 : K k = 1
          · have t1 : (K k == 1) = true := by simp [q1]
            have t2 : (K (k + 1) == 1) = false := by simp; intro h; exact hq ⟨q1, h⟩
            clear q1 hq
            go_wp2
            go_roundw
            case rel => exact ⟨k + 1, by omega, by go_num, by (repeat (any_goals (first | exact Below.refl _ _ | assumption | refine Below.drew ?_ | refine below_drewN ?_ _ | refine Below.setCell ?_ ?_ _ | refine Below.alloc ?_ ?_ _ | omega | (simp; done) | (simp; omega)))), HE.out.alloc _⟩
            case measure => simp [intOf]; omega
          · have t1 : (K k == 1) = false := by simp [q1]
            clear q1 hq
            go_wp2
            go_roundw
            case rel => exact ⟨k + 1, by omega, by go_num, by (repeat (any_goals (first | exact Below.refl _ _ | assumption | refine Below.drew ?_ | refine below_drewN ?_ _ | refine Below.setCell ?_ ?_ _ | refine Below.alloc ?_ ?_ _ | omega | (simp; done) | (simp; omega)))), HE.out.alloc _⟩
            case measure => simp [intOf]; omega
      · have hl3 : ¬ (k : Int) + 1 < (n : Int) := by omega
        have hnx : Num.nx n k = 0 := by unfold Num.nx; rw [if_neg hl2]
        have HNx := hide hnx
        obtain ⟨cX, cX'⟩ := HX.out (0) (by omega)
        obtain ⟨cY, cY'⟩ := HY.out (0) (by omega)
        clear hcr hnx
        by_cases hq : K k = 1 ∧ K 0 = 1
        · obtain ⟨q1, q2⟩ := hq
          have t1 : (K k == 1) = true := by simp [q1]
          have t2 : (K 0 == 1) = true := by simp [q2]
          have HF := hide (impF_yes (X := X) (Y := Y) (n := n) (k := k) ⟨q1, by rw [HNx.out]; exact q2⟩)
          clear q1 q2
          go_wp2_with (at_builtin; refine wpList_append_lies _ rfl _ _ 62 rfl w.heap.size 133 i0 (.agg #[.int .i64 0, .int .i64 0, .int .i64 0]) 3 24 Try.underlying62 hi0 hz0 hz1 hz2 rfl (by omega) _ (ln + 1) _ rfl ((hown1.alloc _).alloc _) ⟨w1.heap.size + 1, 0, none⟩ 1 1 [.int .i64 (X k + X 0), .int .i64 (Y k + Y 0), .int .i64 0] rfl rfl ?s1 ?s2 (by omega) ?s3 ?s4 ?s5 (w1.heap.size + 1 + 1) (by simp) ?_)
          try (case s1 => exact news_new (w1.alloc _) [.int .i64 (X k + X 0), .int .i64 (Y k + Y 0), .int .i64 0] _ _ (by simp))
          case s2 => first | exact one_ints _ _ _ | exact ⟨rfl, rfl, rfl⟩
          case s3 => unfold maxLen; omega
          case s4 => omega
          case s5 => first | omega | (simp; omega)
          intro g2 cap2 w2 hown2 hgrow2 hat2 hlt2
          have hb2 : Below w.heap.size w w2 := ((hb1.alloc (by omega) _).alloc (by simp; omega) _).grown hgrow2 (by simp; omega) (fun q hq => (hown1.lt q hq).1)
          have HO2 : Hid (w2.ownsRow w.heap.size 133 3 (.slice (some ⟨g2, 0, none⟩) (ln + 1 + 1) cap2) (impU X Y K n (k + 1)).length ((impU X Y K n (k + 1)).flatMap ptC)) :=
            push_pt (l := L ++ [(2 * X k, 2 * Y k, K k)]) (p := (X k + X 0, Y k + Y 0, 0)) (by rw [HXF.out]; simpa using hown2) (by rw [HSu.out, HF.out, HNx.out, List.append_assoc]) (by rw [HLn.out]; simp)
          clear hown2 hgrow2 hat2 hown1 hb1
          go_wp2
          go_roundw
          case rel => exact ⟨k + 1, by omega, by go_num, hb2, HO2.out⟩
          case measure => simp [intOf]; omega
        · have HF := hide (impF_no (X := X) (Y := Y) (n := n) (k := k) (by rw [HNx.out]; exact hq))
          have HE : Hid (w1.ownsRow w.heap.size 133 3 (.slice (some ⟨g, 0, none⟩) (ln + 1) cap) (impU X Y K n (k + 1)).length ((impU X Y K n (k + 1)).flatMap ptC)) := by
            unfold Hid; rw [HSu.out, HF.out]; exact HO1.out
          by_cases q1 : K k = 1
          · have t1 : (K k == 1) = true := by simp [q1]
            have t2 : (K 0 == 1) = false := by simp; intro h; exact hq ⟨q1, h⟩
            clear q1 hq
            go_wp2
            go_roundw
            case rel => exact ⟨k + 1, by omega, by go_num, by (repeat (any_goals (first | exact Below.refl _ _ | assumption | refine Below.drew ?_ | refine below_drewN ?_ _ | refine Below.setCell ?_ ?_ _ | refine Below.alloc ?_ ?_ _ | omega | (simp; done) | (simp; omega)))), HE.out.alloc _⟩
            case measure => simp [intOf]; omega
          · have t1 : (K k == 1) = false := by simp [q1]
            clear q1 hq
            go_wp2
            go_roundw
            case rel => exact ⟨k + 1, by omega, by go_num, by (repeat (any_goals (first | exact Below.refl _ _ | assumption | refine Below.drew ?_ | refine below_drewN ?_ _ | refine Below.setCell ?_ ?_ _ | refine Below.alloc ?_ ?_ _ | omega | (simp; done) | (simp; omega)))), HE.out.alloc _⟩
            case measure => simp [intOf]; omega
    · go_wp2
      go_ret
      have e : k = n := by omega
      subst e
      exact ⟨v, rfl, hb, hown⟩
end Go.Proofs.Ytkhcjkmifddlbaa
