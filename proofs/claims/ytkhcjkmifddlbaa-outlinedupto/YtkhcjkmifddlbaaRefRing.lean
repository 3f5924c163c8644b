/- The document's segments of a ring. -/
import Derived.Test.YtkhcjkmifddlbaaRefSegB
namespace Go.Proofs.Ytkhcjkmifddlbaa
open Go.RowKit Go.Deep

def refU (X Y K : Nat → Int) (n k : Nat) : List Num.Sg := (List.range k).filterMap (Num.refF X Y K n)
theorem refU_no {X Y K : Nat → Int} {n k : Nat} (h : Num.onB X Y K n k = false) : refU X Y K n (k + 1) = refU X Y K n k := by
  unfold refU; rw [List.range_succ, List.filterMap_append]; simp [Num.refF, h]
theorem refU_yes {X Y K : Nat → Int} {n k : Nat} (h : Num.onB X Y K n k = true) : refU X Y K n (k + 1) = refU X Y K n k ++ [Num.fromV X Y K n k] := by
  unfold refU; rw [List.range_succ, List.filterMap_append]; simp [Num.refF, h]
theorem refU_len (X Y K : Nat → Int) (n k : Nat) : (refU X Y K n k).length ≤ k := by
  unfold refU; have := List.length_filterMap_le (Num.refF X Y K n) (List.range k); simpa using this

set_option maxRecDepth 100000 in
set_option maxHeartbeats 2000000 in
theorem refRing_any (a : Option Addr) (n c : Nat) (X Y K : Nat → Int) (w : World) (hp : 0 < n) (hn : n ≤ 2097152) (hX : ∀ i, i < n → -4096 ≤ X i ∧ X i ≤ 4096) (hY : ∀ i, i < n → -4096 ≤ Y i ∧ Y i ≤ 4096) (hr : RingAt w a n X Y K) :
    Calls Try.prog 90 #[.slice a n c] w fun e w' => ∃ v, e = .returned v ∧ Below w.heap.size w w' ∧ w'.ownsRow w.heap.size 44 9 v (Num.refRing X Y K n).length ((Num.refRing X Y K n).flatMap sgC) := by
  have HR := hide hr
  have HX := hide hX
  have HY := hide hY
  clear hr hX hY
  obtain ⟨i0, hi0, hz0, hz1, hz2⟩ := info_parts info_seg
  go_enter Try.func90, Try.ntmps90
  go_wp2_with fail
  go_loopw [3, 4] (fun v t wr => ∃ k : Nat, k ≤ 2 * n ∧ t = .int .i64 k ∧ Below w.heap.size w wr ∧ wr.ownsRow w.heap.size 44 9 v (refU X Y K n k).length ((refU X Y K n k).flatMap sgC)) (fun _ t _ => 2 * n - (intOf t).toNat)
  case atStart => exact ⟨0, by omega, rfl, Below.refl _ _, World.ownsRow_nil _ _ _ _⟩
  case round =>
    obtain ⟨v, rfl⟩ : ∃ v, v = u3 := ⟨_, rfl⟩
    obtain ⟨k, hk, rfl, hb, hown⟩ := hrel
    have hsz := hb.size
    have hlen := refU_len X Y K n k
    by_cases hlt : k < 2 * n
    · have hd1 : decide ((k : Int) < 2 * (n : Int)) = true := by simp; omega
      go_wp2_with fail
      refine (begins_any _ _ _ k X Y K _ hp hn (by omega) HX.out HY.out (HR.out.below hb)).mono ?_
      rintro e w1 ⟨rfl, hb1⟩
      have hs1 := hb1.size
      have hown1 := owns_of_block hown (fun b hbb => hb1.block b (hown.lt b hbb).2)
      have hbw1 : Below w.heap.size w w1 := hb.trans (hb1.mono hsz)
      clear hb hb1 hown
      cases hon : Num.onB X Y K n k
      · have HU := hide (refU_no hon)
        clear hon
        go_wp2
        go_roundw
        case rel => exact ⟨k + 1, by omega, by go_num, hbw1, by rw [HU.out]; exact hown1⟩
        case measure => simp [intOf]; omega
      · have HU := hide (refU_yes hon)
        clear hon
        go_wp2_with fail
        refine (from_any _ _ _ k X Y K _ hp hn (by omega) HX.out HY.out (HR.out.below hbw1)).mono ?_
        obtain ⟨F, hF⟩ : ∃ F, F = Num.fromV X Y K n k := ⟨_, rfl⟩
        rw [← hF]
        have HF := hide hF
        clear hF
        rintro e w2 ⟨rfl, hb2⟩
        have hs2 := hb2.size
        have hown2 := owns_of_block hown1 (fun b hbb => hb2.block b (hown1.lt b hbb).2)
        have hbw2 : Below w.heap.size w w2 := hbw1.trans (hb2.mono (by omega))
        clear hb2 hown1 hbw1
        obtain ⟨L, hL⟩ : ∃ L, L = refU X Y K n k := ⟨_, rfl⟩
        rw [← hL] at hown2 hlen
        obtain ⟨ln, hln⟩ : ∃ ln, ln = L.length := ⟨_, rfl⟩
        obtain ⟨xs, hxs⟩ : ∃ xs, xs = L.flatMap sgC := ⟨_, rfl⟩
        rw [← hln, ← hxs] at hown2
        rw [← hln] at hlen
        have HL := hide hL
        have HLn := hide hln
        have Hxs := hide hxs
        clear hL hln hxs
        go_wp2_with (at_builtin; refine wpList_append_lies _ rfl _ _ 102 rfl w.heap.size 44 i0 (.agg #[.int .i64 0, .int .i64 0, .int .i64 0, .int .i64 0, .int .i64 0, .int .i64 0, .int .i64 0, .int .i64 0, .int .i64 0]) 9 72 Try.underlying102 hi0 hz0 hz1 hz2 rfl (by omega) v ln xs rfl ((hown2.alloc _).alloc _) ⟨w2.heap.size + 1, 0, none⟩ 1 1 [.int .i64 F.k, .int .i64 F.x0, .int .i64 F.y0, .int .i64 F.x1, .int .i64 F.y1, .int .i64 F.x2, .int .i64 F.y2, .int .i64 F.x3, .int .i64 F.y3] rfl rfl ?c1 ?c2 (by omega) ?c3 ?c4 ?c5 (w2.heap.size + 1 + 1) (by simp) ?_)
        case c1 => exact news_new (w2.alloc _) (sgC F) _ _ (by simp)
        case c2 => exact one_sg F
        case c3 => unfold maxLen; omega
        case c4 => omega
        case c5 => first | omega | (simp; omega)
        intro g cap w3 hown3 hgrow hat hlt3
        have hb3 : Below w.heap.size w w3 := ((hbw2.alloc (by omega) _).alloc (by simp; omega) _).grown hgrow (by simp; omega) (fun q hq => (hown2.lt q hq).1)
        have HO3 : Hid (w3.ownsRow w.heap.size 44 9 (.slice (some ⟨g, 0, none⟩) (ln + 1) cap) (refU X Y K n (k + 1)).length ((refU X Y K n (k + 1)).flatMap sgC)) := by
          unfold Hid
          rw [HU.out, ← HL.out, ← HF.out]
          exact push_sg (by rw [← Hxs.out]; exact hown3) (by rw [HLn.out])
        clear hown3 hgrow hat hown2 hbw2
        go_wp2
        go_roundw
        case rel => exact ⟨k + 1, by omega, by go_num, hb3, HO3.out⟩
        case measure => simp [intOf]; omega
    · have e : k = 2 * n := by omega
      have hd0 : decide ((k : Int) < 2 * (n : Int)) = false := by simp; omega
      have HO := hide hown
      clear hown
      go_wp2
      go_ret
      refine ⟨v, rfl, hb, ?_⟩
      have h := HO.out
      rw [e] at h
      exact h
end Go.Proofs.Ytkhcjkmifddlbaa
