/- The segments of a ring: spot, withControl, firstOn. -/
import Derived.Test.YtkhcjkmifddlbaaImpl
import Derived.Test.YtkhcjkmifddlbaaHeldB
namespace Go.Proofs.Ytkhcjkmifddlbaa
open Go.RowKit Go.Deep

/-- A segment as a value, and its cells. -/
def sgC (g : Num.Sg) : List Value := [.int .i64 g.k, .int .i64 g.x0, .int .i64 g.y0, .int .i64 g.x1, .int .i64 g.y1, .int .i64 g.x2, .int .i64 g.y2, .int .i64 g.x3, .int .i64 g.y3]
def sgF (g : Num.Sg) (q : Nat) : Value := (sgC g)[q]?.getD undef

set_option maxHeartbeats 400000 in
theorem spot_any (x y k : Int) (w : World) :
    Calls Try.prog 161 #[.agg #[.int .i64 x, .int .i64 y, .int .i64 k]] w fun e w' => e = .returned (.agg #[.int .i64 x, .int .i64 y]) ∧ w' = (w.alloc (.cells #[.int .i64 x, .int .i64 y, .int .i64 k] 133)).alloc (.cells #[.int .i64 x, .int .i64 y] 41) := by
  go_enter Try.func161, Try.ntmps161
  go_wp2
  exact bodyPost_ret (v := .agg #[.int .i64 x, .int .i64 y]) (by simp [results, Try.results161, go_sem]) rfl ⟨rfl, rfl⟩

set_option maxRecDepth 100000 in
set_option maxHeartbeats 1000000 in
theorem withControl_any (g : Num.Sg) (p : Int × Int × Int) (w : World) :
    Calls Try.prog 162 #[.agg #[.int .i64 g.k, .int .i64 g.x0, .int .i64 g.y0, .int .i64 g.x1, .int .i64 g.y1, .int .i64 g.x2, .int .i64 g.y2, .int .i64 g.x3, .int .i64 g.y3], .agg #[.int .i64 p.1, .int .i64 p.2.1, .int .i64 p.2.2]] w fun e w' => e = .returned (.agg #[.int .i64 (Num.addP g p).k, .int .i64 (Num.addP g p).x0, .int .i64 (Num.addP g p).y0, .int .i64 (Num.addP g p).x1, .int .i64 (Num.addP g p).y1, .int .i64 (Num.addP g p).x2, .int .i64 (Num.addP g p).y2, .int .i64 (Num.addP g p).x3, .int .i64 (Num.addP g p).y3]) ∧ Below w.heap.size w w' := by
  obtain ⟨k, x0, y0, x1, y1, x2, y2, x3, y3⟩ := g
  obtain ⟨px, py, pk⟩ := p
  by_cases h0 : k = 0
  · have e : Num.addP ⟨k, x0, y0, x1, y1, x2, y2, x3, y3⟩ (px, py, pk) = ⟨pk, x0, y0, px, py, x2, y2, x3, y3⟩ := by simp [Num.addP, h0]
    rw [e]
    clear e
    have hb : (k == 0) = true := by simp [h0]
    clear h0
    go_enter Try.func162, Try.ntmps162
    go_wp2_with (go_at_call 161; refine (spot_any _ _ _ _).mono ?_; rintro e w' ⟨rfl, rfl⟩)
    refine bodyPost_ret (v := .agg #[.int .i64 pk, .int .i64 x0, .int .i64 y0, .int .i64 px, .int .i64 py, .int .i64 x2, .int .i64 y2, .int .i64 x3, .int .i64 y3]) (by simp [results, Try.results162, go_sem]) rfl ⟨rfl, ?_⟩
    (repeat (any_goals (first | exact Below.refl _ _ | assumption | refine Below.drew ?_ | refine below_drewN ?_ _ | refine Below.setCell ?_ ?_ _ | refine Below.alloc ?_ ?_ _ | omega | (simp; done) | (simp; omega))))
  · have e : Num.addP ⟨k, x0, y0, x1, y1, x2, y2, x3, y3⟩ (px, py, pk) = ⟨k, x0, y0, x1, y1, px, py, x3, y3⟩ := by simp [Num.addP, h0]
    rw [e]
    clear e
    have hb : (k == 0) = false := by simp [h0]
    clear h0
    go_enter Try.func162, Try.ntmps162
    go_wp2_with (go_at_call 161; refine (spot_any _ _ _ _).mono ?_; rintro e w' ⟨rfl, rfl⟩)
    refine bodyPost_ret (v := .agg #[.int .i64 k, .int .i64 x0, .int .i64 y0, .int .i64 x1, .int .i64 y1, .int .i64 px, .int .i64 py, .int .i64 x3, .int .i64 y3]) (by simp [results, Try.results162, go_sem]) rfl ⟨rfl, ?_⟩
    (repeat (any_goals (first | exact Below.refl _ _ | assumption | refine Below.drew ?_ | refine below_drewN ?_ _ | refine Below.setCell ?_ ?_ _ | refine Below.alloc ?_ ?_ _ | omega | (simp; done) | (simp; omega))))

set_option maxHeartbeats 400000 in
theorem firstOn_any (a : Option Addr) (n c : Nat) (X Y K : Nat → Int) (w : World) (hn : n ≤ 4294967296) (hr : RingAt w a n X Y K) :
    Calls Try.prog 160 #[.slice a n c] w fun e w' => e = .returned (.int .i64 (Num.firstI (fun j => K j == 0) n)) ∧ Below w.heap.size w w' := by
  have HR := hide hr
  clear hr
  go_enter Try.func160, Try.ntmps160
  go_wp2_with fail
  go_loopw [7] (fun i wr => ∃ k : Nat, k ≤ n ∧ i = .int .i64 k ∧ Below w.heap.size w wr ∧ ∀ j, j < k → (K j == 0) = false) (fun i _ => n - (intOf i).toNat)
  case atStart => exact ⟨0, by omega, rfl, Below.refl _ _, by omega⟩
  case round =>
    obtain ⟨k, hk, rfl, hb, hno⟩ := hrel
    have hsz := hb.size
    have HN := hide hno
    clear hno
    by_cases hlt : k < n
    · rcases HR.out.below hb with h | ⟨b, off, rfl, hc⟩
      · omega
      obtain ⟨c0, c1, c2⟩ := hc k hlt
      clear hc
      cases hz : (K k == 0)
      · go_wp2
        go_roundw
        case rel =>
          refine ⟨k + 1, by omega, by go_num, by (repeat (any_goals (first | exact Below.refl _ _ | assumption | refine Below.drew ?_ | refine below_drewN ?_ _ | refine Below.setCell ?_ ?_ _ | refine Below.alloc ?_ ?_ _ | omega | (simp; done) | (simp; omega)))), fun j hj => ?_⟩
          by_cases ej : j = k
          · subst ej; exact hz
          · exact HN.out j (by omega)
        case measure => simp [intOf]; omega
      · go_wp2
        go_ret
        exact ⟨ret_int (Num.firstI_hit _ _ _ hlt hz HN.out).symm, by (repeat (any_goals (first | exact Below.refl _ _ | assumption | refine Below.drew ?_ | refine below_drewN ?_ _ | refine Below.setCell ?_ ?_ _ | refine Below.alloc ?_ ?_ _ | omega | (simp; done) | (simp; omega))))⟩
    · go_wp2
      go_ret
      have e : k = n := by omega
      subst e
      exact ⟨ret_int (Num.firstI_none _ _ HN.out).symm, hb⟩
end Go.Proofs.Ytkhcjkmifddlbaa
