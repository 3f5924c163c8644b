/- The program's Lay. -/
import Derived.Test.YtkhcjkmifddlbabLayV
import Derived.Test.YtkhcjkmifddlbabHeldY
import Derived.Test.YtkhcjkmifddlbabCrv
namespace Go.Proofs.Ytkhcjkmifddlbab
open Go.RowKit Go.Deep

def sideP (n : Int) : Bool := decide (1 ≤ n ∧ n ≤ 64)
set_option maxHeartbeats 400000 in
theorem isSideP_any (n : Int) (w : World) : Calls Try.prog 64 #[.int .i64 n] w fun e w' => e = .returned (.bool (sideP n)) ∧ w' = w := by
  by_cases a : 1 ≤ n
  · by_cases b : n ≤ 64
    · go_enter Try.func64, Try.ntmps64
      go_wp2
      go_ret
      exact ⟨ret_bool (by simp [sideP, a, b]), rfl⟩
    · go_enter Try.func64, Try.ntmps64
      go_wp2
      go_ret
      exact ⟨ret_bool (by simp [sideP, b]), rfl⟩
  · go_enter Try.func64, Try.ntmps64
    go_wp2
    go_ret
    exact ⟨ret_bool (by simp [sideP]; omega), rfl⟩

set_option maxRecDepth 100000 in
set_option maxHeartbeats 1000000 in
theorem isPicture_any (a : Option Addr) (n c : Nat) (W H : Int) (w : World) :
    Calls Try.prog 74 #[.agg #[.int .i64 W, .int .i64 H, .slice a n c]] w fun e w' => e = .returned (.bool (Num.picB W H n)) ∧ w' = w.alloc (.cells #[.int .i64 W, .int .i64 H, .slice a n c] 57) := by
  by_cases h1 : 1 ≤ W ∧ W ≤ 64
  · by_cases h2 : 1 ≤ H ∧ H ≤ 64
    · have e1 : sideP W = true := by simp [sideP]; omega
      have e2 : sideP H = true := by simp [sideP]; omega
      have hm : 0 ≤ W * H ∧ W * H ≤ 4096 := by
        have h3 : W * H ≤ 64 * 64 := Int.mul_le_mul h1.2 h2.2 (by omega) (by omega)
        have h4 : 0 ≤ W * H := Int.mul_nonneg (by omega) (by omega)
        omega
      have hw : IntKind.i64.wrap (W * H) = W * H := by rw [IntKind.wrap_i64]; omega
      have hq : Num.picB W H n = decide ((n : Int) = W * H) := by simp [Num.picB, h1, h2]
      rw [hq]
      clear hq
      go_enter Try.func74, Try.ntmps74
      go_wp2_with (go_at_call 64; refine (isSideP_any _ _).mono ?_; rintro e w' ⟨rfl, rfl⟩)
      go_ret
      exact ⟨ret_bool (by first | rfl | (simp; done) | (rw [hw])), rfl⟩
    · have e1 : sideP W = true := by simp [sideP]; omega
      have e2 : sideP H = false := by simp [sideP]; omega
      have hq : Num.picB W H n = false := by simp [Num.picB]; omega
      rw [hq]
      clear hq
      go_enter Try.func74, Try.ntmps74
      go_wp2_with (go_at_call 64; refine (isSideP_any _ _).mono ?_; rintro e w' ⟨rfl, rfl⟩)
      go_ret
      exact ⟨rfl, rfl⟩
  · have e1 : sideP W = false := by simp [sideP]; omega
    have hq : Num.picB W H n = false := by simp [Num.picB]; omega
    rw [hq]
    clear hq
    go_enter Try.func74, Try.ntmps74
    go_wp2_with (go_at_call 64; refine (isSideP_any _ _).mono ?_; rintro e w' ⟨rfl, rfl⟩)
    go_ret
    exact ⟨rfl, rfl⟩

set_option maxHeartbeats 400000 in
theorem liesP_any (x : Int) (n i : Nat) (w : World) (hn : n ≤ 64) (hi : i < 64) : Calls Try.prog 75 #[.int .i64 x, .int .i64 n, .int .i64 i] w fun e w' => e = .returned (.bool (Num.covB x n i)) ∧ w' = w := by
  by_cases h1 : -64 ≤ x ∧ x ≤ 64
  · have e1 : Num.wi x 64 = true := by simp [Num.wi]; omega
    by_cases h2 : x ≤ (i : Int)
    · by_cases h3 : (i : Int) - x < (n : Int)
      · have e2 : Num.covB x n i = true := by simp [Num.covB]; omega
        rw [e2]
        clear e2
        go_enter Try.func75, Try.ntmps75
        go_wp2_with (go_at_call 86; refine (within_any _ _ _ (by omega) (by omega)).mono ?_; rintro e w' ⟨rfl, rfl⟩)
        go_ret
        exact ⟨ret_bool (by first | (simp; done) | (simp; omega)), rfl⟩
      · have e2 : Num.covB x n i = false := by simp [Num.covB]; omega
        rw [e2]
        clear e2
        go_enter Try.func75, Try.ntmps75
        go_wp2_with (go_at_call 86; refine (within_any _ _ _ (by omega) (by omega)).mono ?_; rintro e w' ⟨rfl, rfl⟩)
        go_ret
        exact ⟨ret_bool (by first | (simp; done) | (simp; omega)), rfl⟩
    · have e2 : Num.covB x n i = false := by simp [Num.covB]; omega
      rw [e2]
      clear e2
      go_enter Try.func75, Try.ntmps75
      go_wp2_with (go_at_call 86; refine (within_any _ _ _ (by omega) (by omega)).mono ?_; rintro e w' ⟨rfl, rfl⟩)
      go_ret
      exact ⟨rfl, rfl⟩
  · have e1 : Num.wi x 64 = false := by simp [Num.wi]; omega
    have e2 : Num.covB x n i = false := by simp [Num.covB]; omega
    rw [e2]
    clear e2
    go_enter Try.func75, Try.ntmps75
    go_wp2_with (go_at_call 86; refine (within_any _ _ _ (by omega) (by omega)).mono ?_; rintro e w' ⟨rfl, rfl⟩)
    go_ret
    exact ⟨rfl, rfl⟩

set_option maxHeartbeats 400000 in
theorem lesserY_any (a b : Int) (w : World) : Calls Try.prog 79 #[.int .i64 a, .int .i64 b] w fun e w' => e = .returned (.int .i64 (Num.lsY a b)) ∧ w' = w := by
  by_cases h : a < b
  · go_enter Try.func79, Try.ntmps79
    go_wp2
    go_ret
    exact ⟨ret_int (by unfold Num.lsY; rw [if_pos h]), rfl⟩
  · go_enter Try.func79, Try.ntmps79
    go_wp2
    go_ret
    exact ⟨ret_int (by unfold Num.lsY; rw [if_neg (by omega)]), rfl⟩

set_option maxHeartbeats 1000000 in
theorem mixed_any (u v way : Int) (w : World) (hu : 0 ≤ u ∧ u ≤ 255) (hv : 0 ≤ v ∧ v ≤ 255) (hw : 0 ≤ way ∧ way ≤ 3) : Calls Try.prog 76 #[.int .u8 u, .int .u8 v, .int .i64 way] w fun e w' => e = .returned (.int .u8 (Num.mixV u v way)) ∧ w' = w := by
  have hb := Num.mixV_bd (way := way) hu hv
  rcases (show way = 0 ∨ way = 1 ∨ way = 2 ∨ way = 3 by omega) with rfl | rfl | rfl | rfl
  all_goals
    unfold Num.mixV at hb ⊢
    simp only [if_true, if_false, Int.reduceEq] at hb ⊢
    go_enter Try.func76, Try.ntmps76
    go_wp2_with (first | (go_at_call 89; refine (greater_any _ _ _).mono ?_; rintro e w' ⟨rfl, rfl⟩) | (go_at_call 79; refine (lesserY_any _ _ _).mono ?_; rintro e w' ⟨rfl, rfl⟩))
    all_goals
      go_ret
      refine ⟨congrArg (fun z => Ending.returned (Value.int .u8 z)) ?_, rfl⟩
      first | rfl | omega | (unfold Num.lsY; split <;> omega) | (unfold Num.gr; split <;> omega) | (unfold Num.gr; rw [if_pos (by omega)]; omega)
/-- What is asked of two pictures. -/
theorem picB_yes {W H : Int} {n : Nat} (h : Num.picB W H n = true) : ∃ a b : Nat, W = a ∧ H = b ∧ 1 ≤ a ∧ a ≤ 64 ∧ 1 ≤ b ∧ b ≤ 64 ∧ n = a * b := by
  simp [Num.picB] at h
  obtain ⟨h1, h2, h3, h4, h5⟩ := h
  refine ⟨W.toNat, H.toNat, by omega, by omega, by omega, by omega, by omega, by omega, ?_⟩
  have e1 : ((W.toNat : Nat) : Int) = W := by omega
  have e2 : ((H.toNat : Nat) : Int) = H := by omega
  have : (n : Int) = ((W.toNat * H.toNat : Nat) : Int) := by rw [Int.natCast_mul, e1, e2]; exact h5
  omega

/-- Lay's answer: columns, rows, bytes. -/
def layR (UW UH : Int) (n : Nat) (OW OH : Int) (m : Nat) (U O : Nat → Int) (x y way : Int) : Int × Int × List Int :=
  if Num.layE UW UH n OW OH m way 8 9 = 0 then (UW, UH, Num.layL UW.toNat OW.toNat OH.toNat U O x y way (UW.toNat * UH.toNat)) else (0, 0, [])

theorem cellBy {w : World} {a : Option Addr} {n k : Nat} {X : Nat → Int} (h : ByAt w a n X) (hk : k < n) : ∃ b off, a = some ⟨b, off, none⟩ ∧ w.cell? ⟨b, off + k, none⟩ = some (.int .u8 (X k)) ∧ b < w.heap.size := by
  rcases h with h | ⟨b, off, rfl, hc⟩
  · omega
  · exact ⟨b, off, rfl, hc k hk, World.block_lt_of_cell? w _ (hc k hk)⟩

def gz (a b : Int) (v : Value) (q : Nat) : Value := [Value.int .i64 a, .int .i64 b, v][q]?.getD undef
theorem gz_row (a b : Int) (v : Value) (w : World) (t : TypeId) : (w.alloc (.cells #[.int .i64 a, .int .i64 b, v] t)).rowIs w.heap.size t 3 (gz a b v) := by
  refine World.rowIs_alloc w #[.int .i64 a, .int .i64 b, v] t _ (fun i hi => ?_)
  have hi : i < 3 := hi
  rcases (show i = 0 ∨ i = 1 ∨ i = 2 by omega) with rfl | rfl | rfl <;> rfl
theorem gz_cells {w : World} {p : Nat} {t : TypeId} {a b : Int} {v : Value} (h : w.rowIs p t 3 (gz a b v)) : w.cell? ⟨p, 0, none⟩ = some (.int .i64 a) ∧ w.cell? ⟨p, 1, none⟩ = some (.int .i64 b) ∧ w.cell? ⟨p, 2, none⟩ = some v :=
  ⟨h.cell (i := 0) (by omega), h.cell (i := 1) (by omega), h.cell (i := 2) (by omega)⟩
theorem gz_set {w : World} {p : Nat} {t : TypeId} {f : Nat → Value} (h : w.rowIs p t 3 f) (a b : Int) (v : Value) : (((w.setCell ⟨p, 0, none⟩ (.int .i64 a)).setCell ⟨p, 1, none⟩ (.int .i64 b)).setCell ⟨p, 2, none⟩ v).rowIs p t 3 (gz a b v) := by
  refine (((h.set 0 _).set 1 _).set 2 _).congr fun q hq => ?_
  rcases (show q = 0 ∨ q = 1 ∨ q = 2 by omega) with rfl | rfl | rfl <;> rfl
def byC (l : List Int) : List Value := l.map (Value.int .u8)
theorem byC_snoc (l : List Int) (z : Int) : byC (l ++ [z]) = byC l ++ [.int .u8 z] := by simp [byC]
theorem info_by : (Try.prog.info? 5).map (fun i => (i.zero, i.size, i.bytes)) = some (some (.int .u8 0), 1, 1) := by kernel_rfl

set_option maxRecDepth 100000 in
set_option maxHeartbeats 4000000 in
theorem picLay_no (a a' : Option Addr) (n m c c' : Nat) (UW UH OW OH x y way : Int) (w : World) (hE : Num.layE UW UH n OW OH m way 8 9 ≠ 0) :
    Calls Try.prog 56 #[.agg #[.int .i64 UW, .int .i64 UH, .slice a n c], .agg #[.int .i64 OW, .int .i64 OH, .slice a' m c'], .int .i64 x, .int .i64 y, .int .i64 way] w fun e w' => e = .returned (.tuple #[.agg #[.int .i64 0, .int .i64 0, .slice none 0 0], .int .i64 (Num.layE UW UH n OW OH m way 8 9)]) ∧ Below w.heap.size w w' := by
  unfold Num.layE at hE ⊢
  cases h1 : Num.picB UW UH n
  · simp only [h1, Bool.false_eq_true, false_and, if_false] at hE ⊢
    go_enter Try.func56, Try.ntmps56
    go_wp2_with (go_at_call 74; refine (isPicture_any _ _ _ _ _ _).mono ?_; rintro e w' ⟨rfl, rfl⟩)
    exact bodyPost_ret (v := .tuple #[.agg #[.int .i64 0, .int .i64 0, .slice none 0 0], .int .i64 8]) (by simp [results, Try.results56, go_sem]) rfl ⟨rfl, by (repeat (any_goals (first | exact Below.refl _ _ | assumption | refine Below.drew ?_ | refine below_drewN ?_ _ | refine Below.setCell ?_ ?_ _ | refine Below.alloc ?_ ?_ _ | omega | (simp; done) | (simp; omega))))⟩
  · cases h2 : Num.picB OW OH m
    · simp only [h1, h2, Bool.false_eq_true, and_false, if_false] at hE ⊢
      go_enter Try.func56, Try.ntmps56
      go_wp2_with (go_at_call 74; refine (isPicture_any _ _ _ _ _ _).mono ?_; rintro e w' ⟨rfl, rfl⟩)
      exact bodyPost_ret (v := .tuple #[.agg #[.int .i64 0, .int .i64 0, .slice none 0 0], .int .i64 8]) (by simp [results, Try.results56, go_sem]) rfl ⟨rfl, by (repeat (any_goals (first | exact Below.refl _ _ | assumption | refine Below.drew ?_ | refine below_drewN ?_ _ | refine Below.setCell ?_ ?_ _ | refine Below.alloc ?_ ?_ _ | omega | (simp; done) | (simp; omega))))⟩
    · simp only [h1, h2, and_self, if_true] at hE ⊢
      have hw : ¬ (0 ≤ way ∧ way ≤ 3) := fun h => by rw [if_pos h] at hE; exact hE rfl
      rw [if_neg hw]
      have w0 : (way != 0) = true := by simp; omega
      have w1 : (way != 1) = true := by simp; omega
      have w2 : (way != 2) = true := by simp; omega
      have w3 : (way != 3) = true := by simp; omega
      clear hE
      go_enter Try.func56, Try.ntmps56
      go_wp2_with (go_at_call 74; refine (isPicture_any _ _ _ _ _ _).mono ?_; rintro e w' ⟨rfl, rfl⟩)
      exact bodyPost_ret (v := .tuple #[.agg #[.int .i64 0, .int .i64 0, .slice none 0 0], .int .i64 9]) (by simp [results, Try.results56, go_sem]) rfl ⟨rfl, by (repeat (any_goals (first | exact Below.refl _ _ | assumption | refine Below.drew ?_ | refine below_drewN ?_ _ | refine Below.setCell ?_ ?_ _ | refine Below.alloc ?_ ?_ _ | omega | (simp; done) | (simp; omega))))⟩

set_option maxRecDepth 100000 in
set_option maxHeartbeats 4000000 in
theorem picLay_yes (a a' : Option Addr) (uw uh ow oh c c' : Nat) (U O : Nat → Int) (x y way : Int) (w : World) (hu : 1 ≤ uw ∧ uw ≤ 64 ∧ 1 ≤ uh ∧ uh ≤ 64) (ho : 1 ≤ ow ∧ ow ≤ 64 ∧ 1 ≤ oh ∧ oh ≤ 64) (hw : 0 ≤ way ∧ way ≤ 3)
    (hU : ByAt w a (uw * uh) U) (hO : ByAt w a' (ow * oh) O) (bU : ∀ k, k < uw * uh → 0 ≤ U k ∧ U k ≤ 255) (bO : ∀ k, k < ow * oh → 0 ≤ O k ∧ O k ≤ 255) :
    Calls Try.prog 56 #[.agg #[.int .i64 uw, .int .i64 uh, .slice a (uw * uh) c], .agg #[.int .i64 ow, .int .i64 oh, .slice a' (ow * oh) c'], .int .i64 x, .int .i64 y, .int .i64 way] w fun e w' => ∃ v, e = .returned (.tuple #[.agg #[.int .i64 uw, .int .i64 uh, v], .int .i64 0]) ∧ Below w.heap.size w w' ∧ w'.ownsRow w.heap.size 5 1 v (uw * uh) (byC (Num.layL uw ow oh U O x y way (uw * uh))) := by
  obtain ⟨i0, hi0, hz0, hz1, hz2⟩ := info_parts info_by
  obtain ⟨n, hn⟩ : ∃ n, n = uw * uh := ⟨_, rfl⟩
  obtain ⟨m, hm⟩ : ∃ m, m = ow * oh := ⟨_, rfl⟩
  have hn1 : n ≤ 4096 := by rw [hn]; exact Num.mul_le_sq hu.2.1 hu.2.2.2
  have hm1 : m ≤ 4096 := by rw [hm]; exact Num.mul_le_sq ho.2.1 ho.2.2.2
  have p1 : Num.picB (uw : Int) (uh : Int) n = true := by simp [Num.picB, hn]; omega
  have p2 : Num.picB (ow : Int) (oh : Int) m = true := by simp [Num.picB, hm]; omega
  have hway : ((way != 0) = false) ∨ ((way != 0) = true ∧ (way != 1) = false) ∨ ((way != 0) = true ∧ (way != 1) = true ∧ (way != 2) = false) ∨ ((way != 0) = true ∧ (way != 1) = true ∧ (way != 2) = true ∧ (way != 3) = false) := by
    rcases (show way = 0 ∨ way = 1 ∨ way = 2 ∨ way = 3 by omega) with rfl | rfl | rfl | rfl <;> simp
  rw [← hn] at hU bU ⊢
  rw [← hm] at hO bO ⊢
  obtain ⟨sb, hsb⟩ : ∃ sb, sb = w.heap.size := ⟨_, rfl⟩
  obtain ⟨W5, hW5⟩ : ∃ W5, W5 = ((((w.alloc (.cells #[.int .i64 uw, .int .i64 uh, .slice a n c] 57)).alloc (.cells #[.int .i64 ow, .int .i64 oh, .slice a' m c'] 57)).alloc (.cells #[.int .i64 0, .int .i64 0, .slice none 0 0] 57)).alloc (.cells #[.int .i64 uw, .int .i64 uh, .slice a n c] 57)).alloc (.cells #[.int .i64 ow, .int .i64 oh, .slice a' m c'] 57) := ⟨_, rfl⟩
  have hs5 : W5.heap.size = sb + 5 := by rw [hW5, hsb]; simp
  have hB5 : Below w.heap.size w W5 := by rw [hW5]; (repeat (any_goals (first | exact Below.refl _ _ | assumption | refine Below.drew ?_ | refine below_drewN ?_ _ | refine Below.setCell ?_ ?_ _ | refine Below.alloc ?_ ?_ _ | omega | (simp; done) | (simp; omega))))
  have hGu : W5.rowIs sb 57 3 (gz uw uh (.slice a n c)) := by rw [hW5, hsb]; exact ((((gz_row _ _ _ _ _).alloc _).alloc _).alloc _).alloc _
  have hGo : W5.rowIs (sb + 1) 57 3 (gz ow oh (.slice a' m c')) := by
    have h := gz_row ow oh (.slice a' m c') (w.alloc (.cells #[.int .i64 (uw : Int), .int .i64 (uh : Int), .slice a n c] 57)) 57
    rw [nblk_alloc] at h
    rw [hW5, hsb]; exact ((h.alloc _).alloc _).alloc _
  have hGz : W5.rowIs (sb + 1 + 1) 57 3 (gz 0 0 (.slice none 0 0)) := by
    have h := gz_row 0 0 (.slice none 0 0) ((w.alloc (.cells #[.int .i64 (uw : Int), .int .i64 (uh : Int), .slice a n c] 57)).alloc (.cells #[.int .i64 (ow : Int), .int .i64 (oh : Int), .slice a' m c'] 57)) 57
    rw [nblk_alloc, nblk_alloc] at h
    rw [hW5, hsb]; exact (h.alloc _).alloc _
  have HU := hide (hU.below hB5)
  have HO := hide (hO.below hB5)
  have HbU := hide bU
  have HbO := hide bO
  have HGu := hide hGu
  have HGo := hide hGo
  have HGz := hide hGz
  have HB5 : Hid (Below sb w W5) := by unfold Hid; rw [hsb]; exact hB5
  have HSb := hide hsb
  have HN := hide hn
  have HM := hide hm
  have HS5 := hide hs5
  clear hU hO bU bO hB5 hGu hGo hGz hn hm hs5
  rcases hway with w0 | ⟨w0, w1⟩ | ⟨w0, w1, w2⟩ | ⟨w0, w1, w2, w3⟩
  all_goals
    go_enter Try.func56, Try.ntmps56
    go_wp2_with (go_at_call 74; refine (isPicture_any _ _ _ _ _ _).mono ?_; rintro e w' ⟨rfl, rfl⟩)
    rw [← hW5]
    try rw [← hsb]
    clear hW5 hsb
    go_loopw [12, 13] (fun v t wr => ∃ j : Nat, j ≤ uh ∧ t = .int .i64 j ∧ Below (sb + 5) W5 wr ∧ wr.ownsRow (sb + 5) 5 1 v (j * uw) (byC (Num.layL uw ow oh U O x y way (j * uw)))) (fun _ t _ => uh - (intOf t).toNat)
    case atStart => exact ⟨0, by omega, rfl, Below.refl _ _, by simp [Num.layL, byC]; exact World.ownsRow_nil _ _ _ _⟩
    case round =>
      obtain ⟨wo, rfl⟩ : ∃ wo, wo = wr := ⟨_, rfl⟩
      obtain ⟨vo, rfl⟩ : ∃ vo, vo = u12 := ⟨_, rfl⟩
      obtain ⟨j, hj, rfl, hbo, howno⟩ := hrel
      have hszo := hbo.size
      have hS5 := HS5.out
      obtain ⟨u0, u1, u2⟩ := gz_cells (row_below HGu.out hbo (by omega))
      by_cases hlt : j < uh
      · have hd1 : decide ((j : Int) < (uh : Int)) = true := by simp; omega
        have hmj : j * uw + uw ≤ n := by rw [HN.out, Nat.mul_comm uw uh, ← Nat.succ_mul]; exact Nat.mul_le_mul_right uw hlt
        obtain ⟨ja, hja⟩ : ∃ ja, ja = j * uw := ⟨_, rfl⟩
        have hmul : (j : Int) * (uw : Int) = (ja : Int) := by rw [hja]; simp
        rw [← hja] at howno hmj
        have HJA := hide hja
        have HOo := hide howno
        have HBo := hide hbo
        clear howno hbo hja
        go_wp2_with fail
        go_loopw [12, 14] (fun v t wr => ∃ i : Nat, i ≤ uw ∧ t = .int .i64 i ∧ Below (sb + 5) W5 wr ∧ wr.ownsRow (sb + 5) 5 1 v (ja + i) (byC (Num.layL uw ow oh U O x y way (ja + i)))) (fun _ t _ => uw - (intOf t).toNat)
        case atStart => exact ⟨0, by omega, rfl, HBo.out, HOo.out⟩
        case round =>
          obtain ⟨v, rfl⟩ : ∃ v, v = u12 := ⟨_, rfl⟩
          obtain ⟨i, hi, rfl, hb1, hown⟩ := hrel
          have hsz := hb1.size
          clear u0 u1 u2
          obtain ⟨u0, u1, u2⟩ := gz_cells (row_below HGu.out hb1 (by omega))
          obtain ⟨o0, o1, o2⟩ := gz_cells (row_below HGo.out hb1 (by omega))
          by_cases hli : i < uw
          · have hdi : decide ((i : Int) < (uw : Int)) = true := by simp; omega
            have hin : ja + i < n := by omega
            obtain ⟨ub, uoff, rfl, cu, hub⟩ := cellBy (HU.out.below (hb1.mono (by omega))) hin
            have hUb := HbU.out _ hin
            have hw2 : IntKind.i64.wrap ((ja : Int) + (i : Int)) = ((ja + i : Nat) : Int) := by rw [wrap_ok _ (by omega) (by omega)]; omega
            have g0 : (0 : Int) ≤ (ja : Int) + (i : Int) := by omega
            have g1 : (ja : Int) + (i : Int) < (n : Int) := by omega
            have hmod : (ja + i) % uw = i := by rw [HJA.out, Nat.mul_comm j uw, Nat.mul_add_mod, Nat.mod_eq_of_lt hli]
            have hdiv : (ja + i) / uw = j := by rw [HJA.out, Nat.mul_comm j uw, Nat.mul_add_div (by omega), Nat.div_eq_of_lt hli, Nat.add_zero]
            have HSu := hide (Num.layL_succ uw ow oh U O x y way (ja + i))
            rw [hmod, hdiv] at HSu
            have HJi : Hid (j * uw + i = ja + i) := by unfold Hid; rw [HJA.out]
            obtain ⟨L, hL⟩ : ∃ L, L = byC (Num.layL uw ow oh U O x y way (ja + i)) := ⟨_, rfl⟩
            rw [← hL] at hown
            have HLs : Hid (byC (Num.layL uw ow oh U O x y way (ja + i + 1)) = L ++ [.int .u8 (Num.layV uw ow oh U O x y way i j)]) := by unfold Hid; rw [HSu.out, byC_snoc, hL]
            have HOw := hide hown
            have HBw := hide hb1
            have hi64 : i < 64 := by omega
            have hj64 : j < 64 := by omega
            clear hmod hdiv hL HSu hown hb1
            have cu' : wr.cell? ⟨ub, uoff + ((ja : Int) + (i : Int)).toNat, none⟩ = some (.int .u8 (U (ja + i))) := by rw [show ((ja : Int) + (i : Int)).toNat = ja + i by omega]; exact cu
            obtain ⟨z, hz⟩ : ∃ z, z = Num.layV uw ow oh U O x y way i j := ⟨_, rfl⟩
            rw [← hz] at HLs
            have hzv : Hid (z = if Num.covB x ow i = true ∧ Num.covB y oh j = true then Num.mixV (U (ja + i)) (O (((j : Int) - y).toNat * ow + ((i : Int) - x).toNat)) way else U (ja + i)) := by unfold Hid; rw [hz]; unfold Num.layV; rw [HJi.out]
            clear hz
            by_cases hcx : Num.covB x ow i = true
            · by_cases hcy : Num.covB y oh j = true
              · have bx : x ≤ (i : Int) ∧ (i : Int) - x < (ow : Int) := by simpa [Num.covB] using hcx
                have by' : y ≤ (j : Int) ∧ (j : Int) - y < (oh : Int) := by simpa [Num.covB] using hcy
                obtain ⟨jy, hjy⟩ : ∃ jy : Nat, (j : Int) - y = (jy : Int) := ⟨((j : Int) - y).toNat, by omega⟩
                obtain ⟨ix, hix⟩ : ∃ ix : Nat, (i : Int) - x = (ix : Int) := ⟨((i : Int) - x).toNat, by omega⟩
                obtain ⟨jo, hjo⟩ : ∃ jo, jo = jy * ow := ⟨_, rfl⟩
                have hmul2 : (jy : Int) * (ow : Int) = (jo : Int) := by rw [hjo]; simp
                have hom : jo + ix < m := by rw [hjo, HM.out]; exact Num.mul_row (by omega) (by omega)
                have he : ((jo : Int) + (i : Int) - x).toNat = jo + ix := by omega
                obtain ⟨ob, ooff, rfl, co, hob⟩ := cellBy (HO.out.below (HBw.out.mono (by omega))) hom
                have hOb := HbO.out _ hom
                have co' : wr.cell? ⟨ob, ooff + ((jo : Int) + (i : Int) - x).toNat, none⟩ = some (.int .u8 (O (jo + ix))) := by rw [he]; exact co
                have k0 : (0 : Int) ≤ (jo : Int) + (i : Int) - x := by omega
                have k1 : (jo : Int) + (i : Int) - x < (m : Int) := by omega
                have k2 : (jo : Int) + (i : Int) ≤ 1000000 := by omega
                have hx64 : -64 ≤ x ∧ x ≤ 64 := by omega
                have hzz : Hid (z = Num.mixV (U (ja + i)) (O (jo + ix)) way) := by
                  unfold Hid
                  rw [hzv.out, if_pos ⟨hcx, hcy⟩, hjo, show ((j : Int) - y).toNat = jy by omega, show ((i : Int) - x).toNat = ix by omega]
                have HMix := hide (fun w => mixed_any (U (ja + i)) (O (jo + ix)) way w hUb hOb hw)
                rw [← hzz.out] at HMix
                clear he hjo hzv hix
                go_wp2_with (first | (go_at_call 75; refine (liesP_any _ _ _ _ (by omega) (by omega)).mono ?_; rintro e w' ⟨rfl, hw'⟩; rw [hw']; clear hw') | (go_at_call 76; refine (HMix.out _).mono ?_; rintro e w' ⟨rfl, hw'⟩; rw [hw']; clear hw') | (at_builtin; refine wpList_append_lies _ rfl _ _ 55 rfl (sb + 5) 5 i0 (.int .u8 0) 1 1 Try.underlying55 hi0 hz0 hz1 hz2 rfl (by omega) v (ja + i) L rfl (HOw.out.alloc _) ⟨wr.heap.size, 0, none⟩ 1 1 [.int .u8 z] rfl rfl ?a1 ?a2 (by omega) ?a3 ?a4 ?a5 (wr.heap.size + 1) (by simp) ?_))
                try (case a1 => exact news_sp wr [.int .u8 z] _ _ rfl)
                case a2 => first | rfl | (intro u hu; simp at hu; subst hu; rfl)
                case a3 => unfold maxLen; omega
                case a4 => omega
                case a5 => first | omega | (simp; omega)
                intro g cap w4 hown4 hgrow hat hlt4
                have hb4 : Below (sb + 5) W5 w4 := (HBw.out.alloc (by omega) _).grown hgrow (by simp; omega) (fun q hq => (HOw.out.lt q hq).1)
                have HO4 : Hid (w4.ownsRow (sb + 5) 5 1 (.slice (some ⟨g, 0, none⟩) (ja + i + 1) cap) (ja + (i + 1)) (byC (Num.layL uw ow oh U O x y way (ja + (i + 1))))) := by
                  unfold Hid
                  rw [← Nat.add_assoc, HLs.out]
                  exact hown4
                clear hown4 hgrow hat
                go_wp2
                go_roundw
                case rel => exact ⟨i + 1, by omega, by go_num, hb4, HO4.out⟩
                case measure => simp [intOf]; omega
              · have hcy : Num.covB y oh j = false := by simpa using hcy
                have hzU : Hid (z = U (ja + i)) := by unfold Hid; rw [hzv.out, if_neg (fun e => by rw [e.2] at hcy; cases hcy)]
                clear hzv
                go_wp2_with (first | (go_at_call 75; refine (liesP_any _ _ _ _ (by omega) (by omega)).mono ?_; rintro e w' ⟨rfl, hw'⟩; rw [hw']; clear hw') | (at_builtin; refine wpList_append_lies _ rfl _ _ 55 rfl (sb + 5) 5 i0 (.int .u8 0) 1 1 Try.underlying55 hi0 hz0 hz1 hz2 rfl (by omega) v (ja + i) L rfl (HOw.out.alloc _) ⟨wr.heap.size, 0, none⟩ 1 1 [.int .u8 (U (ja + i))] rfl rfl ?a1 ?a2 (by omega) ?a3 ?a4 ?a5 (wr.heap.size + 1) (by simp) ?_))
                try (case a1 => exact news_sp wr [.int .u8 (U (ja + i))] _ _ rfl)
                case a2 => first | rfl | (intro u hu; simp at hu; subst hu; rfl)
                case a3 => unfold maxLen; omega
                case a4 => omega
                case a5 => first | omega | (simp; omega)
                intro g cap w4 hown4 hgrow hat hlt4
                have hb4 : Below (sb + 5) W5 w4 := (HBw.out.alloc (by omega) _).grown hgrow (by simp; omega) (fun q hq => (HOw.out.lt q hq).1)
                have HO4 : Hid (w4.ownsRow (sb + 5) 5 1 (.slice (some ⟨g, 0, none⟩) (ja + i + 1) cap) (ja + (i + 1)) (byC (Num.layL uw ow oh U O x y way (ja + (i + 1))))) := by
                  unfold Hid
                  rw [← Nat.add_assoc, HLs.out]
                  try rw [hzU.out]
                  exact hown4
                clear hown4 hgrow hat
                go_wp2
                go_roundw
                case rel => exact ⟨i + 1, by omega, by go_num, hb4, HO4.out⟩
                case measure => simp [intOf]; omega
            · have hcx : Num.covB x ow i = false := by simpa using hcx
              have hzU : Hid (z = U (ja + i)) := by unfold Hid; rw [hzv.out, if_neg (fun e => by rw [e.1] at hcx; cases hcx)]
              clear hzv
              go_wp2_with (first | (go_at_call 75; refine (liesP_any _ _ _ _ (by omega) (by omega)).mono ?_; rintro e w' ⟨rfl, hw'⟩; rw [hw']; clear hw') | (at_builtin; refine wpList_append_lies _ rfl _ _ 55 rfl (sb + 5) 5 i0 (.int .u8 0) 1 1 Try.underlying55 hi0 hz0 hz1 hz2 rfl (by omega) v (ja + i) L rfl (HOw.out.alloc _) ⟨wr.heap.size, 0, none⟩ 1 1 [.int .u8 (U (ja + i))] rfl rfl ?a1 ?a2 (by omega) ?a3 ?a4 ?a5 (wr.heap.size + 1) (by simp) ?_))
              try (case a1 => exact news_sp wr [.int .u8 (U (ja + i))] _ _ rfl)
              case a2 => first | rfl | (intro u hu; simp at hu; subst hu; rfl)
              case a3 => unfold maxLen; omega
              case a4 => omega
              case a5 => first | omega | (simp; omega)
              intro g cap w4 hown4 hgrow hat hlt4
              have hb4 : Below (sb + 5) W5 w4 := (HBw.out.alloc (by omega) _).grown hgrow (by simp; omega) (fun q hq => (HOw.out.lt q hq).1)
              have HO4 : Hid (w4.ownsRow (sb + 5) 5 1 (.slice (some ⟨g, 0, none⟩) (ja + i + 1) cap) (ja + (i + 1)) (byC (Num.layL uw ow oh U O x y way (ja + (i + 1))))) := by
                unfold Hid
                rw [← Nat.add_assoc, HLs.out]
                try rw [hzU.out]
                exact hown4
              clear hown4 hgrow hat
              go_wp2
              go_roundw
              case rel => exact ⟨i + 1, by omega, by go_num, hb4, HO4.out⟩
              case measure => simp [intOf]; omega
          · have e : i = uw := by omega
            have hdi : decide ((i : Int) < (uw : Int)) = false := by simp; omega
            have HOF : Hid (wr.ownsRow (sb + 5) 5 1 v ((j + 1) * uw) (byC (Num.layL uw ow oh U O x y way ((j + 1) * uw)))) := by
              unfold Hid
              rw [e, HJA.out, ← Nat.succ_mul] at hown
              exact hown
            have HB := hide hb1
            clear hown hb1
            go_wp2
            go_roundw
            case rel => exact ⟨j + 1, by omega, by go_num, HB.out, HOF.out⟩
            case measure => simp [intOf]; omega
      · have e : j = uh := by omega
        have hd0 : decide ((j : Int) < (uh : Int)) = false := by simp; omega
        have HOF : Hid (wo.ownsRow (sb + 5) 5 1 vo n (byC (Num.layL uw ow oh U O x y way n))) := by
          unfold Hid
          rw [e, Nat.mul_comm uh uw, ← HN.out] at howno
          exact howno
        have hZ2 := row_below HGz.out hbo (by omega)
        obtain ⟨z0, z1, z2⟩ := gz_cells hZ2
        have f0 := hZ2.frozen 0
        have f1 := hZ2.frozen 1
        have f2 := hZ2.frozen 2
        have hsl := hZ2.lt
        obtain ⟨ao, cap0, hv, _⟩ := owns_formN HOF.out
        have HR := hide (gz_set hZ2 uw uh vo)
        have hB : Below sb w wo := HB5.out.trans (hbo.mono (by omega))
        have HB : Hid (Below sb w (((wo.setCell ⟨sb + 1 + 1, 0, none⟩ (.int .i64 uw)).setCell ⟨sb + 1 + 1, 1, none⟩ (.int .i64 uh)).setCell ⟨sb + 1 + 1, 2, none⟩ vo)) := ((hB.setCell (p := ⟨sb + 1 + 1, 0, none⟩) (by show sb ≤ sb + 1 + 1; omega) _).setCell (p := ⟨sb + 1 + 1, 1, none⟩) (by show sb ≤ sb + 1 + 1; omega) _).setCell (p := ⟨sb + 1 + 1, 2, none⟩) (by show sb ≤ sb + 1 + 1; omega) _
        have HOG : Hid ((((wo.setCell ⟨sb + 1 + 1, 0, none⟩ (.int .i64 uw)).setCell ⟨sb + 1 + 1, 1, none⟩ (.int .i64 uh)).setCell ⟨sb + 1 + 1, 2, none⟩ vo).ownsRow sb 5 1 vo n (byC (Num.layL uw ow oh U O x y way n))) := by
          refine owns_mono (owns_of_block HOF.out (fun q hq => ?_)) (by omega)
          have hq1 := (HOF.out.lt q hq).1
          have hne : q ≠ sb + 1 + 1 := by omega
          rw [set_other hne, set_other hne, set_other hne]
        subst hv
        clear howno hbo hZ2 hB HOF
        go_wp2
        obtain ⟨wF, hwF⟩ : ∃ wF, wF = ((wo.setCell ⟨sb + 1 + 1, 0, none⟩ (.int .i64 uw)).setCell ⟨sb + 1 + 1, 1, none⟩ (.int .i64 uh)).setCell ⟨sb + 1 + 1, 2, none⟩ (.slice ao n cap0) := ⟨_, rfl⟩
        rw [← hwF]
        rw [← hwF] at HR HB HOG
        obtain ⟨g0, g1, g2⟩ := gz_cells HR.out
        exact bodyPost_ret (v := .tuple #[.agg #[.int .i64 uw, .int .i64 uh, .slice ao n cap0], .int .i64 0]) (by simp [results, Try.results56, go_sem, g0, g1, g2]) rfl ⟨_, rfl, by rw [← HSb.out]; exact HB.out, by rw [← HSb.out]; exact HOG.out⟩
end Go.Proofs.Ytkhcjkmifddlbab
