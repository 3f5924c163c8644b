/- Joined: AreaJ, Cv, Lend, Impl, CrvB, Spots, CvR, AreaK, CvRB, CvRC, CvRD. -/
import Derived.Test.YtkhcjkmifddlbabPart2
import Derived.Test.YtkhcjkmifddlbabPart3
import Derived.BigQuiet
import Derived.Deep.QuietTactic
import Derived.Test.YtkhcjkmifddlbabPart1
import Derived.Deep.AppendLies
import Derived.Deep.RegionWith
/- AreaJ -/
namespace Go.Proofs.Ytkhcjkmifddlbab
namespace Num

theorem gr_or (a b : Int) : gr a b = a ∨ gr a b = b := by unfold gr; split <;> simp
theorem ls_or (a b : Int) : lsV a b = a ∨ lsV a b = b := by unfold lsV; split <;> simp
theorem mul_lt_row {j r W : Nat} (h : j < r) : j * W + W ≤ r * W := by
  have := Nat.mul_le_mul_right W (show j + 1 ≤ r from h)
  rw [Nat.add_mul, Nat.one_mul] at this
  exact this
theorem idx_in {W H i j : Nat} (hi : i < W) (hj : j < H) : j * W + i < W * H := by
  have := mul_lt_row (W := W) hj
  rw [Nat.mul_comm W H]; omega
/-- The table behind one piece. -/
def tabAdd (W r c : Nat) (a b : Int) (T : Nat → Int) (k : Nat) : Int := if k = r * W + c then T k + a else if r * W + c < k ∧ k < r * W + W then T k + b else T k
theorem tabAdd_at {W i j c r : Nat} {a b : Int} {T : Nat → Int} (hi : i < W) (hc : c < W) :
    tabAdd W r c a b T (j * W + i) = T (j * W + i) + (if j = r then (if i < c then 0 else if i = c then a else b) else 0) := by
  unfold tabAdd
  rcases Nat.lt_trichotomy j r with h | h | h
  · have := mul_lt_row (W := W) h
    rw [if_neg (by omega), if_neg (by omega), if_neg (by omega)]; omega
  · subst h
    rw [if_pos rfl]
    by_cases e : i = c
    · subst e; rw [if_pos rfl, if_neg (by omega), if_pos rfl]
    · rw [if_neg (by omega)]
      by_cases d : i < c
      · rw [if_neg (by omega), if_pos d]; omega
      · rw [if_pos (by omega), if_neg d, if_neg e]
  · have := mul_lt_row (W := W) h
    rw [if_neg (by omega), if_neg (by omega), if_neg (by omega)]; omega
theorem tabAdd_bd {W r c : Nat} {a b B D : Int} {T : Nat → Int} {n : Nat} (hT : ∀ k, k < n → -B ≤ T k ∧ T k ≤ B) (ha : -D ≤ a ∧ a ≤ D) (hb : -D ≤ b ∧ b ≤ D) : ∀ k, k < n → -(B + D) ≤ tabAdd W r c a b T k ∧ tabAdd W r c a b T k ≤ B + D := by
  intro k hk
  have := hT k hk
  unfold tabAdd
  split
  · omega
  · split <;> omega

/-- A cell of a row: its column, what it counts there, what to the right. -/
abbrev Cl := Int × Int × Int
def cellA (x : Int) (c : Cl) : Int := (if c.1 < x then c.2.2 else 0) + (if c.1 = x then c.2.1 else 0)
def rowA (x : Int) : List Cl → Int
  | [] => 0
  | c :: r => cellA x c + rowA x r
def mass : List Cl → Int
  | [] => 0
  | c :: r => sz c.2.1 + sz c.2.2 + mass r
theorem sz_nn (n : Int) : 0 ≤ sz n := by unfold sz; split <;> omega
theorem sz_ge (n : Int) : -sz n ≤ n ∧ n ≤ sz n := by unfold sz; split <;> omega
theorem sz_add (a b : Int) : sz (a + b) ≤ sz a + sz b := by
  unfold sz; repeat' split
  all_goals omega
theorem rowA_append (x : Int) (l r : List Cl) : rowA x (l ++ r) = rowA x l + rowA x r := by
  induction l with
  | nil => simp [rowA]
  | cons c l ih => simp only [List.cons_append, rowA, ih]; omega
theorem mass_append (l r : List Cl) : mass (l ++ r) = mass l + mass r := by
  induction l with
  | nil => simp [mass]
  | cons c l ih => simp only [List.cons_append, mass, ih]; omega
theorem mass_nn (l : List Cl) : 0 ≤ mass l := by
  induction l with
  | nil => simp [mass]
  | cons c l ih => have := sz_nn c.2.1; have := sz_nn c.2.2; simp only [mass]; omega
theorem rowA_bd (x : Int) (l : List Cl) : -mass l ≤ rowA x l ∧ rowA x l ≤ mass l := by
  induction l with
  | nil => simp [mass, rowA]
  | cons c l ih =>
    have h1 := sz_ge c.2.1
    have h2 := sz_ge c.2.2
    simp only [mass, rowA, cellA]
    split <;> split <;> omega
theorem mass_take (l : List Cl) (k : Nat) : mass (l.take k) ≤ mass l := by
  have e : l = l.take k ++ l.drop k := (List.take_append_drop k l).symm
  have h : mass l = mass (l.take k) + mass (l.drop k) := by rw [← mass_append, List.take_append_drop]
  have := mass_nn (l.drop k)
  omega
theorem mass_mem {l : List Cl} {c : Cl} (h : c ∈ l) : sz c.2.1 + sz c.2.2 ≤ mass l := by
  induction l with
  | nil => cases h
  | cons d l ih =>
    have h1 := sz_nn d.2.1
    have h2 := sz_nn d.2.2
    have h3 := mass_nn l
    simp only [mass]
    rw [List.mem_cons] at h
    rcases h with h | h
    · subst h; omega
    · have := ih h; omega
/-- One cell more. -/
def insC (l : List Cl) (k : Nat) (s : Cl) : List Cl := l.take k ++ s :: l.drop k
theorem rowA_ins (x : Int) (l : List Cl) (k : Nat) (s : Cl) : rowA x (insC l k s) = rowA x l + cellA x s := by
  have h : rowA x l = rowA x (l.take k) + rowA x (l.drop k) := by rw [← rowA_append, List.take_append_drop]
  unfold insC
  rw [rowA_append, h]; simp only [rowA]; omega
theorem mass_ins (l : List Cl) (k : Nat) (s : Cl) : mass (insC l k s) = mass l + (sz s.2.1 + sz s.2.2) := by
  have h : mass l = mass (l.take k) + mass (l.drop k) := by rw [← mass_append, List.take_append_drop]
  unfold insC
  rw [mass_append, h]; simp only [mass]; omega
theorem len_ins (l : List Cl) (k : Nat) (s : Cl) (hk : k ≤ l.length) : (insC l k s).length = l.length + 1 := by
  unfold insC; simp; omega
/-- A cell that counts more. -/
def setC (l : List Cl) (k : Nat) (s : Cl) : List Cl := l.set k (s.1, (l[k]?.getD s).2.1 + s.2.1, (l[k]?.getD s).2.2 + s.2.2)
theorem split_at {l : List Cl} {k : Nat} (hk : k < l.length) : l = l.take k ++ l[k] :: l.drop (k + 1) := by
  rw [List.getElem_cons_drop, List.take_append_drop]
theorem set_at {l : List Cl} {k : Nat} {s : Cl} (hk : k < l.length) : setC l k s = l.take k ++ (s.1, l[k].2.1 + s.2.1, l[k].2.2 + s.2.2) :: l.drop (k + 1) := by
  unfold setC
  rw [List.set_eq_take_append_cons_drop, if_pos hk]
  simp [hk]
theorem rowA_set (x : Int) {l : List Cl} {k : Nat} {s : Cl} (hk : k < l.length) (hc : l[k].1 = s.1) : rowA x (setC l k s) = rowA x l + cellA x s := by
  have h : rowA x l = rowA x (l.take k) + (cellA x l[k] + rowA x (l.drop (k + 1))) := by
    have := congrArg (rowA x) (split_at hk)
    rw [rowA_append] at this
    simpa only [rowA] using this
  rw [set_at hk, rowA_append, h]
  simp only [rowA, cellA, hc]
  split <;> split <;> omega
theorem mass_set {l : List Cl} {k : Nat} {s : Cl} (hk : k < l.length) : mass (setC l k s) ≤ mass l + (sz s.2.1 + sz s.2.2) := by
  have h : mass l = mass (l.take k) + (sz l[k].2.1 + sz l[k].2.2 + mass (l.drop (k + 1))) := by
    have := congrArg mass (split_at hk)
    rw [mass_append] at this
    simpa only [mass] using this
  rw [set_at hk, mass_append, h]
  simp only [mass]
  have := sz_add l[k].2.1 s.2.1
  have := sz_add l[k].2.2 s.2.2
  omega
/-- The cells in which something is. -/
def fullB (c : Cl) : Bool := !(c.2.1 == 0) || !(c.2.2 == 0)
theorem rowA_filter (x : Int) (l : List Cl) : rowA x (l.filter fullB) = rowA x l := by
  induction l with
  | nil => rfl
  | cons c l ih =>
    by_cases h : fullB c = true
    · rw [List.filter_cons_of_pos h]; simp only [rowA, ih]
    · rw [List.filter_cons_of_neg h]
      simp [fullB] at h
      simp only [rowA, ih, cellA, h.1, h.2]
      split <;> split <;> omega
theorem mass_filter (l : List Cl) : mass (l.filter fullB) = mass l := by
  induction l with
  | nil => rfl
  | cons c l ih =>
    by_cases h : fullB c = true
    · rw [List.filter_cons_of_pos h]; simp only [mass, ih]
    · rw [List.filter_cons_of_neg h]
      simp [fullB] at h
      simp only [mass, ih, h.1, h.2]
      have : sz 0 = 0 := rfl
      omega
theorem cellA_share {i c a b : Int} : cellA i (c, a, b) = if i < c then 0 else if i = c then a else b := by
  unfold cellA
  simp only
  split <;> split <;> split <;> (try split) <;> omega

/-- How great a piece's numbers may be. -/
theorem piece_bd {t x0 y0 x1 y1 : Int} (ht : t = 1 ∨ t = -1) (hx : noL x0 x1) (hy : noL y0 y1) : (-8192 ≤ hereV t x0 y0 x1 y1 ∧ hereV t x0 y0 x1 y1 ≤ 8192) ∧ -8192 ≤ rightV t y0 y1 ∧ rightV t y0 y1 ≤ 8192 := by
  obtain ⟨r, h1, h2⟩ := noL_row hy
  have hh : -64 ≤ t * (y1 - y0) ∧ t * (y1 - y0) ≤ 64 := by rcases ht with rfl | rfl <;> omega
  have hc : 0 ≤ colV x0 x1 * 64 + 64 - gr x0 0 + (colV x0 x1 * 64 + 64) - gr x1 0 ∧ colV x0 x1 * 64 + 64 - gr x0 0 + (colV x0 x1 * 64 + 64) - gr x1 0 ≤ 128 := by
    obtain ⟨c0, k1, k2⟩ := noL_row hx
    have g0 := gr0 x0
    have g1 := gr0 x1
    unfold colV
    obtain ⟨m, hm⟩ : ∃ m, m = lsV (gr x0 0) (gr x1 0) := ⟨_, rfl⟩
    have hm2 : (m = gr x0 0 ∨ m = gr x1 0) ∧ m ≤ gr x0 0 ∧ m ≤ gr x1 0 := by rw [hm]; unfold lsV; split <;> omega
    rw [← hm, Int.tdiv_eq_ediv_of_nonneg (by omega)]
    omega
  refine ⟨?_, ?_⟩
  · unfold hereV
    have := mul_bd (t * (y1 - y0)) (colV x0 x1 * 64 + 64 - gr x0 0 + (colV x0 x1 * 64 + 64) - gr x1 0) 64 128 (by omega) (by omega)
    omega
  · unfold rightV; omega
theorem pcV_bd {t x0 y0 x1 y1 i j : Int} (ht : t = 1 ∨ t = -1) (hx : noL x0 x1) (hy : noL y0 y1) : -8192 ≤ pcV t x0 y0 x1 y1 i j ∧ pcV t x0 y0 x1 y1 i j ≤ 8192 := by
  have := piece_bd ht hx hy
  unfold pcV
  repeat' split
  all_goals omega
end Num
end Go.Proofs.Ytkhcjkmifddlbab

/- Cv -/
namespace Go.Proofs.Ytkhcjkmifddlbab
open Go.RowKit Go.Deep

set_option maxHeartbeats 400000 in
theorem lesser_any (a b : Int) (w : World) :
    Calls Try.prog 79 #[.int .i64 a, .int .i64 b] w fun e w' => e = .returned (.int .i64 (Num.lsV a b)) ∧ w' = w := by
  by_cases h : a < b
  · go_enter Try.func79, Try.ntmps79
    go_wp2
    go_ret
    exact ⟨ret_int (by unfold Num.lsV; rw [if_pos (by omega)]), rfl⟩
  · go_enter Try.func79, Try.ntmps79
    go_wp2
    go_ret
    exact ⟨ret_int (by unfold Num.lsV; rw [if_neg (by omega)]), rfl⟩

set_option maxHeartbeats 1000000 in
theorem shareOf_any (x0 y0 x1 y1 t : Int) (w : World) (ht : t = 1 ∨ t = -1) (h0 : -16384 ≤ x0 ∧ x0 ≤ 16384) (h1 : -16384 ≤ y0 ∧ y0 ≤ 16384) (h2 : -16384 ≤ x1 ∧ x1 ≤ 16384) (h3 : -16384 ≤ y1 ∧ y1 ≤ 16384) :
    Calls Try.prog 106 #[.agg #[.int .i64 x0, .int .i64 y0], .agg #[.int .i64 x1, .int .i64 y1], .int .i64 t] w fun e w' => e = .returned (.agg #[.int .i64 (Num.rowV y0 y1), .int .i64 (Num.colV x0 x1), .int .i64 (Num.hereV t x0 y0 x1 y1), .int .i64 (Num.rightV t y0 y1)]) ∧ Below w.heap.size w w' := by
  have g0 := Num.gr0 x0
  have g1 := Num.gr0 x1
  have hm := Num.ls_or (Num.gr x0 0) (Num.gr x1 0)
  have hr := Num.ls_or y0 y1
  obtain ⟨M, hM⟩ : ∃ M, M = Num.lsV (Num.gr x0 0) (Num.gr x1 0) := ⟨_, rfl⟩
  have hC : Num.colV x0 x1 = Num.lsV (Num.gr x0 0) (Num.gr x1 0) / 64 := by
    unfold Num.colV
    rw [Int.tdiv_eq_ediv_of_nonneg (by omega)]
  have hh : -32768 ≤ t * (y1 - y0) ∧ t * (y1 - y0) ≤ 32768 := by rcases ht with rfl | rfl <;> omega
  have hp := Num.mul_bd (t * (y1 - y0)) (Num.lsV (Num.gr x0 0) (Num.gr x1 0) / 64 * 64 + 64 - Num.gr x0 0 + (Num.lsV (Num.gr x0 0) (Num.gr x1 0) / 64 * 64 + 64) - Num.gr x1 0) 32768 65536 (by omega) (by omega)
  have e1 : Num.hereV t x0 y0 x1 y1 = t * (y1 - y0) * (Num.lsV (Num.gr x0 0) (Num.gr x1 0) / 64 * 64 + 64 - Num.gr x0 0 + (Num.lsV (Num.gr x0 0) (Num.gr x1 0) / 64 * 64 + 64) - Num.gr x1 0) := by unfold Num.hereV; rw [hC]
  have e2 : Num.rightV t y0 y1 = t * (y1 - y0) * 2 * 64 := rfl
  have HE := hide (And.intro hC (And.intro e1 e2))
  clear hC e1 e2 hM
  go_enter Try.func106, Try.ntmps106
  go_wp2_with (first | (go_at_call 89; refine (greater_any _ _ _).mono ?_; rintro e w' ⟨rfl, rfl⟩) | (go_at_call 79; refine (lesser_any _ _ _).mono ?_; rintro e w' ⟨rfl, rfl⟩))
  refine bodyPost_ret (v := .agg #[.int .i64 (Num.rowV y0 y1), .int .i64 (Num.colV x0 x1), .int .i64 (Num.hereV t x0 y0 x1 y1), .int .i64 (Num.rightV t y0 y1)]) (by rw [HE.out.1, HE.out.2.1, HE.out.2.2]; simp [results, Try.results106, go_sem, Num.rowV]) rfl ⟨rfl, ?_⟩
  (repeat (any_goals (first | exact Below.refl _ _ | assumption | refine Below.drew ?_ | refine below_drewN ?_ _ | refine Below.setCell ?_ ?_ _ | refine Below.alloc ?_ ?_ _ | omega | (simp; done) | (simp; omega))))

/-- The seven cells of a canvas. -/
def cv7 (W H st tk tw : Int) (ta tr : Value) (q : Nat) : Value := [.int .i64 W, .int .i64 H, .int .i64 st, .int .i64 tk, .int .i64 tw, ta, tr][q]?.getD undef
def sh4 (r c a b : Int) (q : Nat) : Value := [Value.int .i64 r, .int .i64 c, .int .i64 a, .int .i64 b][q]?.getD undef
theorem sh4_row (r c a b : Int) (w : World) (t : TypeId) : (w.alloc (.cells #[.int .i64 r, .int .i64 c, .int .i64 a, .int .i64 b] t)).rowIs w.heap.size t 4 (sh4 r c a b) := by
  refine World.rowIs_alloc w #[.int .i64 r, .int .i64 c, .int .i64 a, .int .i64 b] t (sh4 r c a b) (fun i hi => ?_)
  have hi : i < 4 := hi
  rcases (show i = 0 ∨ i = 1 ∨ i = 2 ∨ i = 3 by omega) with rfl | rfl | rfl | rfl <;> rfl

set_option maxHeartbeats 1000000 in
theorem tabAdd_any (b g W H r c : Nat) (a1 b1 B : Int) (T : Nat → Int) (tt : TypeId) (f : Nat → Value) (w : World) (hW : 1 ≤ W ∧ W ≤ 64) (hH : H ≤ 64) (hr : r < H) (hc : c < W)
    (hR : w.rowIs b tt 7 f) (f4 : f 4 = .int .i64 W) (f5 : f 5 = .slice (some ⟨g, 0, none⟩) (W * H) (W * H)) (hbg : b ≠ g) (hT : w.rowIs g 3 (W * H) (fun k => .int .i64 (T k)))
    (hB : B ≤ 4611686018427387904) (hTB : ∀ k, k < W * H → -B ≤ T k ∧ T k ≤ B) (ha : -8192 ≤ a1 ∧ a1 ≤ 8192) (hb : -8192 ≤ b1 ∧ b1 ≤ 8192) :
    Calls Try.prog 108 #[.pointer (some ⟨b, 4, none⟩), .agg #[.int .i64 r, .int .i64 c, .int .i64 a1, .int .i64 b1]] w fun e w' => e = .returned (.tuple #[]) ∧ Touch (fun q => q = g) w w' ∧ w'.rowIs g 3 (W * H) (fun k => .int .i64 (Num.tabAdd W r c a1 b1 T k)) := by
  have hrow := Num.mul_lt_row (W := W) hr
  rw [Nat.mul_comm H W] at hrow
  have hWH : W * H ≤ 4096 := Nat.mul_le_mul hW.2 hH
  obtain ⟨P, hP⟩ : ∃ P : Nat, P = r * W := ⟨_, rfl⟩
  have hPi : (r : Int) * (W : Int) = (P : Int) := by rw [hP]; simp
  rw [← hP] at hrow
  have HTA : Hid (∀ k, Num.tabAdd W r c a1 b1 T k = if k = P + c then T k + a1 else if P + c < k ∧ k < P + W then T k + b1 else T k) := fun k => by rw [hP]; rfl
  obtain ⟨n, hn⟩ : ∃ n, n = W * H := ⟨_, rfl⟩
  rw [← hn] at f5 hT hTB hrow hWH ⊢
  have w1 : IntKind.i64.wrap ((r : Int) * (W : Int)) = (P : Int) := by rw [hPi]; exact wrap_ok _ (by omega) (by omega)
  have w2 : IntKind.i64.wrap ((P : Int) + (c : Int)) = ((P + c : Nat) : Int) := by rw [wrap_ok _ (by omega) (by omega)]; omega
  have w3 : IntKind.i64.wrap ((P : Int) + (W : Int)) = ((P + W : Nat) : Int) := by rw [wrap_ok _ (by omega) (by omega)]; omega
  have HS := hide (sh4_row r c a1 b1 w 167)
  have HR := hide (hR.alloc (.cells #[.int .i64 (r : Int), .int .i64 (c : Int), .int .i64 a1, .int .i64 b1] 167))
  have HT := hide (hT.alloc (.cells #[.int .i64 (r : Int), .int .i64 (c : Int), .int .i64 a1, .int .i64 b1] 167))
  have hTo : Hid (Touch (fun q => q = g) w (w.alloc (.cells #[.int .i64 (r : Int), .int .i64 (c : Int), .int .i64 a1, .int .i64 b1] 167))) := (Touch.refl _ _).alloc _
  have hgs : g < w.heap.size := hT.lt
  have HTB := hide hTB
  clear hR hT hP hPi hn hTB
  go_enter Try.func108, Try.ntmps108
  go_wp2_with fail
  obtain ⟨sb, hsb⟩ : ∃ sb, sb = w.heap.size := ⟨_, rfl⟩
  obtain ⟨W1, hW1⟩ : ∃ W1, W1 = w.alloc (.cells #[.int .i64 (r : Int), .int .i64 (c : Int), .int .i64 a1, .int .i64 b1] 167) := ⟨_, rfl⟩
  rw [← hsb] at HS
  rw [← hW1] at HS HR HT hTo
  rw [← hW1, ← hsb]
  have hgs2 : g ≠ sb := by omega
  clear hW1 hsb
  have s0 := HS.out.cell (i := 0) (by omega)
  have s1 := HS.out.cell (i := 1) (by omega)
  have k4 := HR.out.cell (i := 4) (by omega)
  rw [f4] at k4
  change W1.cell? ⟨sb, 0, none⟩ = some (.int .i64 (r : Int)) at s0
  change W1.cell? ⟨sb, 1, none⟩ = some (.int .i64 (c : Int)) at s1
  go_quiet (fail)
  go_wp2_with fail
  go_quiet (fail)
  go_wp2_with fail
  go_loopw [6] (fun t wr => ∃ k : Nat, P + c ≤ k ∧ k ≤ P + W ∧ t = .int .i64 k ∧ Touch (fun q => q = g) W1 wr ∧ wr.rowIs g 3 n (fun q => .int .i64 (if q < k then Num.tabAdd W r c a1 b1 T q else T q))) (fun t _ => P + W - (intOf t).toNat)
  case atStart =>
    refine ⟨P + c, by omega, by omega, by first | rfl | go_num, ((Touch.refl _ _).drewN _).drewN _, ?_⟩
    refine (World.rowIs.of_block HT.out rfl).congr fun q _ => ?_
    split
    · rw [HTA.out, if_neg (by omega), if_neg (by omega)]
    · rfl
  case round =>
    obtain ⟨k, hk1, hk2, rfl, hto, hrowg⟩ := hrel
    have hR2 := hto.row HR.out hbg
    have hS2 := hto.row HS.out (fun e => hgs2 e.symm)
    have k5 := hR2.cell (i := 5) (by omega)
    rw [f5] at k5
    by_cases hlt : k < P + W
    · have kg := hrowg.cell (i := k) (by omega)
      rw [if_neg (Nat.lt_irrefl _)] at kg
      have fz := hrowg.frozen k
      have hd1 : decide ((k : Int) < ((P + W : Nat) : Int)) = true := by simp; omega
      have hd2 : decide ((k : Int) < (n : Int)) = true := by simp; omega
      have i0 : (0 : Int) ≤ (k : Int) := by omega
      have i1 : (k : Int) < (n : Int) := by omega
      have hb1 := HTB.out k (by omega)
      have HG := hide hrowg
      have HTo := hide hto
      by_cases he : k = P + c
      · subst he
        have s2 := hS2.cell (i := 2) (by omega)
        change wr.cell? ⟨sb, 2, none⟩ = some (.int .i64 a1) at s2
        have wa : IntKind.i64.wrap (T (P + c) + a1) = T (P + c) + a1 := wrap_ok _ (by omega) (by omega)
        have HN : Hid ((wr.setCell ⟨g, P + c, none⟩ (.int .i64 (T (P + c) + a1))).rowIs g 3 n (fun q => .int .i64 (if q < P + c + 1 then Num.tabAdd W r c a1 b1 T q else T q))) := by
          refine (HG.out.set (P + c) _).congr fun q _ => ?_
          by_cases e : q = P + c
          · subst e
            rw [if_pos rfl, if_pos (by omega), HTA.out, if_pos rfl]
          · rw [if_neg e]
            by_cases d : q < P + c
            · rw [if_pos d, if_pos (by omega)]
            · rw [if_neg d, if_neg (by omega)]
        clear hR2 hS2 hrowg hto
        go_wp2_with fail
        go_region
        all_goals go_wp2
        all_goals go_roundw
        case rel => exact ⟨P + c + 1, by omega, by omega, by go_num, (HTo.out.drew).setCell (.inl rfl) _, HN.out⟩
        case measure => simp [intOf]; omega
      · have s3 := hS2.cell (i := 3) (by omega)
        change wr.cell? ⟨sb, 3, none⟩ = some (.int .i64 b1) at s3
        have wa : IntKind.i64.wrap (T k + b1) = T k + b1 := wrap_ok _ (by omega) (by omega)
        have hde : decide ((k : Int) = ((P + c : Nat) : Int)) = false := by simp; omega
        have HN : Hid ((wr.setCell ⟨g, k, none⟩ (.int .i64 (T k + b1))).rowIs g 3 n (fun q => .int .i64 (if q < k + 1 then Num.tabAdd W r c a1 b1 T q else T q))) := by
          refine (HG.out.set k _).congr fun q _ => ?_
          by_cases e : q = k
          · subst e
            rw [if_pos rfl, if_pos (by omega), HTA.out, if_neg (by omega), if_pos (by omega)]
          · rw [if_neg e]
            by_cases d : q < k
            · rw [if_pos d, if_pos (by omega)]
            · rw [if_neg d, if_neg (by omega)]
        clear hR2 hS2 hrowg hto
        go_wp2_with fail
        go_region
        all_goals go_wp2
        all_goals go_roundw
        case rel => exact ⟨k + 1, by omega, by omega, by go_num, (HTo.out.drew).setCell (.inl rfl) _, HN.out⟩
        case measure => simp [intOf]; omega
    · have hd1 : decide ((k : Int) < ((P + W : Nat) : Int)) = false := by simp; omega
      have HG := hide hrowg
      have HTo := hide (hTo.out.trans hto)
      clear hR2 hS2 hrowg hto
      go_wp2
      go_end0
      exact ⟨rfl, HTo.out, HG.out.congr fun q hq => by
        by_cases d : q < k
        · rw [if_pos d]
        · rw [if_neg d, HTA.out, if_neg (by omega), if_neg (by omega)]⟩

set_option maxHeartbeats 1000000 in
theorem tabArea_any (b g W H i j : Nat) (T : Nat → Int) (tt : TypeId) (f : Nat → Value) (w : World) (hW : 1 ≤ W ∧ W ≤ 64) (hH : H ≤ 64) (hj : j < H) (hi : i < W)
    (hR : w.rowIs b tt 7 f) (f4 : f 4 = .int .i64 W) (f5 : f 5 = .slice (some ⟨g, 0, none⟩) (W * H) (W * H)) (hT : w.rowIs g 3 (W * H) (fun k => .int .i64 (T k))) :
    Calls Try.prog 66 #[.pointer (some ⟨b, 4, none⟩), .int .i64 i, .int .i64 j] w fun e w' => e = .returned (.int .i64 (T (j * W + i))) ∧ w' = w := by
  have hrow := Num.idx_in (W := W) (H := H) hi hj
  have hWH : W * H ≤ 4096 := Nat.mul_le_mul hW.2 hH
  obtain ⟨P, hP⟩ : ∃ P : Nat, P = j * W := ⟨_, rfl⟩
  have hPi : (j : Int) * (W : Int) = (P : Int) := by rw [hP]; simp
  rw [← hP] at hrow ⊢
  obtain ⟨n, hn⟩ : ∃ n, n = W * H := ⟨_, rfl⟩
  rw [← hn] at f5 hT hrow hWH
  have k4 := hR.cell (i := 4) (by omega)
  rw [f4] at k4
  have k5 := hR.cell (i := 5) (by omega)
  rw [f5] at k5
  have kg := hT.cell (i := P + i) (by omega)
  have i0 : (0 : Int) ≤ (P : Int) + (i : Int) := by omega
  have i1 : (P : Int) + (i : Int) < (n : Int) := by omega
  have hd : decide ((n : Int) ≤ (P : Int) + (i : Int)) = false := by simp; omega
  have hd0 : decide ((P : Int) + (i : Int) < 0) = false := by simp; omega
  clear hR hT hP hn
  go_enter Try.func66, Try.ntmps66
  go_wp2_with fail
  all_goals
    go_ret
    exact ⟨rfl, rfl⟩
end Go.Proofs.Ytkhcjkmifddlbab

/- Lend -/
namespace Go.Proofs.Ytkhcjkmifddlbab
open Go.RowKit Go.Deep

theorem info_ptslice : (Try.prog.info? 41).map (fun i => (i.zero, i.size, i.bytes)) = some (some (.slice none 0 0), 1, 24) := by kernel_rfl
theorem info_pt : (Try.prog.info? 90).map (fun i => (i.zero, i.size, i.bytes)) = some (some (.agg #[.int .i64 0, .int .i64 0, .int .i64 0]), 3, 24) := by kernel_rfl

theorem mk_outer (N : Nat) (hN : N ≤ 4294967296) (w : World) : (Instr.makeSlice 22 (.int .i64 ((N : Int) + 2)) (.int .i64 ((N : Int) + 2))).run Try.prog w = .ok (.slice (some ⟨w.heap.size, 0, none⟩) (N + 2) (N + 2)) (w.alloc (.cells (madeCells #[.slice none 0 0] (N + 2)) 41)) := by
  obtain ⟨i, hi, hz0, hz1, hz2⟩ := info_parts info_ptslice
  have h := run_make (P := Try.prog) w 22 41 i _ Try.underlying22 hi hz0 .i64 .i64 ((N : Int) + 2) ((N : Int) + 2) (by omega) (Int.le_refl _) (by rw [hz2]; omega) (by omega)
  rw [hz1, show ((N : Int) + 2).toNat = N + 2 by omega] at h
  simpa [Value.cells] using h
theorem mk_inner (N : Nat) (hN : N ≤ 4294967296) (w : World) : (Instr.makeSlice 41 (.int .i64 ((N : Int) + 2)) (.int .i64 ((N : Int) + 2))).run Try.prog w = .ok (.slice (some ⟨w.heap.size, 0, none⟩) (N + 2) (N + 2)) (w.alloc (.cells (madeCells #[.int .i64 0, .int .i64 0, .int .i64 0] ((N + 2) * 3)) 90)) := by
  obtain ⟨i, hi, hz0, hz1, hz2⟩ := info_parts info_pt
  have h := run_make (P := Try.prog) w 41 90 i _ Try.underlying41 hi hz0 .i64 .i64 ((N : Int) + 2) ((N : Int) + 2) (by omega) (Int.le_refl _) (by rw [hz2]; omega) (by omega)
  rw [hz1, show ((N : Int) + 2).toNat = N + 2 by omega] at h
  simpa [Value.cells] using h

theorem mk_two (w : World) : (Instr.makeSlice 41 (.int .i64 2) (.int .i64 2)).run Try.prog w = .ok (.slice (some ⟨w.heap.size, 0, none⟩) 2 2) (w.alloc (.cells (madeCells #[.int .i64 0, .int .i64 0, .int .i64 0] 6) 90)) := by
  simpa using mk_inner 0 (by omega) w

/-- One list of lend's: the loop that fills it. -/
def filled (l k : Nat) (X Y K : Nat → Int) (q : Nat) : Value := pc (fun j => if j < k then lx l X j else 0) (fun j => if j < k then ly l Y j else 0) (fun j => if j < k then lk l K j else 0) q

theorem filled_step {w : World} {b m l j : Nat} {t : TypeId} {X Y K : Nat → Int} (h : w.rowIs b t (m * 3) (filled l j X Y K)) {x y z : Int} (hx : x = lx l X j) (hy : y = ly l Y j) (hz : z = lk l K j) :
    (((w.setCell ⟨b, j * 3, none⟩ (.int .i64 x)).setCell ⟨b, j * 3 + 1, none⟩ (.int .i64 y)).setCell ⟨b, j * 3 + 2, none⟩ (.int .i64 z)).rowIs b t (m * 3) (filled l (j + 1) X Y K) := by
  refine (row_setPt (X := fun i => if i < j then lx l X i else 0) (Y := fun i => if i < j then ly l Y i else 0) (K := fun i => if i < j then lk l K i else 0) h j x y z).congr fun q hq => ?_
  unfold filled
  refine pc_congr (m := m) (fun i _ => ?_) q hq
  by_cases e : i = j
  · subst e; simp [hx, hy, hz]
  · by_cases e2 : i < j
    · simp [e, e2, show i < j + 1 by omega]
    · simp [e, e2, show ¬ i < j + 1 by omega]
theorem filled_start (w : World) (l : Nat) (t : TypeId) (X Y K : Nat → Int) : (w.alloc (.cells (madeCells #[.int .i64 0, .int .i64 0, .int .i64 0] ((l + 2) * 3)) t)).rowIs w.heap.size t ((l + 2) * 3) (filled l 0 X Y K) := by
  refine (row_made3 w (l + 2) t).congr fun q hq => ?_
  unfold filled
  exact pc_congr (m := l + 2) (fun i _ => by simp) q hq
theorem filled_done {w : World} {b l : Nat} {t : TypeId} {X Y K : Nat → Int} (h : w.rowIs b t ((l + 2) * 3) (filled l (l + 2) X Y K)) : w.rowIs b t ((l + 2) * 3) (pc (lx l X) (ly l Y) (lk l K)) := by
  refine h.congr fun q hq => ?_
  unfold filled
  exact pc_congr (m := l + 2) (fun i hi => by simp [hi]) q hq

theorem lend_step {S N k l : Nat} {n B : Nat → Nat} {X Y K : Nat → Nat → Int} {wo wr : World} (hk : k < N + 2) (hl : ln N n k = l)
    (hrow : wo.rowIs S 41 (N + 2) (fun i => if i < k then .slice (some ⟨B i, 0, none⟩) (ln N n i) (ln N n i + 2) else .slice none 0 0))
    (h3 : (∀ i, i < k → S ≤ B i) ∧ (∀ i j, i < k → j < k → B i = B j → i = j) ∧ (∀ i, i < k → wo.rowIs (B i) 90 ((ln N n i + 2) * 3) (pc (lx (ln N n i) (X i)) (ly (ln N n i) (Y i)) (lk (ln N n i) (K i)))))
    (hbq : Below wo.heap.size wo wr) (hq : wr.rowIs wo.heap.size 90 ((l + 2) * 3) (pc (lx l (X k)) (ly l (Y k)) (lk l (K k)))) :
    ∃ B' : Nat → Nat, (wr.setCell ⟨S, k, none⟩ (.slice (some ⟨wo.heap.size, 0, none⟩) l (l + 2))).rowIs S 41 (N + 2) (fun i => if i < k + 1 then .slice (some ⟨B' i, 0, none⟩) (ln N n i) (ln N n i + 2) else .slice none 0 0) ∧
      (∀ i, i < k + 1 → S ≤ B' i) ∧ (∀ i j, i < k + 1 → j < k + 1 → B' i = B' j → i = j) ∧
      (∀ i, i < k + 1 → (wr.setCell ⟨S, k, none⟩ (.slice (some ⟨wo.heap.size, 0, none⟩) l (l + 2))).rowIs (B' i) 90 ((ln N n i + 2) * 3) (pc (lx (ln N n i) (X i)) (ly (ln N n i) (Y i)) (lk (ln N n i) (K i)))) := by
  obtain ⟨hge, hinj, hin⟩ := h3
  have hS := hrow.lt
  refine ⟨fun i => if i = k then wo.heap.size else B i, ?_, ?_, ?_, ?_⟩
  · refine ((row_below hrow hbq hS).set k _).congr fun i hi => ?_
    by_cases e : i = k
    · subst e; simp [hl]
    · by_cases e2 : i < k
      · simp [e, e2, show i < k + 1 by omega]
      · simp [e, e2, show ¬ i < k + 1 by omega]
  · intro i hi
    by_cases e : i = k
    · simp [e]; omega
    · simp [e]; exact hge i (by omega)
  · intro i j hi hj
    by_cases e : i = k <;> by_cases e' : j = k
    · intro; omega
    · simp [e, e']; intro h; have := (hin j (by omega)).lt; omega
    · simp [e, e']; intro h; have := (hin i (by omega)).lt; omega
    · simp [e, e']; exact hinj i j (by omega) (by omega)
  · intro i hi
    by_cases e : i = k
    · subst e
      simp only [if_pos, hl]
      exact hq.setOther (by simp; omega) _
    · simp only [if_neg e]
      have h := hin i (by omega)
      exact (row_below h hbq h.lt).setOther (by simpa using row_ne h hrow (by decide)) _

end Go.Proofs.Ytkhcjkmifddlbab

/- Impl -/
namespace Go.Proofs.Ytkhcjkmifddlbab
open Go.RowKit Go.Deep

/-- The cells of a point. -/
def ptC (p : Int × Int × Int) : List Value := [.int .i64 p.1, .int .i64 p.2.1, .int .i64 p.2.2]
/-- The points of the first k points' list, the implied ones among them. -/
def impU (X Y K : Nat → Int) (n k : Nat) : List (Int × Int × Int) := (List.range k).flatMap (Num.impF X Y K n)
theorem impU_succ (X Y K : Nat → Int) (n k : Nat) : impU X Y K n (k + 1) = impU X Y K n k ++ Num.impF X Y K n k := by
  unfold impU; rw [List.range_succ, List.flatMap_append]; simp
theorem impU_len (X Y K : Nat → Int) (n k : Nat) : (impU X Y K n k).length ≤ 2 * k := Num.imp_length k

/-- One point more in a row of points that the call owns. -/
theorem push_pt {w : World} {base : Nat} {v : Value} {l l' : List (Int × Int × Int)} {p : Int × Int × Int} {m : Nat} (h : w.ownsRow base 90 3 v m (l.flatMap ptC ++ [.int .i64 p.1, .int .i64 p.2.1, .int .i64 p.2.2])) (hl : l' = l ++ [p]) (hm : m = l.length + 1) : w.ownsRow base 90 3 v l'.length (l'.flatMap ptC) := by
  have e1 : l'.length = m := by rw [hl, hm]; simp
  have e2 : l'.flatMap ptC = l.flatMap ptC ++ [.int .i64 p.1, .int .i64 p.2.1, .int .i64 p.2.2] := by rw [hl]; simp [ptC]
  rw [e1, e2]; exact h

theorem owns_ne_new {w : World} {base : Nat} {t : TypeId} {sz : Nat} {v : Value} {n : Nat} {xs : List Value} (h : w.ownsRow base t sz v n xs) {b : Nat} (hb : w.heap.size ≤ b) : some b ≠ v.ownBlock := fun e => by
  have := (h.lt b e.symm).2; omega

theorem news_new (W : World) (cs : List Value) (t : TypeId) (H : Nat) (hH : W.heap.size = H) : ∀ (j : Nat) (u : Value), cs[j]? = some u → (W.alloc (.cells cs.toArray t)).cell? ((⟨H, 0, none⟩ : Addr).add j) = some u := by
  intro j u hj
  subst hH
  have e2 : ((⟨W.heap.size, 0, none⟩ : Addr).add j) = ⟨W.heap.size, j, none⟩ := by
    unfold Addr.add
    split
    · rename_i h; simp_all
    · simp
  have hlt : j < cs.length := by
    rcases Nat.lt_or_ge j cs.length with h | h
    · exact h
    · rw [List.getElem?_eq_none h] at hj; cases hj
  have hr := (World.rowIs_alloc W cs.toArray t (fun i => cs[i]?.getD u) (fun i hi => by simp at hi; simp [hi])).cell (i := j) (by simpa using hlt)
  rw [e2, hr]
  simp [hj]
theorem one_ints (a b c : Int) : ∀ u ∈ [Value.int .i64 a, .int .i64 b, .int .i64 c], u.oneCell' = true := by
  intro u hu
  simp at hu
  rcases hu with rfl | rfl | rfl <;> rfl

theorem impF_no {X Y K : Nat → Int} {n k : Nat} (h : ¬ (K k = 1 ∧ K (Num.nx n k) = 1)) : Num.impF X Y K n k = [(2 * X k, 2 * Y k, K k)] := by unfold Num.impF; rw [if_neg h]
theorem impF_yes {X Y K : Nat → Int} {n k : Nat} (h : K k = 1 ∧ K (Num.nx n k) = 1) : Num.impF X Y K n k = [(2 * X k, 2 * Y k, K k)] ++ [(X k + X (Num.nx n k), Y k + Y (Num.nx n k), 0)] := by unfold Num.impF; rw [if_pos h]; rfl

set_option maxRecDepth 100000 in
set_option maxHeartbeats 2000000 in
theorem withImplied_any (a : Option Addr) (n c : Nat) (X Y K : Nat → Int) (w : World) (hn : n ≤ 2097152) (hX : ∀ i, i < n → -4096 ≤ X i ∧ X i ≤ 4096) (hY : ∀ i, i < n → -4096 ≤ Y i ∧ Y i ≤ 4096) (hr : RingAt w a n X Y K) :
    Calls Try.prog 95 #[.slice a n c] w fun e w' => ∃ v, e = .returned v ∧ Below w.heap.size w w' ∧ w'.ownsRow w.heap.size 90 3 v (impU X Y K n n).length ((impU X Y K n n).flatMap ptC) := by
  have HR := hide hr
  have HX := hide hX
  have HY := hide hY
  clear hr hX hY
  obtain ⟨i0, hi0, hz0, hz1, hz2⟩ := info_parts info_pt
  go_enter Try.func95, Try.ntmps95
  go_wp2_with fail
  go_loopw [3, 9] (fun v t wr => ∃ k : Nat, k ≤ n ∧ t = .int .i64 k ∧ Below w.heap.size w wr ∧ wr.ownsRow w.heap.size 90 3 v (impU X Y K n k).length ((impU X Y K n k).flatMap ptC)) (fun _ t _ => n - (intOf t).toNat)
  case atStart => exact ⟨0, by omega, rfl, Below.refl _ _, World.ownsRow_nil _ _ _ _⟩
  case round =>
    obtain ⟨v, rfl⟩ : ∃ v, v = u3 := ⟨_, rfl⟩
    obtain ⟨k, hk, rfl, hb, hown⟩ := hrel
    have hsz := hb.size
    have hlen := impU_len X Y K n k
    by_cases hlt : k < n
    · have hd1 : decide ((k : Int) < (n : Int)) = true := by simp; omega
      rcases HR.out with h | ⟨b, off, rfl, hc⟩
      · omega
      obtain ⟨bX, bX'⟩ := HX.out k hlt
      obtain ⟨bY, bY'⟩ := HY.out k hlt
      have hbl : b < w.heap.size := World.block_lt_of_cell? w _ (hc k hlt).1
      have hcr : ∀ j, j < n → wr.cell? ⟨b, off + j * 3, none⟩ = some (.int .i64 (X j)) ∧ wr.cell? ⟨b, off + j * 3 + 1, none⟩ = some (.int .i64 (Y j)) ∧ wr.cell? ⟨b, off + j * 3 + 2, none⟩ = some (.int .i64 (K j)) := fun j hj => by
        obtain ⟨u0, u1, u2⟩ := hc j hj
        exact ⟨(hb.cell (p := ⟨b, _, none⟩) hbl).trans u0, (hb.cell (p := ⟨b, _, none⟩) hbl).trans u1, (hb.cell (p := ⟨b, _, none⟩) hbl).trans u2⟩
      obtain ⟨d0, d1, d2⟩ := hcr k hlt
      have HC := hide hc
      clear hc hcr
      have hbw : b < wr.heap.size := by omega
      obtain ⟨L, hL⟩ : ∃ L, L = impU X Y K n k := ⟨_, rfl⟩
      rw [← hL] at hown hlen
      obtain ⟨ln, hln⟩ : ∃ ln, ln = L.length := ⟨_, rfl⟩
      obtain ⟨xs, hxs⟩ : ∃ xs, xs = L.flatMap ptC := ⟨_, rfl⟩
      rw [← hln, ← hxs] at hown
      rw [← hln] at hlen
      have HL := hide hL
      have HLn := hide hln
      have Hxs := hide hxs
      clear hL hln hxs
      go_wp2_with (at_builtin; refine wpList_append_lies _ rfl _ _ 41 rfl w.heap.size 90 i0 (.agg #[.int .i64 0, .int .i64 0, .int .i64 0]) 3 24 Try.underlying41 hi0 hz0 hz1 hz2 rfl (by omega) v ln xs rfl ((hown.alloc _).alloc _) ⟨wr.heap.size + 1, 0, none⟩ 1 1 [.int .i64 (2 * X k), .int .i64 (2 * Y k), .int .i64 (K k)] rfl rfl ?c1 ?c2 (by omega) ?c3 ?c4 ?c5 (wr.heap.size + 1 + 1) (by simp) ?_)
      case c1 => exact news_new (wr.alloc _) [.int .i64 (2 * X k), .int .i64 (2 * Y k), .int .i64 (K k)] _ _ (by simp)
      case c2 => exact one_ints _ _ _
      case c3 => unfold maxLen; omega
      case c4 => omega
      case c5 => simp; omega
      intro g cap w1 hown1 hgrow hat hlt1
      have hb1 : Below w.heap.size w w1 := ((hb.alloc (by omega) _).alloc (by simp; omega) _).grown hgrow (by simp; omega) (fun q hq => (hown.lt q hq).1)
      have hs1 : wr.heap.size + 1 < w1.heap.size := by have := hgrow.size; simp at this; omega
      have hne : some wr.heap.size ≠ v.ownBlock := owns_ne_new hown (Nat.le_refl _)
      have p0 : w1.cell? ⟨wr.heap.size, 0, none⟩ = some (.int .i64 (X k)) := (hgrow.cell_far ⟨wr.heap.size, 0, none⟩ (by simp; omega) hne).trans (by go_simp)
      have p1 : w1.cell? ⟨wr.heap.size, 1, none⟩ = some (.int .i64 (Y k)) := (hgrow.cell_far ⟨wr.heap.size, 1, none⟩ (by simp; omega) hne).trans (by go_simp)
      have p2 : w1.cell? ⟨wr.heap.size, 2, none⟩ = some (.int .i64 (K k)) := (hgrow.cell_far ⟨wr.heap.size, 2, none⟩ (by simp; omega) hne).trans (by go_simp)
      have hcr : ∀ j, j < n → w1.cell? ⟨b, off + j * 3, none⟩ = some (.int .i64 (X j)) ∧ w1.cell? ⟨b, off + j * 3 + 1, none⟩ = some (.int .i64 (Y j)) ∧ w1.cell? ⟨b, off + j * 3 + 2, none⟩ = some (.int .i64 (K j)) := fun j hj => by
        obtain ⟨u0, u1, u2⟩ := HC.out j hj
        exact ⟨(hb1.cell (p := ⟨b, _, none⟩) hbl).trans u0, (hb1.cell (p := ⟨b, _, none⟩) hbl).trans u1, (hb1.cell (p := ⟨b, _, none⟩) hbl).trans u2⟩
      have hO1 : w1.ownsRow w.heap.size 90 3 (.slice (some ⟨g, 0, none⟩) (ln + 1) cap) (L ++ [(2 * X k, 2 * Y k, K k)]).length ((L ++ [(2 * X k, 2 * Y k, K k)]).flatMap ptC) :=
        push_pt (by rw [← Hxs.out]; exact hown1) rfl (by rw [HLn.out])
      have HO1 := hide hO1
      have HXF : Hid ((L ++ [(2 * X k, 2 * Y k, K k)]).flatMap ptC = xs ++ [.int .i64 (2 * X k), .int .i64 (2 * Y k), .int .i64 (K k)]) := by unfold Hid; rw [Hxs.out]; simp [ptC]
      obtain ⟨e0, e1, e2⟩ := hcr 0 (by omega)
      simp only [Nat.zero_mul, Nat.add_zero] at e0 e1 e2
      have hsucc : impU X Y K n (k + 1) = L ++ Num.impF X Y K n k := by rw [HL.out]; exact impU_succ _ _ _ _ _
      have HSu := hide hsucc
      have hbw1 : b < w1.heap.size := by omega
      have hbs1 : w.heap.size ≤ w1.heap.size := hb1.size
      have hwr1 : wr.heap.size < w1.heap.size := by omega
      clear hgrow hat hne hO1 hown hb hsucc d0 d1 d2
      by_cases hl2 : k + 1 < n
      · obtain ⟨f0, f1, f2⟩ := hcr (k + 1) hl2
        have hnx : Num.nx n k = k + 1 := by unfold Num.nx; rw [if_pos hl2]
        have HNx := hide hnx
        obtain ⟨cX, cX'⟩ := HX.out (k + 1) (by omega)
        obtain ⟨cY, cY'⟩ := HY.out (k + 1) (by omega)
        clear hcr hnx
        by_cases hq : K k = 1 ∧ K (k + 1) = 1
        · obtain ⟨q1, q2⟩ := hq
          have t1 : (K k == 1) = true := by simp [q1]
          have t2 : (K (k + 1) == 1) = true := by simp [q2]
          have HF := hide (impF_yes (X := X) (Y := Y) (n := n) (k := k) ⟨q1, by rw [HNx.out]; exact q2⟩)
          clear q1 q2
          go_wp2_with (at_builtin; refine wpList_append_lies _ rfl _ _ 41 rfl w.heap.size 90 i0 (.agg #[.int .i64 0, .int .i64 0, .int .i64 0]) 3 24 Try.underlying41 hi0 hz0 hz1 hz2 rfl (by omega) _ (ln + 1) _ rfl ((hown1.alloc _).alloc _) ⟨w1.heap.size + 1, 0, none⟩ 1 1 [.int .i64 (X k + X (k + 1)), .int .i64 (Y k + Y (k + 1)), .int .i64 0] rfl rfl ?m1 ?m2 (by omega) ?m3 ?m4 ?m5 (w1.heap.size + 1 + 1) (by simp) ?_)
          case m1 => exact news_new (w1.alloc _) [.int .i64 (X k + X (k + 1)), .int .i64 (Y k + Y (k + 1)), .int .i64 0] _ _ (by simp)
          case m2 => exact one_ints _ _ _
          case m3 => unfold maxLen; omega
          case m4 => omega
          case m5 => simp; omega
          intro g2 cap2 w2 hown2 hgrow2 hat2 hlt2
          have hb2 : Below w.heap.size w w2 := ((hb1.alloc (by omega) _).alloc (by simp; omega) _).grown hgrow2 (by simp; omega) (fun q hq => (hown1.lt q hq).1)
          have HO2 : Hid (w2.ownsRow w.heap.size 90 3 (.slice (some ⟨g2, 0, none⟩) (ln + 1 + 1) cap2) (impU X Y K n (k + 1)).length ((impU X Y K n (k + 1)).flatMap ptC)) :=
            push_pt (l := L ++ [(2 * X k, 2 * Y k, K k)]) (p := (X k + X (k + 1), Y k + Y (k + 1), 0)) (by rw [HXF.out]; simpa using hown2) (by rw [HSu.out, HF.out, HNx.out, List.append_assoc]) (by rw [HLn.out]; simp)
          clear hown2 hgrow2 hat2 hown1 hb1
          go_wp2
          go_roundw
          case rel => exact ⟨k + 1, by omega, by go_num, hb2, HO2.out⟩
          case measure => simp [intOf]; omega
        · have HF := hide (impF_no (X := X) (Y := Y) (n := n) (k := k) (by rw [HNx.out]; exact hq))
          have HE : Hid (w1.ownsRow w.heap.size 90 3 (.slice (some ⟨g, 0, none⟩) (ln + 1) cap) (impU X Y K n (k + 1)).length ((impU X Y K n (k + 1)).flatMap ptC)) := by
            unfold Hid; rw [HSu.out, HF.out]; exact HO1.out
          by_cases q1 : K k = 1
          · have t1 : (K k == 1) = true := by simp [q1]
            have t2 : (K (k + 1) == 1) = false := by simp; intro h; exact hq ⟨q1, h⟩
            clear q1 hq
            go_wp2
            go_roundw
            case rel => exact ⟨k + 1, by omega, by go_num, by (repeat (any_goals (first | exact Below.refl _ _ | assumption | refine Below.drew ?_ | refine below_drewN ?_ _ | refine Below.setCell ?_ ?_ _ | refine Below.alloc ?_ ?_ _ | omega | (simp; done) | (simp; omega)))), HE.out.alloc _⟩
            case measure => simp [intOf]; omega
          · have t1 : (K k == 1) = false := by simp [q1]
            clear q1 hq
            go_wp2
            go_roundw
            case rel => exact ⟨k + 1, by omega, by go_num, by (repeat (any_goals (first | exact Below.refl _ _ | assumption | refine Below.drew ?_ | refine below_drewN ?_ _ | refine Below.setCell ?_ ?_ _ | refine Below.alloc ?_ ?_ _ | omega | (simp; done) | (simp; omega)))), HE.out.alloc _⟩
            case measure => simp [intOf]; omega
      · have hl3 : ¬ (k : Int) + 1 < (n : Int) := by omega
        have hnx : Num.nx n k = 0 := by unfold Num.nx; rw [if_neg hl2]
        have HNx := hide hnx
        obtain ⟨cX, cX'⟩ := HX.out (0) (by omega)
        obtain ⟨cY, cY'⟩ := HY.out (0) (by omega)
        clear hcr hnx
        by_cases hq : K k = 1 ∧ K 0 = 1
        · obtain ⟨q1, q2⟩ := hq
          have t1 : (K k == 1) = true := by simp [q1]
          have t2 : (K 0 == 1) = true := by simp [q2]
          have HF := hide (impF_yes (X := X) (Y := Y) (n := n) (k := k) ⟨q1, by rw [HNx.out]; exact q2⟩)
          clear q1 q2
          go_wp2_with (at_builtin; refine wpList_append_lies _ rfl _ _ 41 rfl w.heap.size 90 i0 (.agg #[.int .i64 0, .int .i64 0, .int .i64 0]) 3 24 Try.underlying41 hi0 hz0 hz1 hz2 rfl (by omega) _ (ln + 1) _ rfl ((hown1.alloc _).alloc _) ⟨w1.heap.size + 1, 0, none⟩ 1 1 [.int .i64 (X k + X 0), .int .i64 (Y k + Y 0), .int .i64 0] rfl rfl ?s1 ?s2 (by omega) ?s3 ?s4 ?s5 (w1.heap.size + 1 + 1) (by simp) ?_)
          try (case s1 => exact news_new (w1.alloc _) [.int .i64 (X k + X 0), .int .i64 (Y k + Y 0), .int .i64 0] _ _ (by simp))
          case s2 => first | exact one_ints _ _ _ | exact ⟨rfl, rfl, rfl⟩
          case s3 => unfold maxLen; omega
          case s4 => omega
          case s5 => first | omega | (simp; omega)
          intro g2 cap2 w2 hown2 hgrow2 hat2 hlt2
          have hb2 : Below w.heap.size w w2 := ((hb1.alloc (by omega) _).alloc (by simp; omega) _).grown hgrow2 (by simp; omega) (fun q hq => (hown1.lt q hq).1)
          have HO2 : Hid (w2.ownsRow w.heap.size 90 3 (.slice (some ⟨g2, 0, none⟩) (ln + 1 + 1) cap2) (impU X Y K n (k + 1)).length ((impU X Y K n (k + 1)).flatMap ptC)) :=
            push_pt (l := L ++ [(2 * X k, 2 * Y k, K k)]) (p := (X k + X 0, Y k + Y 0, 0)) (by rw [HXF.out]; simpa using hown2) (by rw [HSu.out, HF.out, HNx.out, List.append_assoc]) (by rw [HLn.out]; simp)
          clear hown2 hgrow2 hat2 hown1 hb1
          go_wp2
          go_roundw
          case rel => exact ⟨k + 1, by omega, by go_num, hb2, HO2.out⟩
          case measure => simp [intOf]; omega
        · have HF := hide (impF_no (X := X) (Y := Y) (n := n) (k := k) (by rw [HNx.out]; exact hq))
          have HE : Hid (w1.ownsRow w.heap.size 90 3 (.slice (some ⟨g, 0, none⟩) (ln + 1) cap) (impU X Y K n (k + 1)).length ((impU X Y K n (k + 1)).flatMap ptC)) := by
            unfold Hid; rw [HSu.out, HF.out]; exact HO1.out
          by_cases q1 : K k = 1
          · have t1 : (K k == 1) = true := by simp [q1]
            have t2 : (K 0 == 1) = false := by simp; intro h; exact hq ⟨q1, h⟩
            clear q1 hq
            go_wp2
            go_roundw
            case rel => exact ⟨k + 1, by omega, by go_num, by (repeat (any_goals (first | exact Below.refl _ _ | assumption | refine Below.drew ?_ | refine below_drewN ?_ _ | refine Below.setCell ?_ ?_ _ | refine Below.alloc ?_ ?_ _ | omega | (simp; done) | (simp; omega)))), HE.out.alloc _⟩
            case measure => simp [intOf]; omega
          · have t1 : (K k == 1) = false := by simp [q1]
            clear q1 hq
            go_wp2
            go_roundw
            case rel => exact ⟨k + 1, by omega, by go_num, by (repeat (any_goals (first | exact Below.refl _ _ | assumption | refine Below.drew ?_ | refine below_drewN ?_ _ | refine Below.setCell ?_ ?_ _ | refine Below.alloc ?_ ?_ _ | omega | (simp; done) | (simp; omega)))), HE.out.alloc _⟩
            case measure => simp [intOf]; omega
    · go_wp2
      go_ret
      have e : k = n := by omega
      subst e
      exact ⟨v, rfl, hb, hown⟩
end Go.Proofs.Ytkhcjkmifddlbab

/- CrvB -/
namespace Go.Proofs.Ytkhcjkmifddlbab
open Go.RowKit

set_option maxHeartbeats 1000000 in
theorem chords_any (k x0 y0 x1 y1 x2 y2 x3 y3 : Int) (w : World) (hr : Num.rangeB (⟨k, x0, y0, x1, y1, x2, y2, x3, y3⟩ : Num.Sg) = true) :
    Calls Try.prog 101 #[.agg #[.int .i64 k, .int .i64 x0, .int .i64 y0, .int .i64 x1, .int .i64 y1, .int .i64 x2, .int .i64 y2, .int .i64 x3, .int .i64 y3]] w fun e w' => e = .returned (.int .i64 (Num.stepsV (Num.needV (⟨k, x0, y0, x1, y1, x2, y2, x3, y3⟩ : Num.Sg)))) ∧ Below w.heap.size w w' := by
  obtain ⟨r0, r3, r1, r2⟩ := Num.range_yes hr
  have hneed := Num.needV_bd hr
  have hS := Num.stepsV_is hneed.2
  have hSle := Num.stepsV_le hneed.2
  obtain ⟨S, hSe⟩ : ∃ S, S = Num.stepsV (Num.needV (⟨k, x0, y0, x1, y1, x2, y2, x3, y3⟩ : Num.Sg)) := ⟨_, rfl⟩
  rw [← hSe] at hS hSle ⊢
  obtain ⟨D, hD⟩ : ∃ D, D = Num.needV (⟨k, x0, y0, x1, y1, x2, y2, x3, y3⟩ : Num.Sg) := ⟨_, rfl⟩
  rw [← hD] at hS hneed
  have HS := hide hS
  clear hSe hS hr
  obtain ⟨a1, a2⟩ := Num.inB_yes r0
  obtain ⟨b1, b2⟩ := Num.inB_yes r3
  clear r0 r3
  by_cases h1 : k = 1
  · subst h1
    obtain ⟨c1, c2⟩ := Num.inB_yes (r1 (.inl rfl))
    have HD : Hid (D = Num.bendV x0 y0 x1 y1 x3 y3) := by unfold Hid; rw [hD]; simp [Num.needV]
    clear r1 r2 hD
    go_enter Try.func101, Try.ntmps101
    go_wp2_with fail
    refine (bend_any _ _ _ _ _ _ _ a1 a2 c1 c2 b1 b2).mono ?_
    rw [← HD.out]
    rintro e w1 ⟨rfl, hb⟩
    have hb0 : Below w.heap.size w w1 := Below.trans (by (repeat (any_goals (first | exact Below.refl _ _ | assumption | refine Below.drew ?_ | refine below_drewN ?_ _ | refine Below.setCell ?_ ?_ _ | refine Below.alloc ?_ ?_ _ | omega | (simp; done) | (simp; omega))))) (hb.mono (by simp))
    clear hb a1 a2 b1 b2 c1 c2
    go_wp2_with fail
    go_loop [6] (fun t => ∃ q : Int, 1 ≤ q ∧ q ≤ S ∧ t = .int .i64 q) (fun t => (S - intOf t).toNat)
    case atStart => exact ⟨1, by omega, HS.out.1, rfl⟩
    case round =>
      obtain ⟨q, q1, q2, rfl⟩ := hrel
      obtain ⟨s1, s2⟩ := steps_round HS.out q1 q2
      have b1 := Num.sq_mono (a := q) (b := 111) (by omega) (by omega)
      have b0 := Num.sq_mono (a := 0) (b := q) (by omega) (by omega)
      by_cases hlt : 16 * q * q < D
      · have s3 := s1 hlt
        clear s1 s2
        go_wp2
        go_round
        case rel => exact ⟨q + 1, by omega, by omega, rfl⟩
        case measure => simp [intOf]; omega
      · have HE := hide (s2 hlt)
        clear s1 s2
        go_wp2
        go_ret
        exact ⟨ret_int HE.out, hb0⟩
  · by_cases h2 : k = 2
    · subst h2
      obtain ⟨c1, c2⟩ := Num.inB_yes (r1 (.inr rfl))
      obtain ⟨d1, d2⟩ := Num.inB_yes (r2 rfl)
      have HD : Hid (D = 3 * Num.gr (Num.bendV x0 y0 x1 y1 x2 y2) (Num.bendV x1 y1 x2 y2 x3 y3)) := by unfold Hid; rw [hD]; simp [Num.needV]
      have p := Num.bendV_bd a1 a2 c1 c2 d1 d2
      have q := Num.bendV_bd c1 c2 d1 d2 b1 b2
      have gb := Num.gr_bd p.1 p.2 q.1 q.2
      clear r1 r2 hD p q
      go_enter Try.func101, Try.ntmps101
      go_wp2_with fail
      refine (bend_any _ _ _ _ _ _ _ a1 a2 c1 c2 d1 d2).mono ?_
      rintro e w1 ⟨rfl, hb⟩
      obtain ⟨hc, hfz⟩ := bcell hb
      have hz : w.heap.size < w1.heap.size := by have := hb.size; simp at this; omega
      have hb0 : Below w.heap.size w w1 := Below.trans (by (repeat (any_goals (first | exact Below.refl _ _ | assumption | refine Below.drew ?_ | refine below_drewN ?_ _ | refine Below.setCell ?_ ?_ _ | refine Below.alloc ?_ ?_ _ | omega | (simp; done) | (simp; omega))))) (hb.mono (by simp))
      have e3 : w1.cell? ⟨w.heap.size, 3, none⟩ = some (.int .i64 x1) := by rw [hc _ _ (by simp)]; go_simp
      have e4 : w1.cell? ⟨w.heap.size, 4, none⟩ = some (.int .i64 y1) := by rw [hc _ _ (by simp)]; go_simp
      have e5 : w1.cell? ⟨w.heap.size, 5, none⟩ = some (.int .i64 x2) := by rw [hc _ _ (by simp)]; go_simp
      have e6 : w1.cell? ⟨w.heap.size, 6, none⟩ = some (.int .i64 y2) := by rw [hc _ _ (by simp)]; go_simp
      have e7 : w1.cell? ⟨w.heap.size, 7, none⟩ = some (.int .i64 x3) := by rw [hc _ _ (by simp)]; go_simp
      have e8 : w1.cell? ⟨w.heap.size, 8, none⟩ = some (.int .i64 y3) := by rw [hc _ _ (by simp)]; go_simp
      clear hb hc hfz
      go_wp2_with fail
      refine (bend_any _ _ _ _ _ _ _ c1 c2 d1 d2 b1 b2).mono ?_
      rintro e w2 ⟨rfl, hb2⟩
      have hb3 : Below w.heap.size w w2 := hb0.trans (hb2.mono (by omega))
      clear hb2 hb0 a1 a2 b1 b2 c1 c2 d1 d2 e3 e4 e5 e6 e7 e8
      go_wp2_with (go_at_call 89; refine (greater_any _ _ _).mono ?_; rintro e w' ⟨rfl, rfl⟩)
      rw [← HD.out]
      go_wp2_with fail
      go_loop [6] (fun t => ∃ q : Int, 1 ≤ q ∧ q ≤ S ∧ t = .int .i64 q) (fun t => (S - intOf t).toNat)
      case atStart => exact ⟨1, by omega, HS.out.1, rfl⟩
      case round =>
        obtain ⟨q, q1, q2, rfl⟩ := hrel
        obtain ⟨s1, s2⟩ := steps_round HS.out q1 q2
        have b1 := Num.sq_mono (a := q) (b := 111) (by omega) (by omega)
        have b0 := Num.sq_mono (a := 0) (b := q) (by omega) (by omega)
        by_cases hlt : 16 * q * q < D
        · have s3 := s1 hlt
          clear s1 s2
          go_wp2
          go_round
          case rel => exact ⟨q + 1, by omega, by omega, rfl⟩
          case measure => simp [intOf]; omega
        · have HE := hide (s2 hlt)
          clear s1 s2
          go_wp2
          go_ret
          exact ⟨ret_int HE.out, hb3⟩
    · have t1 : (k == 1) = false := by simpa using h1
      have t2 : (k == 2) = false := by simpa using h2
      have hD0 : D = 0 := by rw [hD]; simp [Num.needV, h1, h2]
      clear r1 r2 hD
      subst hD0
      have hS1 : S = 1 := by
        rcases Int.lt_or_le 1 S with h | h
        · have := HS.out.2.2 1 (by omega) h; omega
        · have := HS.out.1; omega
      clear a1 a2 b1 b2 h1 h2
      go_enter Try.func101, Try.ntmps101
      go_wp2_with fail
      go_loop [6] (fun t => t = .int .i64 1) (fun _ => 0)
      case atStart => rfl
      case round =>
        subst hrel
        go_wp2
        go_ret
        exact ⟨ret_int (by omega), by (repeat (any_goals (first | exact Below.refl _ _ | assumption | refine Below.drew ?_ | refine below_drewN ?_ _ | refine Below.setCell ?_ ?_ _ | refine Below.alloc ?_ ?_ _ | omega | (simp; done) | (simp; omega))))⟩

set_option maxHeartbeats 1000000 in
theorem spotOf_any (k x0 y0 x1 y1 x2 y2 x3 y3 i n : Int) (w : World) (hr : Num.rangeB (⟨k, x0, y0, x1, y1, x2, y2, x3, y3⟩ : Num.Sg) = true) (hi : 0 ≤ i) (hin : i ≤ n) (h1 : 1 ≤ n) (hn : n ≤ 111) :
    Calls Try.prog 102 #[.agg #[.int .i64 k, .int .i64 x0, .int .i64 y0, .int .i64 x1, .int .i64 y1, .int .i64 x2, .int .i64 y2, .int .i64 x3, .int .i64 y3], .int .i64 i, .int .i64 n] w fun e w' => e = .returned (.agg #[.int .i64 (Num.spotX (⟨k, x0, y0, x1, y1, x2, y2, x3, y3⟩ : Num.Sg) n i), .int .i64 (Num.spotY (⟨k, x0, y0, x1, y1, x2, y2, x3, y3⟩ : Num.Sg) n i)]) ∧ Below w.heap.size w w' := by
  obtain ⟨r0, r3, r1, r2⟩ := Num.range_yes hr
  obtain ⟨a1, a2⟩ := Num.inB_yes r0
  obtain ⟨b1, b2⟩ := Num.inB_yes r3
  clear r0 r3 hr
  by_cases e1 : k = 1
  · subst e1
    obtain ⟨c1, c2⟩ := Num.inB_yes (r1 (.inl rfl))
    have HX : Hid (Num.spotX (⟨1, x0, y0, x1, y1, x2, y2, x3, y3⟩ : Num.Sg) n i = Num.hu (Num.qSum (n - i) i x0 x1 x3) (n * n)) := by unfold Hid Num.spotX; rw [if_pos rfl]
    have HY : Hid (Num.spotY (⟨1, x0, y0, x1, y1, x2, y2, x3, y3⟩ : Num.Sg) n i = Num.hu (Num.qSum (n - i) i y0 y1 y3) (n * n)) := by unfold Hid Num.spotY; rw [if_pos rfl]
    clear r1 r2
    rw [HX.out, HY.out]
    go_enter Try.func102, Try.ntmps102
    go_wp2_with (go_at_call 112; refine (quadAt_any _ _ _ _ _ _ (by assumption) (by assumption) (by assumption) hi hin h1 hn).mono ?_; rintro e w' ⟨rfl, rfl⟩)
    refine bodyPost_ret (v := .agg #[.int .i64 (Num.hu (Num.qSum (n - i) i x0 x1 x3) (n * n)), .int .i64 (Num.hu (Num.qSum (n - i) i y0 y1 y3) (n * n))]) (by simp [results, Try.results102, go_sem]) rfl ⟨rfl, ?_⟩
    clear a1 a2 b1 b2 c1 c2
    (repeat (any_goals (first | exact Below.refl _ _ | assumption | refine Below.drew ?_ | refine below_drewN ?_ _ | refine Below.setCell ?_ ?_ _ | refine Below.alloc ?_ ?_ _ | omega | (simp; done) | (simp; omega))))
  · by_cases e2 : k = 2
    · subst e2
      obtain ⟨c1, c2⟩ := Num.inB_yes (r1 (.inr rfl))
      obtain ⟨d1, d2⟩ := Num.inB_yes (r2 rfl)
      have HX : Hid (Num.spotX (⟨2, x0, y0, x1, y1, x2, y2, x3, y3⟩ : Num.Sg) n i = Num.hu (Num.cSum (n - i) i x0 x1 x2 x3) (n * n * n)) := by unfold Hid Num.spotX; rw [if_neg (by show ¬ (2 : Int) = 1; decide), if_pos rfl]
      have HY : Hid (Num.spotY (⟨2, x0, y0, x1, y1, x2, y2, x3, y3⟩ : Num.Sg) n i = Num.hu (Num.cSum (n - i) i y0 y1 y2 y3) (n * n * n)) := by unfold Hid Num.spotY; rw [if_neg (by show ¬ (2 : Int) = 1; decide), if_pos rfl]
      clear r1 r2
      rw [HX.out, HY.out]
      go_enter Try.func102, Try.ntmps102
      go_wp2_with (go_at_call 113; refine (cubicAt_any _ _ _ _ _ _ _ (by assumption) (by assumption) (by assumption) (by assumption) hi hin h1 hn).mono ?_; rintro e w' ⟨rfl, rfl⟩)
      refine bodyPost_ret (v := .agg #[.int .i64 (Num.hu (Num.cSum (n - i) i x0 x1 x2 x3) (n * n * n)), .int .i64 (Num.hu (Num.cSum (n - i) i y0 y1 y2 y3) (n * n * n))]) (by simp [results, Try.results102, go_sem]) rfl ⟨rfl, ?_⟩
      clear a1 a2 b1 b2 c1 c2 d1 d2
      (repeat (any_goals (first | exact Below.refl _ _ | assumption | refine Below.drew ?_ | refine below_drewN ?_ _ | refine Below.setCell ?_ ?_ _ | refine Below.alloc ?_ ?_ _ | omega | (simp; done) | (simp; omega))))
    · have t1 : (k == 1) = false := by simpa using e1
      have t2 : (k == 2) = false := by simpa using e2
      clear r1 r2 a1 a2 b1 b2
      by_cases ein : i = n
      · have HX : Hid (Num.spotX (⟨k, x0, y0, x1, y1, x2, y2, x3, y3⟩ : Num.Sg) n i = x3) := by unfold Hid Num.spotX; rw [if_neg e1, if_neg e2, if_pos ein]
        have HY : Hid (Num.spotY (⟨k, x0, y0, x1, y1, x2, y2, x3, y3⟩ : Num.Sg) n i = y3) := by unfold Hid Num.spotY; rw [if_neg e1, if_neg e2, if_pos ein]
        have t3 : (i == n) = true := by simpa using ein
        rw [HX.out, HY.out]
        clear e1 e2 ein
        go_enter Try.func102, Try.ntmps102
        go_wp2
        refine bodyPost_ret (v := .agg #[.int .i64 x3, .int .i64 y3]) (by simp [results, Try.results102, go_sem]) rfl ⟨rfl, ?_⟩
        (repeat (any_goals (first | exact Below.refl _ _ | assumption | refine Below.drew ?_ | refine below_drewN ?_ _ | refine Below.setCell ?_ ?_ _ | refine Below.alloc ?_ ?_ _ | omega | (simp; done) | (simp; omega))))
      · have HX : Hid (Num.spotX (⟨k, x0, y0, x1, y1, x2, y2, x3, y3⟩ : Num.Sg) n i = x0) := by unfold Hid Num.spotX; rw [if_neg e1, if_neg e2, if_neg ein]
        have HY : Hid (Num.spotY (⟨k, x0, y0, x1, y1, x2, y2, x3, y3⟩ : Num.Sg) n i = y0) := by unfold Hid Num.spotY; rw [if_neg e1, if_neg e2, if_neg ein]
        have t3 : (i == n) = false := by simpa using ein
        rw [HX.out, HY.out]
        clear e1 e2 ein
        go_enter Try.func102, Try.ntmps102
        go_wp2
        refine bodyPost_ret (v := .agg #[.int .i64 x0, .int .i64 y0]) (by simp [results, Try.results102, go_sem]) rfl ⟨rfl, ?_⟩
        (repeat (any_goals (first | exact Below.refl _ _ | assumption | refine Below.drew ?_ | refine below_drewN ?_ _ | refine Below.setCell ?_ ?_ _ | refine Below.alloc ?_ ?_ _ | omega | (simp; done) | (simp; omega))))
end Go.Proofs.Ytkhcjkmifddlbab

/- Spots -/
namespace Go.Proofs.Ytkhcjkmifddlbab
open Go.RowKit Go.Deep

/-- The cells of a spot. -/
def spC (p : Int × Int) : List Value := [.int .i64 p.1, .int .i64 p.2]
theorem info_spot : (Try.prog.info? 53).map (fun i => (i.zero, i.size, i.bytes)) = some (some (.agg #[.int .i64 0, .int .i64 0]), 2, 16) := by kernel_rfl
theorem push_sp {w : World} {base : Nat} {v : Value} {l l' : List (Int × Int)} {p : Int × Int} {m : Nat} (h : w.ownsRow base 53 2 v m (l.flatMap spC ++ [.int .i64 p.1, .int .i64 p.2])) (hl : l' = l ++ [p]) (hm : m = l.length + 1) : w.ownsRow base 53 2 v l'.length (l'.flatMap spC) := by
  have e1 : l'.length = m := by rw [hl, hm]; simp
  have e2 : l'.flatMap spC = l.flatMap spC ++ [.int .i64 p.1, .int .i64 p.2] := by rw [hl]; simp [spC]
  rw [e1, e2]; exact h
theorem owns_mono {w : World} {base base' : Nat} {t : TypeId} {sz : Nat} {v : Value} {n : Nat} {xs : List Value} (h : w.ownsRow base t sz v n xs) (hb : base' ≤ base) : w.ownsRow base' t sz v n xs := by
  refine ⟨h.1, ?_⟩
  rcases h.2 with hn | ⟨g, cap, cur, rfl, hb', rest⟩
  · exact .inl hn
  · exact .inr ⟨g, cap, cur, rfl, Nat.le_trans hb hb', rest⟩
theorem news_sp (W : World) (cs : List Value) (t : TypeId) (H : Nat) (hH : W.heap.size = H) : ∀ (j : Nat) (u : Value), cs[j]? = some u → (W.alloc (.cells cs.toArray t)).cell? ((⟨H, 0, none⟩ : Addr).add j) = some u := by
  intro j u hj
  subst hH
  have e2 : ((⟨W.heap.size, 0, none⟩ : Addr).add j) = ⟨W.heap.size, j, none⟩ := by
    unfold Addr.add
    split
    · rename_i h; simp_all
    · simp
  have hlt : j < cs.length := by
    rcases Nat.lt_or_ge j cs.length with h | h
    · exact h
    · rw [List.getElem?_eq_none h] at hj; cases hj
  have hr := (World.rowIs_alloc W cs.toArray t (fun i => cs[i]?.getD u) (fun i hi => by simp at hi; simp [hi])).cell (i := j) (by simpa using hlt)
  rw [e2, hr]
  simp [hj]
theorem one_two (a b : Int) : ∀ u ∈ [Value.int .i64 a, .int .i64 b], u.oneCell' = true := by
  intro u hu
  simp at hu
  rcases hu with rfl | rfl <;> rfl
theorem flat2_len (l : List (Int × Int)) : (l.flatMap spC).length = l.length * 2 := by
  induction l with
  | nil => simp
  | cons x r ih => rw [List.flatMap_cons, List.length_append, ih]; simp [spC]; omega
theorem flat2_one (l : List (Int × Int)) : ∀ u ∈ l.flatMap spC, u.oneCell' = true := by
  intro u hu
  rw [List.mem_flatMap] at hu
  obtain ⟨g, _, hg⟩ := hu
  exact one_two g.1 g.2 u hg
theorem flat2_at : ∀ (l : List (Int × Int)) (i : Nat) (hi : i < l.length), (l.flatMap spC)[i * 2]? = some (.int .i64 l[i].1) ∧ (l.flatMap spC)[i * 2 + 1]? = some (.int .i64 l[i].2) := by
  intro l
  induction l with
  | nil => intro i hi; simp at hi
  | cons x r ih =>
    intro i hi
    rw [List.flatMap_cons]
    have h2 : (spC x).length = 2 := rfl
    cases i with
    | zero => simp [spC]
    | succ j =>
      have := ih j (by simpa using hi)
      simp only [List.getElem_cons_succ]
      rw [List.getElem?_append_right (by omega), List.getElem?_append_right (by omega), h2, show (j + 1) * 2 - 2 = j * 2 by omega, show (j + 1) * 2 + 1 - 2 = j * 2 + 1 by omega]
      exact this
theorem owns_sp {w : World} {base b cap : Nat} {t : TypeId} {l : List (Int × Int)} (h : w.ownsRow base t 2 (.slice (some ⟨b, 0, none⟩) l.length cap) l.length (l.flatMap spC)) (i : Nat) (hi : i < l.length) :
    w.cell? ⟨b, i * 2, none⟩ = some (.int .i64 l[i].1) ∧ w.cell? ⟨b, i * 2 + 1, none⟩ = some (.int .i64 l[i].2) := by
  have e := flat2_at l i hi
  have e0 := h.cellAt (i * 2) (by omega)
  have e1 := h.cellAt (i * 2 + 1) (by omega)
  rw [e.1] at e0
  rw [e.2] at e1
  exact ⟨e0, e1⟩
theorem owns_formN {w : World} {base : Nat} {t : TypeId} {z : Nat} {v : Value} {n : Nat} {xs : List Value} (h : w.ownsRow base t z v n xs) : ∃ ao cap, v = .slice ao n cap ∧ (0 < n → ∃ b, ao = some ⟨b, 0, none⟩) := by
  rcases h.2 with ⟨rfl, h0⟩ | ⟨g, cap, cur, rfl, _⟩
  · exact ⟨none, 0, by rw [h0], by omega⟩
  · exact ⟨some ⟨g, 0, none⟩, cap, rfl, fun _ => ⟨g, rfl⟩⟩
/-- The cells of a row of spots, as the new ones of an append. -/
theorem news_row {w : World} {base g cap : Nat} {t : TypeId} {l : List (Int × Int)} (h : w.ownsRow base t 2 (.slice (some ⟨g, 0, none⟩) l.length cap) l.length (l.flatMap spC)) : ∀ (j : Nat) (u : Value), (l.flatMap spC)[j]? = some u → w.cell? ((⟨g, 0, none⟩ : Addr).add j) = some u := by
  intro j u hj
  have e2 : ((⟨g, 0, none⟩ : Addr).add j) = ⟨g, j, none⟩ := by
    unfold Addr.add
    split
    · rename_i h; simp_all
    · simp
  have hlt : j < l.length * 2 := by
    rcases Nat.lt_or_ge j (l.length * 2) with h | h
    · exact h
    · rw [List.getElem?_eq_none (by rw [flat2_len]; exact h)] at hj; cases hj
  rw [e2, h.cellAt j hlt, hj]
end Go.Proofs.Ytkhcjkmifddlbab

/- CvR -/
namespace Go.Proofs.Ytkhcjkmifddlbab
open Go.RowKit Go.Deep

/-- The cells of a cell. -/
def clC (c : Num.Cl) : List Value := [.int .i64 c.1, .int .i64 c.2.1, .int .i64 c.2.2]
theorem info_cl : (Try.prog.info? 143).map (fun i => (i.zero, i.size, i.bytes)) = some (some (.agg #[.int .i64 0, .int .i64 0, .int .i64 0]), 3, 24) := by kernel_rfl
theorem push_cl {w : World} {base : Nat} {v : Value} {l l' : List Num.Cl} {p : Num.Cl} {m : Nat} (h : w.ownsRow base 143 3 v m (l.flatMap clC ++ [.int .i64 p.1, .int .i64 p.2.1, .int .i64 p.2.2])) (hl : l' = l ++ [p]) (hm : m = l.length + 1) : w.ownsRow base 143 3 v l'.length (l'.flatMap clC) := by
  have e1 : l'.length = m := by rw [hl, hm]; simp
  have e2 : l'.flatMap clC = l.flatMap clC ++ [.int .i64 p.1, .int .i64 p.2.1, .int .i64 p.2.2] := by rw [hl]; simp [clC]
  rw [e1, e2]; exact h
theorem flat3_at : ∀ (l : List Num.Cl) (i : Nat) (hi : i < l.length), (l.flatMap clC)[i * 3]? = some (.int .i64 l[i].1) ∧ (l.flatMap clC)[i * 3 + 1]? = some (.int .i64 l[i].2.1) ∧ (l.flatMap clC)[i * 3 + 2]? = some (.int .i64 l[i].2.2) := by
  intro l
  induction l with
  | nil => intro i hi; simp at hi
  | cons x r ih =>
    intro i hi
    rw [List.flatMap_cons]
    have h2 : (clC x).length = 3 := rfl
    cases i with
    | zero => simp [clC]
    | succ j =>
      have := ih j (by simpa using hi)
      simp only [List.getElem_cons_succ]
      rw [List.getElem?_append_right (by omega), List.getElem?_append_right (by omega), List.getElem?_append_right (by omega), h2, show (j + 1) * 3 - 3 = j * 3 by omega, show (j + 1) * 3 + 1 - 3 = j * 3 + 1 by omega, show (j + 1) * 3 + 2 - 3 = j * 3 + 2 by omega]
      exact this
theorem owns_cl {w : World} {base b cap : Nat} {t : TypeId} {l : List Num.Cl} (h : w.ownsRow base t 3 (.slice (some ⟨b, 0, none⟩) l.length cap) l.length (l.flatMap clC)) (i : Nat) (hi : i < l.length) :
    w.cell? ⟨b, i * 3, none⟩ = some (.int .i64 l[i].1) ∧ w.cell? ⟨b, i * 3 + 1, none⟩ = some (.int .i64 l[i].2.1) ∧ w.cell? ⟨b, i * 3 + 2, none⟩ = some (.int .i64 l[i].2.2) := by
  have e := flat3_at l i hi
  have e0 := h.cellAt (i * 3) (by omega)
  have e1 := h.cellAt (i * 3 + 1) (by omega)
  have e2 := h.cellAt (i * 3 + 2) (by omega)
  rw [e.1] at e0
  rw [e.2.1] at e1
  rw [e.2.2] at e2
  exact ⟨e0, e1, e2⟩

set_option maxRecDepth 100000 in
set_option maxHeartbeats 2000000 in
theorem filled_any (v0 : Value) (base : Nat) (l : List Num.Cl) (w : World) (hl : l.length ≤ 4096) (hv : w.ownsRow base 143 3 v0 l.length (l.flatMap clC)) :
    Calls Try.prog 83 #[v0] w fun e w' => ∃ v, e = .returned v ∧ Below w.heap.size w w' ∧ w'.ownsRow w.heap.size 143 3 v (l.filter Num.fullB).length ((l.filter Num.fullB).flatMap clC) := by
  obtain ⟨i0, hi0, hz0, hz1, hz2⟩ := info_parts info_cl
  obtain ⟨ao, cap0, rfl, hao⟩ := owns_formN hv
  have HV := hide hv
  have HAo := hide hao
  obtain ⟨n, hn⟩ : ∃ n, n = l.length := ⟨_, rfl⟩
  rw [← hn] at hl ⊢
  have HN := hide hn
  clear hv hao hn
  go_enter Try.func83, Try.ntmps83
  go_wp2_with fail
  go_loopw [3, 8] (fun v t wr => ∃ k : Nat, k ≤ n ∧ t = .int .i64 k ∧ Below w.heap.size w wr ∧ wr.ownsRow w.heap.size 143 3 v ((l.take k).filter Num.fullB).length (((l.take k).filter Num.fullB).flatMap clC)) (fun _ t _ => n - (intOf t).toNat)
  case atStart => exact ⟨0, by omega, rfl, Below.refl _ _, World.ownsRow_nil _ _ _ _⟩
  case round =>
    obtain ⟨v, rfl⟩ : ∃ v, v = u3 := ⟨_, rfl⟩
    obtain ⟨k, hk, rfl, hb, hown⟩ := hrel
    have hsz := hb.size
    by_cases hlt : k < n
    · have hkl : k < l.length := by rw [← HN.out]; exact hlt
      obtain ⟨b, rfl⟩ := HAo.out (by omega)
      have hbl : b < w.heap.size := (HV.out.lt b rfl).2
      obtain ⟨d0, d1, d2⟩ := owns_cl HV.out k hkl
      have d0 := (hb.cell (p := ⟨b, _, none⟩) hbl).trans d0
      have d1 := (hb.cell (p := ⟨b, _, none⟩) hbl).trans d1
      have d2 := (hb.cell (p := ⟨b, _, none⟩) hbl).trans d2
      have hbw : b < wr.heap.size := by omega
      have HT : Hid (l.take (k + 1) = l.take k ++ [l[k]]) := List.take_succ_eq_append_getElem hkl
      obtain ⟨c, hc⟩ : ∃ c, c = l[k] := ⟨_, rfl⟩
      rw [← hc] at HT d0 d1 d2
      clear hc
      obtain ⟨c1, c2, c3⟩ := c
      simp only at d0 d1 d2
      have hd1 : decide ((k : Int) < (n : Int)) = true := by simp; omega
      have i0' : (0 : Int) ≤ (k : Int) := by omega
      have i1' : (k : Int) < (n : Int) := by omega
      obtain ⟨L, hL⟩ : ∃ L, L = (l.take k).filter Num.fullB := ⟨_, rfl⟩
      have hlen : L.length ≤ 4096 := by
        rw [hL]; have := List.length_filter_le Num.fullB (l.take k); simp only [List.length_take] at this; omega
      rw [← hL] at hown
      have HF : Hid ((l.take (k + 1)).filter Num.fullB = L ++ if Num.fullB (c1, c2, c3) = true then [(c1, c2, c3)] else []) := by
        unfold Hid
        rw [HT.out, List.filter_append, hL]
        congr 1
        split
        · rename_i h; rw [List.filter_cons_of_pos h, List.filter_nil]
        · rename_i h; rw [List.filter_cons_of_neg h, List.filter_nil]
      clear hL HT
      by_cases hf : Num.fullB (c1, c2, c3) = true
      · rw [if_pos hf] at HF
        obtain ⟨ln, hln⟩ : ∃ ln, ln = L.length := ⟨_, rfl⟩
        obtain ⟨xs, hxs⟩ : ∃ xs, xs = L.flatMap clC := ⟨_, rfl⟩
        rw [← hln, ← hxs] at hown
        rw [← hln] at hlen
        have HLn := hide hln
        have HXs := hide hxs
        clear hln hxs
        have hq : (c2 != 0 || c3 != 0) = true := by simpa [Num.fullB, bne] using hf
        clear hf
        cases h2 : (c2 != 0)
        · have h3 : (c3 != 0) = true := by simpa [h2] using hq
          clear hq
          go_wp2_with (at_builtin; refine wpList_append_lies _ rfl _ _ 141 rfl w.heap.size 143 i0 (.agg #[.int .i64 0, .int .i64 0, .int .i64 0]) 3 24 Try.underlying141 hi0 hz0 hz1 hz2 rfl (by omega) v ln xs rfl ((hown.alloc _).alloc _) ⟨wr.heap.size + 1, 0, none⟩ 1 1 [.int .i64 c1, .int .i64 c2, .int .i64 c3] rfl rfl ?a1 ?a2 (by omega) ?a3 ?a4 ?a5 (wr.heap.size + 1 + 1) (by simp) ?_)
          try (case a1 => exact news_new (wr.alloc _) [.int .i64 c1, .int .i64 c2, .int .i64 c3] _ _ (by simp))
          case a2 => first | exact one_ints _ _ _ | exact ⟨rfl, rfl, rfl⟩
          case a3 => unfold maxLen; omega
          case a4 => omega
          case a5 => first | omega | (simp; omega)
          intro g cap w2 hown2 hgrow hat hlt2
          have hb2 : Below w.heap.size w w2 := ((hb.alloc (by omega) _).alloc (by simp; omega) _).grown hgrow (by simp; omega) (fun q hq => (hown.lt q hq).1)
          have HO2 := hide (push_cl (l := L) (l' := (l.take (k + 1)).filter Num.fullB) (p := (c1, c2, c3)) (by rw [← HXs.out]; exact hown2) HF.out (by rw [HLn.out]))
          clear hown2 hgrow hat hown hb
          go_wp2
          go_roundw
          case rel => exact ⟨k + 1, by omega, by go_num, hb2, HO2.out⟩
          case measure => simp [intOf]; omega
        · clear hq
          go_wp2_with (at_builtin; refine wpList_append_lies _ rfl _ _ 141 rfl w.heap.size 143 i0 (.agg #[.int .i64 0, .int .i64 0, .int .i64 0]) 3 24 Try.underlying141 hi0 hz0 hz1 hz2 rfl (by omega) v ln xs rfl ((hown.alloc _).alloc _) ⟨wr.heap.size + 1, 0, none⟩ 1 1 [.int .i64 c1, .int .i64 c2, .int .i64 c3] rfl rfl ?b1 ?b2 (by omega) ?b3 ?b4 ?b5 (wr.heap.size + 1 + 1) (by simp) ?_)
          try (case b1 => exact news_new (wr.alloc _) [.int .i64 c1, .int .i64 c2, .int .i64 c3] _ _ (by simp))
          case b2 => first | exact one_ints _ _ _ | exact ⟨rfl, rfl, rfl⟩
          case b3 => unfold maxLen; omega
          case b4 => omega
          case b5 => first | omega | (simp; omega)
          intro g cap w2 hown2 hgrow hat hlt2
          have hb2 : Below w.heap.size w w2 := ((hb.alloc (by omega) _).alloc (by simp; omega) _).grown hgrow (by simp; omega) (fun q hq => (hown.lt q hq).1)
          have HO2 := hide (push_cl (l := L) (l' := (l.take (k + 1)).filter Num.fullB) (p := (c1, c2, c3)) (by rw [← HXs.out]; exact hown2) HF.out (by rw [HLn.out]))
          clear hown2 hgrow hat hown hb
          go_wp2
          go_roundw
          case rel => exact ⟨k + 1, by omega, by go_num, hb2, HO2.out⟩
          case measure => simp [intOf]; omega
      · rw [if_neg hf, List.append_nil] at HF
        have hq : c2 = 0 ∧ c3 = 0 := by simpa [Num.fullB] using hf
        obtain ⟨rfl, rfl⟩ := hq
        have HE : Hid (wr.ownsRow w.heap.size 143 3 v ((l.take (k + 1)).filter Num.fullB).length (((l.take (k + 1)).filter Num.fullB).flatMap clC)) := by unfold Hid; rw [HF.out]; exact hown
        clear hown hf
        go_wp2
        go_roundw
        case rel => exact ⟨k + 1, by omega, by go_num, by (repeat (any_goals (first | exact Below.refl _ _ | assumption | refine Below.drew ?_ | refine below_drewN ?_ _ | refine Below.setCell ?_ ?_ _ | refine Below.alloc ?_ ?_ _ | omega | (simp; done) | (simp; omega)))), HE.out.alloc _⟩
        case measure => simp [intOf]; omega
    · have e : k = n := by omega
      have hd0 : decide ((k : Int) < (n : Int)) = false := by simp; omega
      have HO : Hid (wr.ownsRow w.heap.size 143 3 v (l.filter Num.fullB).length ((l.filter Num.fullB).flatMap clC)) := by
        unfold Hid
        rw [e, HN.out, List.take_length] at hown
        exact hown
      clear hown
      go_wp2
      go_ret
      exact ⟨v, rfl, hb, HO.out⟩
end Go.Proofs.Ytkhcjkmifddlbab

/- AreaK -/
namespace Go.Proofs.Ytkhcjkmifddlbab
namespace Num

/-- Columns from lo on, each greater than the one ahead, below 64. -/
def Srt : Int → List Cl → Prop
  | _, [] => True
  | lo, c :: r => lo ≤ c.1 ∧ c.1 < 64 ∧ Srt (c.1 + 1) r
theorem srt_mono : ∀ {l : List Cl} {lo lo' : Int}, Srt lo l → lo' ≤ lo → Srt lo' l := by
  intro l lo lo' h hl
  cases l with
  | nil => trivial
  | cons c r => exact ⟨by have := h.1; omega, h.2.1, h.2.2⟩
theorem srt_len : ∀ (l : List Cl) (lo : Int), Srt lo l → lo ≤ 64 → (l.length : Int) ≤ 64 - lo := by
  intro l
  induction l with
  | nil => intro lo _ h; simp; omega
  | cons c r ih =>
    intro lo h hl
    have := ih (c.1 + 1) h.2.2 (by have := h.2.1; omega)
    have := h.1
    simp only [List.length_cons]
    omega
theorem srt_le {l : List Cl} (h : Srt 0 l) : l.length ≤ 64 := by have := srt_len l 0 h (by omega); omega
theorem srt_filter (p : Cl → Bool) : ∀ (l : List Cl) (lo : Int), Srt lo l → Srt lo (l.filter p) := by
  intro l
  induction l with
  | nil => intro lo h; exact h
  | cons c r ih =>
    intro lo h
    by_cases e : p c = true
    · rw [List.filter_cons_of_pos e]
      exact ⟨h.1, h.2.1, ih _ h.2.2⟩
    · rw [List.filter_cons_of_neg e]
      exact srt_mono (ih _ h.2.2) (by have := h.1; omega)
theorem srt_ins : ∀ (l : List Cl) (lo : Int) (k : Nat) (s : Cl), Srt lo l → k ≤ l.length → (∀ i (hi : i < l.length), i < k → l[i].1 < s.1) → (∀ h : k < l.length, s.1 < l[k].1) → lo ≤ s.1 → s.1 < 64 → Srt lo (insC l k s) := by
  intro l
  induction l with
  | nil => intro lo k s _ hk _ _ h1 h2; have : k = 0 := by simpa using hk
           subst this; exact ⟨h1, h2, trivial⟩
  | cons c r ih =>
    intro lo k s h hk ha hb h1 h2
    cases k with
    | zero =>
      have := hb (by simp)
      simp only [List.getElem_cons_zero] at this
      exact ⟨h1, h2, by show s.1 + 1 ≤ c.1; omega, h.2.1, h.2.2⟩
    | succ k =>
      have h0 := ha 0 (by simp) (by omega)
      simp only [List.getElem_cons_zero] at h0
      refine ⟨h.1, h.2.1, ih (c.1 + 1) k s h.2.2 (by simpa using hk) (fun i hi hik => ?_) (fun hk2 => ?_) (by omega) h2⟩
      · have := ha (i + 1) (by simpa using hi) (by omega)
        simpa using this
      · have := hb (by simpa using hk2)
        simpa using this
theorem srt_set : ∀ (l : List Cl) (lo : Int) (k : Nat) (s : Cl) (hk : k < l.length), Srt lo l → l[k].1 = s.1 → Srt lo (setC l k s) := by
  intro l
  induction l with
  | nil => intro lo k s hk; simp at hk
  | cons c r ih =>
    intro lo k s hk h he
    cases k with
    | zero =>
      simp only [List.getElem_cons_zero] at he
      exact ⟨by show lo ≤ s.1; rw [← he]; exact h.1, by show s.1 < 64; rw [← he]; exact h.2.1, by show Srt (s.1 + 1) r; rw [← he]; exact h.2.2⟩
    | succ k =>
      have he : r[k]'(by simpa using hk) = r[k]'(by simpa using hk) ∧ (r[k]'(by simpa using hk)).1 = s.1 := ⟨rfl, by simpa using he⟩
      exact ⟨h.1, h.2.1, ih (c.1 + 1) k s (by simpa using hk) h.2.2 he.2⟩
/-- The cells behind the first i, one more among them. -/
def insU (l : List Cl) (k : Nat) (s : Cl) (i : Nat) : List Cl := if k < i then insC (l.take i) k s else l.take i
theorem insU_lt {l : List Cl} {k i : Nat} {s : Cl} (h : i < k) (hi : i < l.length) : insU l k s (i + 1) = insU l k s i ++ [l[i]] := by
  unfold insU
  rw [if_neg (by omega), if_neg (by omega), List.take_succ_eq_append_getElem hi]
theorem insU_eq {l : List Cl} {k : Nat} {s : Cl} (hi : k < l.length) : insU l k s (k + 1) = insU l k s k ++ [s] ++ [l[k]] := by
  unfold insU insC
  rw [if_pos (by omega), if_neg (by omega), List.take_succ_eq_append_getElem hi]
  have hl : (l.take k).length = k := by simp; omega
  rw [List.take_append_of_le_length (by omega), List.drop_append_of_le_length (by omega), List.drop_of_length_le (by omega), List.take_of_length_le (by omega)]
  simp
theorem insU_gt {l : List Cl} {k i : Nat} {s : Cl} (h : k < i) (hi : i < l.length) : insU l k s (i + 1) = insU l k s i ++ [l[i]] := by
  unfold insU insC
  rw [if_pos (by omega), if_pos h, List.take_succ_eq_append_getElem hi]
  have hl : (l.take i).length = i := by simp; omega
  rw [List.take_append_of_le_length (by omega), List.drop_append_of_le_length (by omega)]
  simp
theorem insU_end {l : List Cl} {k : Nat} {s : Cl} (hk : k < l.length) : insU l k s l.length = insC l k s := by
  unfold insU; rw [if_pos hk, List.take_length]
theorem insU_last (l : List Cl) (s : Cl) : insU l l.length s l.length ++ [s] = insC l l.length s := by
  unfold insU insC; rw [if_neg (by omega), List.take_length, List.drop_length]
theorem insU_len (l : List Cl) (k : Nat) (s : Cl) (i : Nat) : (insU l k s i).length ≤ i + 1 := by
  unfold insU insC
  split <;> simp <;> omega
end Num
end Go.Proofs.Ytkhcjkmifddlbab

/- CvRB -/
namespace Go.Proofs.Ytkhcjkmifddlbab
open Go.RowKit Go.Deep

set_option maxRecDepth 100000 in
set_option maxHeartbeats 4000000 in
theorem inserted_any (v0 : Value) (base k : Nat) (l : List Num.Cl) (s1 s2 s3 : Int) (w : World) (hl : l.length ≤ 4096) (hk : k ≤ l.length) (hv : w.ownsRow base 143 3 v0 l.length (l.flatMap clC)) :
    Calls Try.prog 116 #[v0, .int .i64 k, .agg #[.int .i64 s1, .int .i64 s2, .int .i64 s3]] w fun e w' => ∃ v, e = .returned v ∧ Below w.heap.size w w' ∧ w'.ownsRow w.heap.size 143 3 v (Num.insC l k (s1, s2, s3)).length ((Num.insC l k (s1, s2, s3)).flatMap clC) := by
  obtain ⟨i0, hi0, hz0, hz1, hz2⟩ := info_parts info_cl
  obtain ⟨ao, cap0, rfl, hao⟩ := owns_formN hv
  have HAo := hide hao
  obtain ⟨n, hn⟩ : ∃ n, n = l.length := ⟨_, rfl⟩
  have HC : Hid (∀ i (hi : i < l.length) b, ao = some ⟨b, 0, none⟩ → b < w.heap.size ∧ w.cell? ⟨b, i * 3, none⟩ = some (.int .i64 l[i].1) ∧ w.cell? ⟨b, i * 3 + 1, none⟩ = some (.int .i64 l[i].2.1) ∧ w.cell? ⟨b, i * 3 + 2, none⟩ = some (.int .i64 l[i].2.2)) := fun i hi b e => by
    subst e
    exact ⟨(hv.lt b rfl).2, owns_cl hv i hi⟩
  rw [← hn] at hl hk ⊢
  have HN := hide hn
  clear hv hao hn
  go_enter Try.func116, Try.ntmps116
  go_wp2_with fail
  obtain ⟨sb, hsb⟩ : ∃ sb, sb = w.heap.size := ⟨_, rfl⟩
  obtain ⟨W1, hW1⟩ : ∃ W1, W1 = w.alloc (.cells #[.int .i64 s1, .int .i64 s2, .int .i64 s3] 143) := ⟨_, rfl⟩
  have hB0 : Hid (Below w.heap.size w W1) := by unfold Hid; rw [hW1]; exact (Below.refl _ _).alloc (Nat.le_refl _) _
  have hs1 : W1.heap.size = sb + 1 := by rw [hW1, hsb]; simp
  have HQ : Hid (W1.cell? ⟨sb, 0, none⟩ = some (.int .i64 s1) ∧ W1.cell? ⟨sb, 1, none⟩ = some (.int .i64 s2) ∧ W1.cell? ⟨sb, 2, none⟩ = some (.int .i64 s3)) := by
    unfold Hid
    rw [hW1, hsb]
    exact ⟨by go_simp, by go_simp, by go_simp⟩
  rw [← hW1, ← hsb]
  have hsw : sb = w.heap.size := hsb
  rw [← hsb] at hB0
  have HSw := hide hsw
  clear hW1 hsb hsw
  go_loopw [7, 12] (fun v t wr => ∃ j : Nat, j ≤ n ∧ t = .int .i64 j ∧ Below (sb + 1) W1 wr ∧ wr.ownsRow (sb + 1) 143 3 v (Num.insU l k (s1, s2, s3) j).length ((Num.insU l k (s1, s2, s3) j).flatMap clC)) (fun _ t _ => n - (intOf t).toNat)
  case atStart => exact ⟨0, by omega, rfl, Below.refl _ _, by
    have e : Num.insU l k (s1, s2, s3) 0 = [] := by unfold Num.insU; rw [if_neg (by omega)]; rfl
    rw [e]; exact World.ownsRow_nil _ _ _ _⟩
  case round =>
    obtain ⟨v, rfl⟩ : ∃ v, v = u7 := ⟨_, rfl⟩
    obtain ⟨j, hj, rfl, hb, hown⟩ := hrel
    have hsz := hb.size
    have q0 := (hb.cell (p := ⟨sb, 0, none⟩) (by simp)).trans HQ.out.1
    have q1 := (hb.cell (p := ⟨sb, 1, none⟩) (by simp)).trans HQ.out.2.1
    have q2 := (hb.cell (p := ⟨sb, 2, none⟩) (by simp)).trans HQ.out.2.2
    have hlen := Num.insU_len l k (s1, s2, s3) j
    have hsbw : sb < wr.heap.size := by omega
    by_cases hlt : j < n
    · have hkl : j < l.length := by rw [← HN.out]; exact hlt
      obtain ⟨b, rfl⟩ := HAo.out (by omega)
      obtain ⟨hbl, d0, d1, d2⟩ := HC.out j hkl b rfl
      have hbl : b < sb := by rw [HSw.out]; exact hbl
      have d0 := (hb.cell (p := ⟨b, _, none⟩) (by simp; omega)).trans ((hB0.out.cell (p := ⟨b, _, none⟩) hbl).trans d0)
      have d1 := (hb.cell (p := ⟨b, _, none⟩) (by simp; omega)).trans ((hB0.out.cell (p := ⟨b, _, none⟩) hbl).trans d1)
      have d2 := (hb.cell (p := ⟨b, _, none⟩) (by simp; omega)).trans ((hB0.out.cell (p := ⟨b, _, none⟩) hbl).trans d2)
      have hbw : b < wr.heap.size := by omega
      have HS : Hid (Num.insU l k (s1, s2, s3) (j + 1) = (if j = k then Num.insU l k (s1, s2, s3) j ++ [(s1, s2, s3)] else Num.insU l k (s1, s2, s3) j) ++ [l[j]]) := by
        unfold Hid
        by_cases e : j = k
        · subst e; rw [if_pos rfl, Num.insU_eq hkl]
        · rw [if_neg e]
          rcases Nat.lt_or_gt_of_ne e with h | h
          · exact Num.insU_lt h hkl
          · exact Num.insU_gt h hkl
      obtain ⟨c, hc⟩ : ∃ c, c = l[j] := ⟨_, rfl⟩
      rw [← hc] at HS d0 d1 d2
      clear hc
      obtain ⟨c1, c2, c3⟩ := c
      simp only at d0 d1 d2
      have hd1 : decide ((j : Int) < (n : Int)) = true := by simp; omega
      have i0' : (0 : Int) ≤ (j : Int) := by omega
      have i1' : (j : Int) < (n : Int) := by omega
      obtain ⟨L, hL⟩ : ∃ L, L = Num.insU l k (s1, s2, s3) j := ⟨_, rfl⟩
      rw [← hL] at hown hlen HS
      clear hL
      obtain ⟨ln, hln⟩ : ∃ ln, ln = L.length := ⟨_, rfl⟩
      obtain ⟨xs, hxs⟩ : ∃ xs, xs = L.flatMap clC := ⟨_, rfl⟩
      rw [← hln, ← hxs] at hown
      rw [← hln] at hlen
      have HLn := hide hln
      have HXs := hide hxs
      clear hln hxs
      by_cases he : j = k
      · subst he
        rw [if_pos rfl] at HS
        go_wp2_with (at_builtin; refine wpList_append_lies _ rfl _ _ 141 rfl (sb + 1) 143 i0 (.agg #[.int .i64 0, .int .i64 0, .int .i64 0]) 3 24 Try.underlying141 hi0 hz0 hz1 hz2 rfl (by omega) v ln xs rfl ((hown.alloc _).alloc _) ⟨wr.heap.size + 1, 0, none⟩ 1 1 [.int .i64 s1, .int .i64 s2, .int .i64 s3] rfl rfl ?a1 ?a2 (by omega) ?a3 ?a4 ?a5 (wr.heap.size + 1 + 1) (by simp) ?_)
        try (case a1 => exact news_new (wr.alloc _) [.int .i64 s1, .int .i64 s2, .int .i64 s3] _ _ (by simp))
        case a2 => first | exact one_ints _ _ _ | exact ⟨rfl, rfl, rfl⟩
        case a3 => unfold maxLen; omega
        case a4 => omega
        case a5 => first | omega | (simp; omega)
        intro g cap w2 hown2 hgrow hat hlt2
        have hb2 : Below (sb + 1) W1 w2 := ((hb.alloc (by omega) _).alloc (by simp; omega) _).grown hgrow (by simp; omega) (fun q hq => (hown.lt q hq).1)
        have hne : some wr.heap.size ≠ v.ownBlock := owns_ne_new hown (Nat.le_refl _)
        have p0 : w2.cell? ⟨wr.heap.size, 0, none⟩ = some (.int .i64 c1) := (hgrow.cell_far ⟨wr.heap.size, 0, none⟩ (by simp; omega) hne).trans (by go_simp)
        have p1 : w2.cell? ⟨wr.heap.size, 1, none⟩ = some (.int .i64 c2) := (hgrow.cell_far ⟨wr.heap.size, 1, none⟩ (by simp; omega) hne).trans (by go_simp)
        have p2 : w2.cell? ⟨wr.heap.size, 2, none⟩ = some (.int .i64 c3) := (hgrow.cell_far ⟨wr.heap.size, 2, none⟩ (by simp; omega) hne).trans (by go_simp)
        have hs2 : wr.heap.size + 1 < w2.heap.size := by have := hgrow.size; simp at this; omega
        have hwr2 : wr.heap.size < w2.heap.size := by omega
        have HXF : Hid ((L ++ [(s1, s2, s3)]).flatMap clC = xs ++ [.int .i64 s1, .int .i64 s2, .int .i64 s3]) := by unfold Hid; rw [HXs.out]; simp [clC]
        obtain ⟨ys, hys⟩ : ∃ ys, ys = xs ++ [.int .i64 s1, .int .i64 s2, .int .i64 s3] := ⟨_, rfl⟩
        rw [← hys] at hown2 HXF
        obtain ⟨v2, hv2⟩ : ∃ v2, v2 = Value.slice (some ⟨g, 0, none⟩) (ln + 1) cap := ⟨_, rfl⟩
        rw [← hv2] at hown2 ⊢
        clear hgrow hat hne hown hb d0 d1 d2 q0 q1 q2 hys hv2
        go_wp2_with (at_builtin; refine wpList_append_lies _ rfl _ _ 141 rfl (sb + 1) 143 i0 (.agg #[.int .i64 0, .int .i64 0, .int .i64 0]) 3 24 Try.underlying141 hi0 hz0 hz1 hz2 rfl (by omega) v2 (ln + 1) ys rfl (hown2.alloc _) ⟨w2.heap.size, 0, none⟩ 1 1 [.int .i64 c1, .int .i64 c2, .int .i64 c3] rfl rfl ?b1 ?b2 (by omega) ?b3 ?b4 ?b5 (w2.heap.size + 1) (by simp) ?_)
        try (case b1 => exact news_new w2 [.int .i64 c1, .int .i64 c2, .int .i64 c3] _ _ rfl)
        case b2 => first | exact one_ints _ _ _ | exact ⟨rfl, rfl, rfl⟩
        case b3 => unfold maxLen; omega
        case b4 => omega
        case b5 => first | omega | (simp; omega)
        intro g3 cap3 w3 hown3 hgrow3 hat3 hlt3
        have hb3 : Below (sb + 1) W1 w3 := (hb2.alloc (by have := hb2.size; omega) _).grown hgrow3 (by have := hb2.size; simp; omega) (fun q hq => (hown2.lt q hq).1)
        have HO3 := hide (push_cl (l := L ++ [(s1, s2, s3)]) (l' := Num.insU l j (s1, s2, s3) (j + 1)) (p := (c1, c2, c3)) (by rw [HXF.out]; exact hown3) HS.out (by rw [HLn.out]; simp))
        clear hown3 hgrow3 hat3 hown2 hb2
        go_wp2
        go_roundw
        case rel => exact ⟨j + 1, by omega, by go_num, hb3, HO3.out⟩
        case measure => simp [intOf]; omega
      · rw [if_neg he] at HS
        have hde : decide ((j : Int) = (k : Int)) = false := by simp; omega
        go_wp2_with (at_builtin; refine wpList_append_lies _ rfl _ _ 141 rfl (sb + 1) 143 i0 (.agg #[.int .i64 0, .int .i64 0, .int .i64 0]) 3 24 Try.underlying141 hi0 hz0 hz1 hz2 rfl (by omega) v ln xs rfl ((hown.alloc _).alloc _) ⟨wr.heap.size + 1, 0, none⟩ 1 1 [.int .i64 c1, .int .i64 c2, .int .i64 c3] rfl rfl ?c1 ?c2 (by omega) ?c3 ?c4 ?c5 (wr.heap.size + 1 + 1) (by simp) ?_)
        try (case c1 => exact news_new (wr.alloc _) [.int .i64 c1, .int .i64 c2, .int .i64 c3] _ _ (by simp))
        case c2 => first | exact one_ints _ _ _ | exact ⟨rfl, rfl, rfl⟩
        case c3 => unfold maxLen; omega
        case c4 => omega
        case c5 => first | omega | (simp; omega)
        intro g cap w2 hown2 hgrow hat hlt2
        have hb2 : Below (sb + 1) W1 w2 := ((hb.alloc (by omega) _).alloc (by simp; omega) _).grown hgrow (by simp; omega) (fun q hq => (hown.lt q hq).1)
        have HO2 := hide (push_cl (l := L) (l' := Num.insU l k (s1, s2, s3) (j + 1)) (p := (c1, c2, c3)) (by rw [← HXs.out]; exact hown2) HS.out (by rw [HLn.out]))
        clear hown2 hgrow hat hown hb d0 d1 d2 q0 q1 q2
        go_wp2
        go_roundw
        case rel => exact ⟨j + 1, by omega, by go_num, hb2, HO2.out⟩
        case measure => simp [intOf]; omega
    · have e : j = n := by omega
      subst e
      have hd0 : decide ((j : Int) < (j : Int)) = false := by simp
      by_cases hkn : k < j
      · have hdk : decide ((j : Int) ≤ (k : Int)) = false := by simp; omega
        have HO : Hid (wr.ownsRow w.heap.size 143 3 v (Num.insC l k (s1, s2, s3)).length ((Num.insC l k (s1, s2, s3)).flatMap clC)) := by
          unfold Hid
          rw [HN.out, Num.insU_end (by rw [← HN.out]; exact hkn)] at hown
          exact owns_mono hown (by rw [← HSw.out]; omega)
        have HB : Hid (Below w.heap.size w wr) := by
          have h := hB0.out.trans (hb.mono (by omega))
          rw [HSw.out] at h
          exact h
        clear hown hb
        go_wp2
        go_ret
        exact ⟨v, rfl, HB.out, HO.out⟩
      · have e2 : k = j := by omega
        subst e2
        obtain ⟨L, hL⟩ : ∃ L, L = Num.insU l k (s1, s2, s3) k := ⟨_, rfl⟩
        rw [← hL] at hown hlen
        have HS : Hid (Num.insC l k (s1, s2, s3) = L ++ [(s1, s2, s3)]) := by
          unfold Hid; rw [hL]
          have := Num.insU_last l (s1, s2, s3)
          rw [← HN.out] at this
          exact this.symm
        clear hL
        obtain ⟨ln, hln⟩ : ∃ ln, ln = L.length := ⟨_, rfl⟩
        obtain ⟨xs, hxs⟩ : ∃ xs, xs = L.flatMap clC := ⟨_, rfl⟩
        rw [← hln, ← hxs] at hown
        rw [← hln] at hlen
        have HLn := hide hln
        have HXs := hide hxs
        clear hln hxs
        go_wp2_with (at_builtin; refine wpList_append_lies _ rfl _ _ 141 rfl (sb + 1) 143 i0 (.agg #[.int .i64 0, .int .i64 0, .int .i64 0]) 3 24 Try.underlying141 hi0 hz0 hz1 hz2 rfl (by omega) v ln xs rfl (hown.alloc _) ⟨wr.heap.size, 0, none⟩ 1 1 [.int .i64 s1, .int .i64 s2, .int .i64 s3] rfl rfl ?d1 ?d2 (by omega) ?d3 ?d4 ?d5 (wr.heap.size + 1) (by simp) ?_)
        try (case d1 => exact news_new wr [.int .i64 s1, .int .i64 s2, .int .i64 s3] _ _ rfl)
        case d2 => first | exact one_ints _ _ _ | exact ⟨rfl, rfl, rfl⟩
        case d3 => unfold maxLen; omega
        case d4 => omega
        case d5 => first | omega | (simp; omega)
        intro g cap w2 hown2 hgrow hat hlt2
        have hb2 : Below (sb + 1) W1 w2 := (hb.alloc (by omega) _).grown hgrow (by simp; omega) (fun q hq => (hown.lt q hq).1)
        have HB : Hid (Below w.heap.size w w2) := by
          have h := hB0.out.trans (hb2.mono (by omega))
          rw [HSw.out] at h
          exact h
        have HO2 := hide (owns_mono (base' := w.heap.size) (push_cl (l := L) (l' := Num.insC l k (s1, s2, s3)) (p := (s1, s2, s3)) (by rw [← HXs.out]; exact hown2) HS.out (by rw [HLn.out])) (by rw [← HSw.out]; omega))
        clear hown2 hgrow hat hown hb hb2 q0 q1 q2
        go_wp2
        go_ret
        exact ⟨_, rfl, HB.out, HO2.out⟩
end Go.Proofs.Ytkhcjkmifddlbab

/- CvRC -/
namespace Go.Proofs.Ytkhcjkmifddlbab
open Go.RowKit Go.Deep

theorem rowA_take (x : Int) {l : List Num.Cl} {k : Nat} (hk : k < l.length) : Num.rowA x (l.take (k + 1)) = Num.rowA x (l.take k) + Num.cellA x l[k] := by
  rw [List.take_succ_eq_append_getElem hk, Num.rowA_append]; simp [Num.rowA]

set_option maxRecDepth 100000 in
set_option maxHeartbeats 2000000 in
theorem rowsArea_any (b g H j base : Nat) (x B : Int) (V : Nat → Value) (l : List Num.Cl) (tt : TypeId) (f : Nat → Value) (w : World) (hj : j < H) (hl : l.length ≤ 4096)
    (hR : w.rowIs b tt 7 f) (f6 : f 6 = .slice (some ⟨g, 0, none⟩) H H) (hG : w.rowIs g 141 H V) (hV : w.ownsRow base 143 3 (V j) l.length (l.flatMap clC)) (hB : B ≤ 4611686018427387904) (hm : Num.mass l ≤ B) :
    Calls Try.prog 65 #[.pointer (some ⟨b, 6, none⟩), .int .i64 x, .int .i64 j] w fun e w' => e = .returned (.int .i64 (Num.rowA x l)) ∧ Below w.heap.size w w' := by
  obtain ⟨ao, cap0, hvj, hao⟩ := owns_formN hV
  have k6 := hR.cell (i := 6) (by omega)
  rw [f6] at k6
  have kj := hG.cell (i := j) hj
  rw [hvj] at kj hV
  have HAo := hide hao
  obtain ⟨n, hn⟩ : ∃ n, n = l.length := ⟨_, rfl⟩
  have HC : Hid (∀ i (hi : i < l.length) q, ao = some ⟨q, 0, none⟩ → q < w.heap.size ∧ w.cell? ⟨q, i * 3, none⟩ = some (.int .i64 l[i].1) ∧ w.cell? ⟨q, i * 3 + 1, none⟩ = some (.int .i64 l[i].2.1) ∧ w.cell? ⟨q, i * 3 + 2, none⟩ = some (.int .i64 l[i].2.2)) := fun i hi q e => by
    subst e
    exact ⟨(hV.lt q rfl).2, owns_cl hV i hi⟩
  rw [← hn] at hl kj
  have HN := hide hn
  have HM := hide hm
  have j0 : (0 : Int) ≤ (j : Int) := by omega
  have j1 : (j : Int) < (H : Int) := by omega
  have jd : decide ((H : Int) ≤ (j : Int)) = false := by simp; omega
  have jd0 : decide ((j : Int) < 0) = false := by simp
  clear hV hao hn hR hG hvj hm
  go_enter Try.func65, Try.ntmps65
  go_wp2_with fail
  go_loopw [7, 29] (fun s t wr => ∃ k : Nat, k ≤ n ∧ t = .int .i64 k ∧ s = .int .i64 (Num.rowA x (l.take k)) ∧ Below w.heap.size w wr) (fun _ t _ => n - (intOf t).toNat)
  case atStart => exact ⟨0, by omega, rfl, rfl, Below.refl _ _⟩
  case round =>
    obtain ⟨k, hk, rfl, rfl, hb⟩ := hrel
    have hsz := hb.size
    by_cases hlt : k < n
    · have hkl : k < l.length := by rw [← HN.out]; exact hlt
      obtain ⟨q, rfl⟩ := HAo.out (by omega)
      obtain ⟨hbl, d0, d1, d2⟩ := HC.out k hkl q rfl
      have d0 := (hb.cell (p := ⟨q, _, none⟩) hbl).trans d0
      have d1 := (hb.cell (p := ⟨q, _, none⟩) hbl).trans d1
      have d2 := (hb.cell (p := ⟨q, _, none⟩) hbl).trans d2
      have hbw : q < wr.heap.size := by omega
      have HT := hide (rowA_take x hkl)
      have hbd := Num.rowA_bd x (l.take (k + 1))
      have hbe := Num.rowA_bd x (l.take k)
      have m1 := Num.mass_take l (k + 1)
      have m0 := Num.mass_take l k
      have hmm := HM.out
      obtain ⟨S0, hS0⟩ : ∃ S0, S0 = Num.rowA x (l.take k) := ⟨_, rfl⟩
      obtain ⟨S1, hS1⟩ : ∃ S1, S1 = Num.rowA x (l.take (k + 1)) := ⟨_, rfl⟩
      have s0 : -4611686018427387904 ≤ S0 ∧ S0 ≤ 4611686018427387904 := by omega
      have s1 : -4611686018427387904 ≤ S1 ∧ S1 ≤ 4611686018427387904 := by omega
      rw [← hS0, ← hS1] at HT
      rw [← hS0]
      have HS1 := hide hS1
      clear hbd hbe m1 m0 hmm hS0 hS1
      obtain ⟨c, hc⟩ : ∃ c, c = l[k] := ⟨_, rfl⟩
      rw [← hc] at HT d0 d1 d2
      clear hc
      obtain ⟨c1, c2, c3⟩ := c
      simp only at d0 d1 d2
      have hd1 : decide ((k : Int) < (n : Int)) = true := by simp; omega
      have i0' : (0 : Int) ≤ (k : Int) := by omega
      have i1' : (k : Int) < (n : Int) := by omega
      have HT2 := HT.out
      unfold Num.cellA at HT2
      simp only at HT2
      rcases Int.lt_trichotomy c1 x with hx | hx | hx
      · rw [if_pos hx, if_neg (by omega)] at HT2
        go_wp2
        go_roundw
        case rel => exact ⟨k + 1, by omega, by go_num, by rw [← HS1.out, HT2]; congr 1; omega, by (repeat (any_goals (first | exact Below.refl _ _ | assumption | refine Below.drew ?_ | refine below_drewN ?_ _ | refine Below.setCell ?_ ?_ _ | refine Below.alloc ?_ ?_ _ | omega | (simp; done) | (simp; omega))))⟩
        case measure => simp [intOf]; omega
      · rw [if_neg (by omega), if_pos hx] at HT2
        go_wp2
        go_roundw
        case rel => exact ⟨k + 1, by omega, by go_num, by rw [← HS1.out, HT2]; congr 1; omega, by (repeat (any_goals (first | exact Below.refl _ _ | assumption | refine Below.drew ?_ | refine below_drewN ?_ _ | refine Below.setCell ?_ ?_ _ | refine Below.alloc ?_ ?_ _ | omega | (simp; done) | (simp; omega))))⟩
        case measure => simp [intOf]; omega
      · rw [if_neg (by omega), if_neg (by omega)] at HT2
        go_wp2
        go_roundw
        case rel => exact ⟨k + 1, by omega, by go_num, by rw [← HS1.out, HT2]; congr 1; omega, by (repeat (any_goals (first | exact Below.refl _ _ | assumption | refine Below.drew ?_ | refine below_drewN ?_ _ | refine Below.setCell ?_ ?_ _ | refine Below.alloc ?_ ?_ _ | omega | (simp; done) | (simp; omega))))⟩
        case measure => simp [intOf]; omega
    · have e : k = n := by omega
      have hd0 : decide ((k : Int) < (n : Int)) = false := by simp; omega
      have HE : Hid (Num.rowA x (l.take k) = Num.rowA x l) := by unfold Hid; rw [e, HN.out, List.take_length]
      go_wp2
      go_ret
      exact ⟨ret_int HE.out, hb⟩
end Go.Proofs.Ytkhcjkmifddlbab

/- CvRD -/
namespace Go.Proofs.Ytkhcjkmifddlbab
open Go.RowKit Go.Deep

/-- The rows: where they lie. -/
structure Rws (w : World) (g H : Nat) (V : Nat → Value) (R : Nat → List Num.Cl) : Prop where
  outer : w.rowIs g 141 H V
  inner : ∀ j, j < H → w.ownsRow 0 143 3 (V j) (R j).length ((R j).flatMap clC)
  inj : ∀ i j, i < H → j < H → i ≠ j → ∀ q, (V i).ownBlock = some q → (V j).ownBlock ≠ some q
  srt : ∀ j, j < H → Num.Srt 0 (R j)
/-- The blocks in which they lie. -/
def rwS (g H : Nat) (V : Nat → Value) (q : Nat) : Prop := q = g ∨ ∃ j, j < H ∧ (V j).ownBlock = some q
theorem Rws.touch {w w' : World} {g H : Nat} {V : Nat → Value} {R : Nat → List Num.Cl} {S : Nat → Prop} (h : Rws w g H V R) (t : Touch S w w') (hS : ∀ q, rwS g H V q → ¬ S q) : Rws w' g H V R :=
  ⟨t.row h.outer (hS g (.inl rfl)), fun j hj => owns_of_block (h.inner j hj) (fun b hb => t.block b ((h.inner j hj).lt b hb).2 (hS b (.inr ⟨j, hj, hb⟩))), h.inj, h.srt⟩
theorem Rws.ne {w : World} {g H : Nat} {V : Nat → Value} {R : Nat → List Num.Cl} (h : Rws w g H V R) {j b : Nat} (hj : j < H) (hb : (V j).ownBlock = some b) : b ≠ g := fun e => by
  have h1 := owns_ty (h.inner j hj) hb
  rw [e, row_ty h.outer] at h1
  simp at h1
theorem Rws.lt {w : World} {g H : Nat} {V : Nat → Value} {R : Nat → List Num.Cl} (h : Rws w g H V R) {q : Nat} (hq : rwS g H V q) : q < w.heap.size := by
  rcases hq with rfl | ⟨j, hj, hb⟩
  · exact h.outer.lt
  · exact ((h.inner j hj).lt q hb).2

/-- Another row in place of row r. -/
theorem Rws.put {w w1 : World} {g H r base : Nat} {V : Nat → Value} {R : Nat → List Num.Cl} {v : Value} {l : List Num.Cl} (h : Rws w g H V R) (hb : Below w.heap.size w w1) (hown : w1.ownsRow base 143 3 v l.length (l.flatMap clC)) (hbase : w.heap.size ≤ base) (hs : Num.Srt 0 l) :
    Rws (w1.setCell ⟨g, r, none⟩ v) g H (fun j => if j = r then v else V j) (fun j => if j = r then l else R j) := by
  have hgl := h.outer.lt
  have ho1 : w1.rowIs g 141 H V := row_below h.outer hb hgl
  have hne : ∀ b, b ≠ g → (w1.setCell ⟨g, r, none⟩ v).heap[b]? = w1.heap[b]? := fun b hb => blk_setCell_other _ _ _ _ (by simpa using hb)
  refine ⟨ho1.set r v, fun j hj => ?_, fun i j hi hj hij q hq => ?_, fun j hj => ?_⟩
  · by_cases e : j = r
    · simp only [if_pos e]
      refine owns_mono (base := base) (owns_of_block hown (fun b hb2 => hne b (fun e2 => ?_))) (Nat.zero_le _)
      have := (hown.lt b hb2).1; omega
    · simp only [if_neg e]
      have h1 := h.inner j hj
      exact owns_of_block h1 (fun b hb2 => by rw [hne b (h.ne hj hb2), hb.block b (h1.lt b hb2).2])
  · by_cases e : i = r
    · simp only [if_pos e] at hq
      simp only [if_neg (fun e2 : j = r => hij (by rw [e, e2]))]
      intro e2
      have := (hown.lt q hq).1
      have := ((h.inner j hj).lt q e2).2
      omega
    · simp only [if_neg e] at hq
      by_cases e2 : j = r
      · simp only [if_pos e2]
        intro e3
        have := (hown.lt q e3).1
        have := ((h.inner i hi).lt q hq).2
        omega
      · simp only [if_neg e2]
        exact h.inj i j hi hj hij q hq
  · by_cases e : j = r
    · simp only [if_pos e]; exact hs
    · simp only [if_neg e]; exact h.srt j hj

theorem owns_putC {w : World} {base q n cap sz i : Nat} {t : TypeId} {xs : List Value} (h : w.ownsRow base t sz (.slice (some ⟨q, 0, none⟩) n cap) n xs) (u : Value) : (w.setCell ⟨q, i, none⟩ u).ownsRow base t sz (.slice (some ⟨q, 0, none⟩) n cap) n (xs.set i u) := by
  refine ⟨by rw [List.length_set]; exact h.1, ?_⟩
  rcases h.2 with ⟨e, _⟩ | ⟨g, c2, cur, e, hb, hg, hn, hm, hsz, htk⟩
  · cases e
  · injection e with e1 e2 e3
    injection e1 with e1
    injection e1 with e1
    subst e1 e3
    refine .inr ⟨q, cap, cur.setIfInBounds i u, rfl, hb, ?_, hn, hm, by simpa using hsz, ?_⟩
    · simp [World.setCell, Array.getElem?_modify, hg]
    · rw [Array.toList_setIfInBounds, List.take_set, htk]
theorem flat_set : ∀ (l : List Num.Cl) (k : Nat) (hk : k < l.length) (s : Num.Cl), l[k].1 = s.1 → (Num.setC l k s).flatMap clC = ((l.flatMap clC).set (k * 3 + 1) (.int .i64 (l[k].2.1 + s.2.1))).set (k * 3 + 2) (.int .i64 (l[k].2.2 + s.2.2)) := by
  intro l
  induction l with
  | nil => intro k hk; simp at hk
  | cons x r ih =>
    intro k hk s hc
    cases k with
    | zero =>
      simp only [List.getElem_cons_zero] at hc ⊢
      simp [Num.setC, clC, hc]
    | succ k =>
      have hk2 : k < r.length := by simpa using hk
      have hc2 : r[k].1 = s.1 := by simpa using hc
      have e : Num.setC (x :: r) (k + 1) s = x :: Num.setC r k s := by simp [Num.setC]
      rw [e, List.flatMap_cons, List.flatMap_cons, ih k hk2 s hc2]
      have l3 : (clC x).length = 3 := rfl
      rw [List.set_append_right _ _ (by omega), List.set_append_right _ _ (by omega), l3, show (k + 1) * 3 + 1 - 3 = k * 3 + 1 by omega, show (k + 1) * 3 + 2 - 3 = k * 3 + 2 by omega]
      simp only [List.getElem_cons_succ]
theorem set_len {l : List Num.Cl} {k : Nat} {s : Num.Cl} : (Num.setC l k s).length = l.length := by unfold Num.setC; simp
/-- A cell that counts more, in its place. -/
theorem Rws.more {w : World} {g H r k q cap : Nat} {V : Nat → Value} {R : Nat → List Num.Cl} {s : Num.Cl} (h : Rws w g H V R) (hr : r < H) (hk : k < (R r).length) (hv : V r = .slice (some ⟨q, 0, none⟩) (R r).length cap) (hc : (R r)[k].1 = s.1) :
    Rws ((w.setCell ⟨q, k * 3 + 1, none⟩ (.int .i64 ((R r)[k].2.1 + s.2.1))).setCell ⟨q, k * 3 + 2, none⟩ (.int .i64 ((R r)[k].2.2 + s.2.2))) g H V (fun j => if j = r then Num.setC (R r) k s else R j) := by
  have hq : (V r).ownBlock = some q := by rw [hv]; rfl
  have hqg := h.ne hr hq
  have hne : ∀ b, b ≠ q → ((w.setCell ⟨q, k * 3 + 1, none⟩ (.int .i64 ((R r)[k].2.1 + s.2.1))).setCell ⟨q, k * 3 + 2, none⟩ (.int .i64 ((R r)[k].2.2 + s.2.2))).heap[b]? = w.heap[b]? := fun b hb => by
    rw [blk_setCell_other _ _ _ _ (by simpa using hb), blk_setCell_other _ _ _ _ (by simpa using hb)]
  refine ⟨h.outer.of_block (hne g (fun e => hqg e.symm)), fun j hj => ?_, h.inj, fun j hj => ?_⟩
  · by_cases e : j = r
    · subst e
      simp only [if_true]
      have h1 := h.inner j hj
      rw [hv] at h1 ⊢
      rw [set_len, flat_set _ _ hk s hc]
      exact owns_putC (owns_putC h1 _) _
    · simp only [if_neg e]
      exact owns_of_block (h.inner j hj) (fun b hb => hne b (fun e2 => h.inj r j hr hj (fun e3 => e e3.symm) q hq (by rw [← e2]; exact hb)))
  · by_cases e : j = r
    · subst e
      simp only [if_true]
      exact Num.srt_set _ _ _ _ hk (h.srt j hj) hc
    · simp only [if_neg e]; exact h.srt j hj
end Go.Proofs.Ytkhcjkmifddlbab
