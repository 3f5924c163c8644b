/- Joined: AreaJ, ClsV, ClsW, ClsX, WhlV, WhlW, WhlX, Place. -/
import Derived.Test.YtkhcjkmifddlbabPart2
import Derived.Test.YtkhcjkmifddlbabProg
import Derived.Test.YtkhcjkmifddlbabPart1
import Derived.WalkKit
import Derived.WalkSpells
import Derived.WalkLawsBesides
import Derived.Deep.QuietTactic
import Derived.BigQuiet
import Derived.Deep.RegionHeld3
/- AreaJ -/
namespace Go.Proofs.Ytkhcjkmifddlbab
namespace Num

theorem gr_or (a b : Int) : gr a b = a ∨ gr a b = b := by unfold gr; split <;> simp
theorem ls_or (a b : Int) : lsV a b = a ∨ lsV a b = b := by unfold lsV; split <;> simp
theorem mul_lt_row {j r W : Nat} (h : j < r) : j * W + W ≤ r * W := by
  have := Nat.mul_le_mul_right W (show j + 1 ≤ r from h)
  rw [Nat.add_mul, Nat.one_mul] at this
  exact this
theorem idx_in {W H i j : Nat} (hi : i < W) (hj : j < H) : j * W + i < W * H := by
  have := mul_lt_row (W := W) hj
  rw [Nat.mul_comm W H]; omega
/-- The table behind one piece. -/
def tabAdd (W r c : Nat) (a b : Int) (T : Nat → Int) (k : Nat) : Int := if k = r * W + c then T k + a else if r * W + c < k ∧ k < r * W + W then T k + b else T k
theorem tabAdd_at {W i j c r : Nat} {a b : Int} {T : Nat → Int} (hi : i < W) (hc : c < W) :
    tabAdd W r c a b T (j * W + i) = T (j * W + i) + (if j = r then (if i < c then 0 else if i = c then a else b) else 0) := by
  unfold tabAdd
  rcases Nat.lt_trichotomy j r with h | h | h
  · have := mul_lt_row (W := W) h
    rw [if_neg (by omega), if_neg (by omega), if_neg (by omega)]; omega
  · subst h
    rw [if_pos rfl]
    by_cases e : i = c
    · subst e; rw [if_pos rfl, if_neg (by omega), if_pos rfl]
    · rw [if_neg (by omega)]
      by_cases d : i < c
      · rw [if_neg (by omega), if_pos d]; omega
      · rw [if_pos (by omega), if_neg d, if_neg e]
  · have := mul_lt_row (W := W) h
    rw [if_neg (by omega), if_neg (by omega), if_neg (by omega)]; omega
theorem tabAdd_bd {W r c : Nat} {a b B D : Int} {T : Nat → Int} {n : Nat} (hT : ∀ k, k < n → -B ≤ T k ∧ T k ≤ B) (ha : -D ≤ a ∧ a ≤ D) (hb : -D ≤ b ∧ b ≤ D) : ∀ k, k < n → -(B + D) ≤ tabAdd W r c a b T k ∧ tabAdd W r c a b T k ≤ B + D := by
  intro k hk
  have := hT k hk
  unfold tabAdd
  split
  · omega
  · split <;> omega

/-- A cell of a row: its column, what it counts there, what to the right. -/
abbrev Cl := Int × Int × Int
def cellA (x : Int) (c : Cl) : Int := (if c.1 < x then c.2.2 else 0) + (if c.1 = x then c.2.1 else 0)
def rowA (x : Int) : List Cl → Int
  | [] => 0
  | c :: r => cellA x c + rowA x r
def mass : List Cl → Int
  | [] => 0
  | c :: r => sz c.2.1 + sz c.2.2 + mass r
theorem sz_nn (n : Int) : 0 ≤ sz n := by unfold sz; split <;> omega
theorem sz_ge (n : Int) : -sz n ≤ n ∧ n ≤ sz n := by unfold sz; split <;> omega
theorem sz_add (a b : Int) : sz (a + b) ≤ sz a + sz b := by
  unfold sz; repeat' split
  all_goals omega
theorem rowA_append (x : Int) (l r : List Cl) : rowA x (l ++ r) = rowA x l + rowA x r := by
  induction l with
  | nil => simp [rowA]
  | cons c l ih => simp only [List.cons_append, rowA, ih]; omega
theorem mass_append (l r : List Cl) : mass (l ++ r) = mass l + mass r := by
  induction l with
  | nil => simp [mass]
  | cons c l ih => simp only [List.cons_append, mass, ih]; omega
theorem mass_nn (l : List Cl) : 0 ≤ mass l := by
  induction l with
  | nil => simp [mass]
  | cons c l ih => have := sz_nn c.2.1; have := sz_nn c.2.2; simp only [mass]; omega
theorem rowA_bd (x : Int) (l : List Cl) : -mass l ≤ rowA x l ∧ rowA x l ≤ mass l := by
  induction l with
  | nil => simp [mass, rowA]
  | cons c l ih =>
    have h1 := sz_ge c.2.1
    have h2 := sz_ge c.2.2
    simp only [mass, rowA, cellA]
    split <;> split <;> omega
theorem mass_take (l : List Cl) (k : Nat) : mass (l.take k) ≤ mass l := by
  have e : l = l.take k ++ l.drop k := (List.take_append_drop k l).symm
  have h : mass l = mass (l.take k) + mass (l.drop k) := by rw [← mass_append, List.take_append_drop]
  have := mass_nn (l.drop k)
  omega
theorem mass_mem {l : List Cl} {c : Cl} (h : c ∈ l) : sz c.2.1 + sz c.2.2 ≤ mass l := by
  induction l with
  | nil => cases h
  | cons d l ih =>
    have h1 := sz_nn d.2.1
    have h2 := sz_nn d.2.2
    have h3 := mass_nn l
    simp only [mass]
    rw [List.mem_cons] at h
    rcases h with h | h
    · subst h; omega
    · have := ih h; omega
/-- One cell more. -/
def insC (l : List Cl) (k : Nat) (s : Cl) : List Cl := l.take k ++ s :: l.drop k
theorem rowA_ins (x : Int) (l : List Cl) (k : Nat) (s : Cl) : rowA x (insC l k s) = rowA x l + cellA x s := by
  have h : rowA x l = rowA x (l.take k) + rowA x (l.drop k) := by rw [← rowA_append, List.take_append_drop]
  unfold insC
  rw [rowA_append, h]; simp only [rowA]; omega
theorem mass_ins (l : List Cl) (k : Nat) (s : Cl) : mass (insC l k s) = mass l + (sz s.2.1 + sz s.2.2) := by
  have h : mass l = mass (l.take k) + mass (l.drop k) := by rw [← mass_append, List.take_append_drop]
  unfold insC
  rw [mass_append, h]; simp only [mass]; omega
theorem len_ins (l : List Cl) (k : Nat) (s : Cl) (hk : k ≤ l.length) : (insC l k s).length = l.length + 1 := by
  unfold insC; simp; omega
/-- A cell that counts more. -/
def setC (l : List Cl) (k : Nat) (s : Cl) : List Cl := l.set k (s.1, (l[k]?.getD s).2.1 + s.2.1, (l[k]?.getD s).2.2 + s.2.2)
theorem split_at {l : List Cl} {k : Nat} (hk : k < l.length) : l = l.take k ++ l[k] :: l.drop (k + 1) := by
  rw [List.getElem_cons_drop, List.take_append_drop]
theorem set_at {l : List Cl} {k : Nat} {s : Cl} (hk : k < l.length) : setC l k s = l.take k ++ (s.1, l[k].2.1 + s.2.1, l[k].2.2 + s.2.2) :: l.drop (k + 1) := by
  unfold setC
  rw [List.set_eq_take_append_cons_drop, if_pos hk]
  simp [hk]
theorem rowA_set (x : Int) {l : List Cl} {k : Nat} {s : Cl} (hk : k < l.length) (hc : l[k].1 = s.1) : rowA x (setC l k s) = rowA x l + cellA x s := by
  have h : rowA x l = rowA x (l.take k) + (cellA x l[k] + rowA x (l.drop (k + 1))) := by
    have := congrArg (rowA x) (split_at hk)
    rw [rowA_append] at this
    simpa only [rowA] using this
  rw [set_at hk, rowA_append, h]
  simp only [rowA, cellA, hc]
  split <;> split <;> omega
theorem mass_set {l : List Cl} {k : Nat} {s : Cl} (hk : k < l.length) : mass (setC l k s) ≤ mass l + (sz s.2.1 + sz s.2.2) := by
  have h : mass l = mass (l.take k) + (sz l[k].2.1 + sz l[k].2.2 + mass (l.drop (k + 1))) := by
    have := congrArg mass (split_at hk)
    rw [mass_append] at this
    simpa only [mass] using this
  rw [set_at hk, mass_append, h]
  simp only [mass]
  have := sz_add l[k].2.1 s.2.1
  have := sz_add l[k].2.2 s.2.2
  omega
/-- The cells in which something is. -/
def fullB (c : Cl) : Bool := !(c.2.1 == 0) || !(c.2.2 == 0)
theorem rowA_filter (x : Int) (l : List Cl) : rowA x (l.filter fullB) = rowA x l := by
  induction l with
  | nil => rfl
  | cons c l ih =>
    by_cases h : fullB c = true
    · rw [List.filter_cons_of_pos h]; simp only [rowA, ih]
    · rw [List.filter_cons_of_neg h]
      simp [fullB] at h
      simp only [rowA, ih, cellA, h.1, h.2]
      split <;> split <;> omega
theorem mass_filter (l : List Cl) : mass (l.filter fullB) = mass l := by
  induction l with
  | nil => rfl
  | cons c l ih =>
    by_cases h : fullB c = true
    · rw [List.filter_cons_of_pos h]; simp only [mass, ih]
    · rw [List.filter_cons_of_neg h]
      simp [fullB] at h
      simp only [mass, ih, h.1, h.2]
      have : sz 0 = 0 := rfl
      omega
theorem cellA_share {i c a b : Int} : cellA i (c, a, b) = if i < c then 0 else if i = c then a else b := by
  unfold cellA
  simp only
  split <;> split <;> split <;> (try split) <;> omega

/-- How great a piece's numbers may be. -/
theorem piece_bd {t x0 y0 x1 y1 : Int} (ht : t = 1 ∨ t = -1) (hx : noL x0 x1) (hy : noL y0 y1) : (-8192 ≤ hereV t x0 y0 x1 y1 ∧ hereV t x0 y0 x1 y1 ≤ 8192) ∧ -8192 ≤ rightV t y0 y1 ∧ rightV t y0 y1 ≤ 8192 := by
  obtain ⟨r, h1, h2⟩ := noL_row hy
  have hh : -64 ≤ t * (y1 - y0) ∧ t * (y1 - y0) ≤ 64 := by rcases ht with rfl | rfl <;> omega
  have hc : 0 ≤ colV x0 x1 * 64 + 64 - gr x0 0 + (colV x0 x1 * 64 + 64) - gr x1 0 ∧ colV x0 x1 * 64 + 64 - gr x0 0 + (colV x0 x1 * 64 + 64) - gr x1 0 ≤ 128 := by
    obtain ⟨c0, k1, k2⟩ := noL_row hx
    have g0 := gr0 x0
    have g1 := gr0 x1
    unfold colV
    obtain ⟨m, hm⟩ : ∃ m, m = lsV (gr x0 0) (gr x1 0) := ⟨_, rfl⟩
    have hm2 : (m = gr x0 0 ∨ m = gr x1 0) ∧ m ≤ gr x0 0 ∧ m ≤ gr x1 0 := by rw [hm]; unfold lsV; split <;> omega
    rw [← hm, Int.tdiv_eq_ediv_of_nonneg (by omega)]
    omega
  refine ⟨?_, ?_⟩
  · unfold hereV
    have := mul_bd (t * (y1 - y0)) (colV x0 x1 * 64 + 64 - gr x0 0 + (colV x0 x1 * 64 + 64) - gr x1 0) 64 128 (by omega) (by omega)
    omega
  · unfold rightV; omega
theorem pcV_bd {t x0 y0 x1 y1 i j : Int} (ht : t = 1 ∨ t = -1) (hx : noL x0 x1) (hy : noL y0 y1) : -8192 ≤ pcV t x0 y0 x1 y1 i j ∧ pcV t x0 y0 x1 y1 i j ≤ 8192 := by
  have := piece_bd ht hx hy
  unfold pcV
  repeat' split
  all_goals omega
end Num
end Go.Proofs.Ytkhcjkmifddlbab

/- ClsV -/
namespace Go.Proofs.Ytkhcjkmifddlbab
namespace Num

def clp (v lo hi : Int) : Int := if v < lo then lo else if hi < v then hi else v
/-- The length of the pixel's part to the right of the chord's line, at a height, times the chord's height. -/
def leftV (ax ay bx b2 i y : Int) : Int := clp ((64 * i + 64 - ax) * (b2 - ay) - (y - ay) * (bx - ax)) 0 (64 * (b2 - ay))
theorem left_turn (ax ay bx b2 i y : Int) : leftV ax ay bx b2 i y = clp (turnV ax ay bx b2 (64 * i + 64) y) 0 (64 * (b2 - ay)) := by
  unfold leftV turnV
  rw [Int.mul_comm (64 * i + 64 - ax), Int.mul_comm (y - ay)]
def grK (a b : Int) : Int := if b < a then a else b
def stripL (ax ay bx b2 i t : Int) (k : Nat) : Int := lsV (leftV ax ay bx b2 i (t + k)) (leftV ax ay bx b2 i (t + k + 1))
def stripH (ax ay bx b2 i t : Int) (k : Nat) : Int := gr (leftV ax ay bx b2 i (t + k)) (leftV ax ay bx b2 i (t + k + 1))
def topV (ay j : Int) : Int := gr ay (64 * j)
def botV (b2 j : Int) : Int := lsV b2 (64 * j + 64)
def lowV (ax ay bx b2 i j : Int) : Int := if b2 - ay ≤ 0 then 0 else (sumZ (stripL ax ay bx b2 i (topV ay j)) (botV b2 j - topV ay j).toNat).tdiv (b2 - ay)
def highV (ax ay bx b2 i j : Int) : Int := if b2 - ay ≤ 0 then 0 else (sumZ (stripH ax ay bx b2 i (topV ay j)) (botV b2 j - topV ay j).toNat + (b2 - ay) - 1).tdiv (b2 - ay)
def offV (ax ay bx b2 i j : Int) : Int := if b2 - ay ≤ 0 then 0 else if meetsV ax ay bx b2 i j = true then 64 else 0

/-- Convex: half the area to the right, of a line. -/
def qq (M k : Int) : Int := if k < 0 then 0 else if M < k then 2 * (M * k) - M * M else k * k
theorem qq_lip {M a b : Int} (hM : 0 ≤ M) (h : a ≤ b) : 2 * (clp a 0 M * (b - a)) ≤ qq M b - qq M a ∧ qq M b - qq M a ≤ 2 * (clp b 0 M * (b - a)) := by
  have nn : ∀ {x y : Int}, 0 ≤ x → 0 ≤ y → 0 ≤ x * y := fun h1 h2 => Int.mul_nonneg h1 h2
  unfold qq clp
  by_cases a0 : a < 0
  · rw [if_pos a0, if_pos a0]
    by_cases b0 : b < 0
    · rw [if_pos b0, if_pos b0]; simp
    · rw [if_neg b0, if_neg b0]
      by_cases b1 : M < b
      · rw [if_pos b1, if_pos b1]
        have h1 := nn hM (show 0 ≤ b - M by omega)
        have h2 := nn hM (show 0 ≤ -a by omega)
        have h3 := nn hM hM
        simp only [Int.mul_sub, Int.zero_mul, Int.mul_neg] at h1 h2 ⊢
        omega
      · rw [if_neg b1, if_neg b1]
        have h1 := nn (show 0 ≤ b by omega) (show 0 ≤ b by omega)
        have h2 := nn (show 0 ≤ b by omega) (show 0 ≤ -a by omega)
        simp only [Int.mul_sub, Int.zero_mul, Int.mul_neg] at h2 ⊢
        omega
  · rw [if_neg a0, if_neg a0, if_neg (show ¬ b < 0 by omega), if_neg (show ¬ b < 0 by omega)]
    by_cases a1 : M < a
    · rw [if_pos a1, if_pos a1, if_pos (show M < b by omega), if_pos (show M < b by omega), Int.mul_sub]; omega
    · rw [if_neg a1, if_neg a1]
      by_cases b1 : M < b
      · rw [if_pos b1, if_pos b1]
        have h1 := nn (show 0 ≤ M - a by omega) (show 0 ≤ M - a by omega)
        have h2 := nn (show 0 ≤ M - a by omega) (show 0 ≤ b - M by omega)
        have c1 := Int.mul_comm a M
        simp only [Int.sub_mul, Int.mul_sub] at h1 h2 ⊢
        omega
      · rw [if_neg b1, if_neg b1]
        have h1 := nn (show 0 ≤ b - a by omega) (show 0 ≤ b - a by omega)
        have c1 := Int.mul_comm a b
        simp only [Int.sub_mul, Int.mul_sub] at h1 ⊢
        omega
theorem qq_scale (e M k : Int) (he : 0 < e) : qq (e * M) (e * k) = e * (e * qq M k) := by
  unfold qq
  by_cases k0 : k < 0
  · have := Int.mul_pos he (show 0 < -k by omega)
    rw [Int.mul_neg] at this
    rw [if_pos k0, if_pos (by omega)]; simp
  · have := Int.mul_nonneg (show 0 ≤ e by omega) (show 0 ≤ k by omega)
    rw [if_neg k0, if_neg (by omega)]
    by_cases k1 : M < k
    · have := Int.mul_pos he (show 0 < k - M by omega)
      rw [Int.mul_sub] at this
      rw [if_pos k1, if_pos (by omega), Int.mul_sub, Int.mul_sub]
      have x1 : e * M * (e * k) = e * (e * (M * k)) := by simp only [Int.mul_comm, Int.mul_left_comm]
      have x2 : e * M * (e * M) = e * (e * (M * M)) := by simp only [Int.mul_comm, Int.mul_left_comm]
      have x3 : e * (e * (2 * (M * k))) = 2 * (e * (e * (M * k))) := by rw [Int.mul_left_comm e 2, Int.mul_left_comm e 2]
      omega
    · have := Int.mul_nonneg (show 0 ≤ e by omega) (show 0 ≤ M - k by omega)
      rw [Int.mul_sub] at this
      rw [if_neg k1, if_neg (by omega)]
      simp only [Int.mul_comm, Int.mul_left_comm]
theorem clp_scale (e v M : Int) (he : 0 < e) : clp (e * v) 0 (e * M) = e * clp v 0 M := by
  unfold clp
  by_cases v0 : v < 0
  · have := Int.mul_pos he (show 0 < -v by omega)
    rw [Int.mul_neg] at this
    rw [if_pos v0, if_pos (by omega)]; simp
  · have := Int.mul_nonneg (show 0 ≤ e by omega) (show 0 ≤ v by omega)
    rw [if_neg v0, if_neg (by omega)]
    by_cases v1 : M < v
    · have := Int.mul_pos he (show 0 < v - M by omega)
      rw [Int.mul_sub] at this
      rw [if_pos v1, if_pos (by omega)]
    · have := Int.mul_nonneg (show 0 ≤ e by omega) (show 0 ≤ M - v by omega)
      rw [Int.mul_sub] at this
      rw [if_neg v1, if_neg (by omega)]
theorem clp_lip {a b M D : Int} (hM : 0 ≤ M) (h1 : a ≤ b + D) (hD : 0 ≤ D) : clp a 0 M ≤ clp b 0 M + D := by
  unfold clp
  repeat' split
  all_goals omega
theorem clp_rng {v M : Int} (hM : 0 ≤ M) : 0 ≤ clp v 0 M ∧ clp v 0 M ≤ M := by
  unfold clp; repeat' split
  all_goals omega

theorem part_poly (w h a b p q U c : Int) : w * (c * a + (b - a) * U) = (w * a - h * p) * (c - U) + (w * b - h * q) * U + h * (c * p + (q - p) * U) := by
  simp only [Int.mul_add, Int.mul_sub, Int.mul_comm, Int.mul_left_comm]
  omega
/-- The document's part, against the line itself: each height off by a half at most. -/
theorem part_qq {lo hi ylo yhi r yl yr xl xr : Int} (hw : lo < hi)
    (hxl : xl = clipV (r - 64) lo hi) (hxr : xr = clipV r lo hi)
    (hl : -(hi - lo) ≤ 2 * ((hi - lo) * (yl - ylo) - (yhi - ylo) * (xl - lo)) ∧ 2 * ((hi - lo) * (yl - ylo) - (yhi - ylo) * (xl - lo)) ≤ hi - lo)
    (hr : -(hi - lo) ≤ 2 * ((hi - lo) * (yr - ylo) - (yhi - ylo) * (xr - lo)) ∧ 2 * ((hi - lo) * (yr - ylo) - (yhi - ylo) * (xr - lo)) ≤ hi - lo)
    (el : xl = lo → yl = ylo) (er : xl = hi → yl = yhi) (el2 : xr = lo → yr = ylo) (er2 : xr = hi → yr = yhi) :
    -(64 * (hi - lo)) ≤ (hi - lo) * (128 * (yl - ylo) + (yr - yl) * (r - xl + r - xr)) - (yhi - ylo) * (qq 64 (r - lo) - qq 64 (r - hi)) ∧
    (hi - lo) * (128 * (yl - ylo) + (yr - yl) * (r - xl + r - xr)) - (yhi - ylo) * (qq 64 (r - lo) - qq 64 (r - hi)) ≤ 64 * (hi - lo) := by
  have P := part_poly (hi - lo) (yhi - ylo) (yl - ylo) (yr - ylo) (xl - lo) (xr - lo) (r - xl + r - xr) 128
  rw [show yr - ylo - (yl - ylo) = yr - yl by omega, show xr - lo - (xl - lo) = xr - xl by omega] at P
  have K : 128 * (xl - lo) + (xr - xl) * (r - xl + r - xr) = qq 64 (r - lo) - qq 64 (r - hi) := by
    have sq : ∀ A B : Int, (A - B) * (A + B) = A * A - B * B := by
      intro A B
      have := Int.mul_comm A B
      rw [Int.sub_mul, Int.mul_add, Int.mul_add]; omega
    have e := sq (r - xl) (r - xr)
    rw [show r - xl - (r - xr) = xr - xl by omega, show r - xl + (r - xr) = r - xl + r - xr by omega] at e
    rw [e]
    unfold qq
    by_cases c1 : hi ≤ r - 64
    · have x1 : xl = hi := by rw [hxl, clip_hi c1 (by omega)]
      have x2 : xr = hi := by rw [hxr, clip_hi (by omega) (by omega)]
      rw [x1, x2, if_neg (by omega), if_pos (show 64 < r - lo by omega), if_neg (by omega)]
      by_cases c2 : 64 < r - hi
      · rw [if_pos c2]; omega
      · have : r - hi = 64 := by omega
        rw [if_neg c2, this]; omega
    · by_cases c2 : r ≤ lo
      · have x1 : xl = lo := by rw [hxl, clip_lo (by omega)]
        have x2 : xr = lo := by rw [hxr, clip_lo (by omega)]
        rw [x1, x2, if_pos (show r - hi < 0 by omega)]
        by_cases c3 : r - lo < 0
        · rw [if_pos c3]; omega
        · have : r - lo = 0 := by omega
          rw [if_neg c3, this]; simp
      · by_cases c3 : lo < r - 64
        · have x1 : xl = r - 64 := by rw [hxl, clip_mid (by omega) (by omega)]
          rw [if_neg (show ¬ r - lo < 0 by omega), if_pos (show 64 < r - lo by omega), if_neg (show ¬ 64 < r - hi by omega)]
          by_cases c4 : r - hi < 0
          · have x2 : xr = r := by rw [hxr, clip_mid (by omega) (by omega)]
            rw [if_pos c4, x1, x2]; simp; omega
          · have x2 : xr = hi := by rw [hxr, clip_hi (by omega) (by omega)]
            rw [if_neg c4, x1, x2, show r - (r - 64) = 64 by omega]; omega
        · have x1 : xl = lo := by rw [hxl, clip_lo (by omega)]
          rw [if_neg (show ¬ r - lo < 0 by omega), if_neg (show ¬ 64 < r - lo by omega), if_neg (show ¬ 64 < r - hi by omega)]
          by_cases c4 : r - hi < 0
          · have x2 : xr = r := by rw [hxr, clip_mid (by omega) (by omega)]
            rw [if_pos c4, x1, x2]; simp
          · have x2 : xr = hi := by rw [hxr, clip_hi (by omega) (by omega)]
            rw [if_neg c4, x1, x2]; omega
  rw [K] at P
  obtain ⟨U, hU⟩ : ∃ U, U = r - xl + r - xr := ⟨_, rfl⟩
  obtain ⟨dl, hdl⟩ : ∃ dl, dl = (hi - lo) * (yl - ylo) - (yhi - ylo) * (xl - lo) := ⟨_, rfl⟩
  obtain ⟨dr, hdr⟩ : ∃ dr, dr = (hi - lo) * (yr - ylo) - (yhi - ylo) * (xr - lo) := ⟨_, rfl⟩
  rw [← hdl] at hl P
  rw [← hdr] at hr P
  rw [← hU] at P ⊢
  have bd : -(64 * (hi - lo)) ≤ dl * (128 - U) + dr * U ∧ dl * (128 - U) + dr * U ≤ 64 * (hi - lo) := by
    by_cases c1 : hi ≤ r - 64
    · have x1 : xl = hi := by rw [hxl, clip_hi c1 (by omega)]
      have x2 : xr = hi := by rw [hxr, clip_hi (by omega) (by omega)]
      have z1 : dl = 0 := by rw [hdl, er x1, x1, Int.mul_comm]; omega
      have z2 : dr = 0 := by rw [hdr, er2 x2, x2, Int.mul_comm]; omega
      rw [z1, z2]; simp; omega
    · by_cases c2 : r ≤ lo
      · have x1 : xl = lo := by rw [hxl, clip_lo (by omega)]
        have x2 : xr = lo := by rw [hxr, clip_lo (by omega)]
        have z1 : dl = 0 := by rw [hdl, el x1, x1]; simp
        have z2 : dr = 0 := by rw [hdr, el2 x2, x2]; simp
        rw [z1, z2]; simp; omega
      · have u1 : r - 64 ≤ xl ∧ xl ≤ r := by
          rw [hxl]; unfold clipV gr lsV; repeat' split
          all_goals omega
        have u2 : r - 64 ≤ xr ∧ xr ≤ r := by
          rw [hxr]; unfold clipV gr lsV; repeat' split
          all_goals omega
        have m1 := mul_ge (a := 2 * dl) (t := 128 - U) (B := hi - lo) (by omega) (by omega)
        have m2 := mul_ge (a := 2 * dr) (t := U) (B := hi - lo) (by omega) (by omega)
        rw [Int.mul_sub (hi - lo)] at m1
        rw [Int.mul_assoc] at m1 m2
        omega
  omega
end Num
end Go.Proofs.Ytkhcjkmifddlbab

/- ClsW -/
namespace Go.Proofs.Ytkhcjkmifddlbab
namespace Num

theorem hu_half (n d : Int) (hd : 0 < d) : -d ≤ 2 * (d * hu n d - n) ∧ 2 * (d * hu n d - n) ≤ d := by
  obtain ⟨h1, h2⟩ := hu_facts n d hd
  rw [Int.mul_assoc] at h1 h2
  omega
theorem atV_half {a b p q n : Int} (h : p < q) : -(q - p) ≤ 2 * ((q - p) * (atV a b p q n - a) - (b - a) * (n - p)) ∧ 2 * ((q - p) * (atV a b p q n - a) - (b - a) * (n - p)) ≤ q - p := by
  rw [atV_eq (by omega), if_neg (by omega)]
  have := hu_half ((b - a) * (n - p)) (q - p) (by omega)
  rw [show a + hu ((b - a) * (n - p)) (q - p) - a = hu ((b - a) * (n - p)) (q - p) by omega]
  exact this
theorem docG_qq {lo hi ylo yhi : Int} (i e : Int) (hw : lo < hi) (he : e = sz (yhi - ylo)) :
    -(64 * (hi - lo)) ≤ (hi - lo) * docG lo ylo hi yhi i - e * (qq 64 (64 * i + 64 - lo) - qq 64 (64 * i + 64 - hi)) ∧
    (hi - lo) * docG lo ylo hi yhi i - e * (qq 64 (64 * i + 64 - lo) - qq 64 (64 * i + 64 - hi)) ≤ 64 * (hi - lo) := by
  have b0 : atV ylo yhi lo hi lo = ylo := atV_begin (by omega)
  have b1 : atV ylo yhi lo hi hi = yhi := atV_end (by omega)
  have X : ∀ xl xr, xl = clipV (64 * i + 64 - 64) lo hi → xr = clipV (64 * i + 64) lo hi → _ := fun xl xr h1 h2 =>
    part_qq (lo := lo) (hi := hi) (ylo := ylo) (yhi := yhi) (r := 64 * i + 64) (yl := atV ylo yhi lo hi xl) (yr := atV ylo yhi lo hi xr) (xl := xl) (xr := xr) hw h1 h2
      (atV_half hw) (atV_half hw) (fun e => by rw [e]; exact b0) (fun e => by rw [e]; exact b1) (fun e => by rw [e]; exact b0) (fun e => by rw [e]; exact b1)
  have X := X _ _ rfl rfl
  rw [show 64 * i + 64 - 64 = 64 * i by omega] at X
  by_cases c : ylo ≤ yhi
  · rw [docG_up i hw c]
    rw [he, sz_pos (by omega)]
    unfold formY
    rw [b0]
    exact X
  · rw [docG_dn i hw (by omega)]
    rw [he, sz_neg (by omega)]
    unfold formY
    rw [b0]
    rw [Int.mul_neg, Int.neg_mul]
    omega
theorem tele {M K w : Int} (hM : 0 ≤ M) (hw : 0 ≤ w) : ∀ n : Nat, 2 * (w * sumZ (fun k => clp (K - ((k : Int) + 1) * w) 0 M) n) ≤ qq M K - qq M (K - n * w) ∧ qq M K - qq M (K - n * w) ≤ 2 * (w * sumZ (fun k => clp (K - (k : Int) * w) 0 M) n) := by
  intro n
  induction n with
  | zero => simp [sumZ]
  | succ n ih =>
    have e : K - ((n + 1 : Nat) : Int) * w = K - (n : Int) * w - w := by
      rw [show ((n + 1 : Nat) : Int) = (n : Int) + 1 by omega, Int.add_mul]; omega
    have h := qq_lip (M := M) (a := K - (n : Int) * w - w) (b := K - (n : Int) * w) hM (by omega)
    rw [show K - (n : Int) * w - (K - (n : Int) * w - w) = w by omega] at h
    have m1 := Int.mul_comm (clp (K - (n : Int) * w - w) 0 M) w
    have m2 := Int.mul_comm (clp (K - (n : Int) * w) 0 M) w
    simp only [sumZ, Int.mul_add]
    rw [e, show K - ((n : Int) + 1) * w = K - (n : Int) * w - w by rw [Int.add_mul]; omega]
    omega
theorem tele2 {M K w : Int} (hM : 0 ≤ M) (hw : 0 ≤ w) : ∀ n : Nat, 2 * (w * sumZ (fun k => clp (K + (k : Int) * w) 0 M) n) ≤ qq M (K + n * w) - qq M K ∧ qq M (K + n * w) - qq M K ≤ 2 * (w * sumZ (fun k => clp (K + ((k : Int) + 1) * w) 0 M) n) := by
  intro n
  induction n with
  | zero => simp [sumZ]
  | succ n ih =>
    have e : K + ((n + 1 : Nat) : Int) * w = K + (n : Int) * w + w := by
      rw [show ((n + 1 : Nat) : Int) = (n : Int) + 1 by omega, Int.add_mul]; omega
    have h := qq_lip (M := M) (a := K + (n : Int) * w) (b := K + (n : Int) * w + w) hM (by omega)
    rw [show K + (n : Int) * w + w - (K + (n : Int) * w) = w by omega] at h
    have m1 := Int.mul_comm (clp (K + (n : Int) * w + w) 0 M) w
    have m2 := Int.mul_comm (clp (K + (n : Int) * w) 0 M) w
    simp only [sumZ, Int.mul_add]
    rw [e, show K + ((n : Int) + 1) * w = K + (n : Int) * w + w by rw [Int.add_mul]; omega]
    omega
theorem sumZ_le {f g : Nat → Int} : ∀ n, (∀ k, k < n → f k ≤ g k) → sumZ f n ≤ sumZ g n := by
  intro n
  induction n with
  | zero => intro _; exact Int.le_refl _
  | succ n ih => intro h; have := ih (fun k hk => h k (by omega)); have := h n (by omega); simp only [sumZ]; omega
/-- The rounded part's strips. -/
def cS (e r x y : Int) (k : Nat) : Int := clp (e * (r - x) - (k : Int) * (y - x)) 0 (64 * e)
theorem cancel_le {w a b : Int} (hw : 0 < w) (h : w * a ≤ w * b) : a ≤ b := by
  rcases Int.lt_or_le b a with c | c
  · have := Int.mul_pos hw (show 0 < a - b by omega)
    rw [Int.mul_sub] at this
    omega
  · exact c
theorem part_strips {x t y u : Int} (i : Int) (htu : t < u) :
    2 * sumZ (fun k => lsV (cS (u - t) (64 * i + 64) x y k) (cS (u - t) (64 * i + 64) x y (k + 1))) (u - t).toNat - 64 * (u - t) ≤ (u - t) * partV x t y u i ∧
    (u - t) * partV x t y u i ≤ 2 * sumZ (fun k => gr (cS (u - t) (64 * i + 64) x y k) (cS (u - t) (64 * i + 64) x y (k + 1))) (u - t).toNat + 64 * (u - t) := by
  obtain ⟨e, he⟩ : ∃ e, e = u - t := ⟨_, rfl⟩
  obtain ⟨r, hr⟩ : ∃ r, r = 64 * i + 64 := ⟨_, rfl⟩
  have he0 : 0 < e := by omega
  have hn : ((e.toNat : Nat) : Int) = e := by omega
  rw [← he, ← hr, partV_eq]
  have L1 := sumZ_le (f := fun k => lsV (cS e r x y k) (cS e r x y (k + 1))) (g := fun k => cS e r x y k) e.toNat (fun k _ => (ls_le _ _).1)
  have L2 := sumZ_le (f := fun k => lsV (cS e r x y k) (cS e r x y (k + 1))) (g := fun k => cS e r x y (k + 1)) e.toNat (fun k _ => (ls_le _ _).2)
  have G1 := sumZ_le (g := fun k => gr (cS e r x y k) (cS e r x y (k + 1))) (f := fun k => cS e r x y k) e.toNat (fun k _ => (gr_ge _ _).1)
  have G2 := sumZ_le (g := fun k => gr (cS e r x y k) (cS e r x y (k + 1))) (f := fun k => cS e r x y (k + 1)) e.toNat (fun k _ => (gr_ge _ _).2)
  rcases Int.lt_trichotomy x y with c | c | c
  · rw [if_neg (by omega)]
    have D := docG_qq (lo := x) (hi := y) (ylo := t) (yhi := u) i e c (by rw [sz_pos (by omega)]; exact he)
    have T := tele (M := 64 * e) (K := e * (r - x)) (w := y - x) (by omega) (by omega) e.toNat
    rw [hn, ← Int.mul_sub, show r - x - (y - x) = r - y by omega, Int.mul_comm 64 e, qq_scale e 64 _ he0, qq_scale e 64 _ he0, ← Int.mul_sub, ← Int.mul_sub] at T
    rw [← hr] at D
    have s1 : sumZ (fun k => clp (e * (r - x) - ((k : Int) + 1) * (y - x)) 0 (e * 64)) e.toNat = sumZ (fun k => cS e r x y (k + 1)) e.toNat := by
      apply sumZ_congr; intro k _; unfold cS; rw [Int.mul_comm 64 e]; rfl
    have s2 : sumZ (fun k => clp (e * (r - x) - (k : Int) * (y - x)) 0 (e * 64)) e.toNat = sumZ (fun k => cS e r x y k) e.toNat := by
      apply sumZ_congr; intro k _; unfold cS; rw [Int.mul_comm 64 e]
    rw [s1, s2] at T
    obtain ⟨Q, hQ⟩ : ∃ Q, Q = e * (qq 64 (r - x) - qq 64 (r - y)) := ⟨_, rfl⟩
    rw [← hQ] at D T
    obtain ⟨w, hw⟩ : ∃ w, w = y - x := ⟨_, rfl⟩
    rw [← hw] at D T
    have d1 := Int.mul_le_mul_of_nonneg_left D.1 (show 0 ≤ e by omega)
    have d2 := Int.mul_le_mul_of_nonneg_left D.2 (show 0 ≤ e by omega)
    rw [Int.mul_sub, Int.mul_left_comm e w] at d1 d2
    have z1 : e * -(64 * w) = -(w * (64 * e)) := by rw [Int.mul_neg, Int.mul_comm e, Int.mul_assoc, Int.mul_left_comm]
    have z2 : e * (64 * w) = w * (64 * e) := by rw [Int.mul_comm e, Int.mul_assoc, Int.mul_left_comm]
    rw [z1] at d1
    rw [z2] at d2
    constructor
    · have : 2 * sumZ (fun k => cS e r x y (k + 1)) e.toNat - 64 * e ≤ e * docG x t y u i := by
        refine cancel_le (w := w) (by omega) ?_
        rw [Int.mul_sub, Int.mul_left_comm w 2]
        omega
      omega
    · have : e * docG x t y u i ≤ 2 * sumZ (fun k => cS e r x y k) e.toNat + 64 * e := by
        refine cancel_le (w := w) (by omega) ?_
        rw [Int.mul_add, Int.mul_left_comm w 2]
        omega
      omega
  · subst c
    rw [if_neg (Int.lt_irrefl _), docG_vert i (by omega), ← he, ← hr]
    have s : ∀ k, cS e r x x k = e * cl (r - x) := by
      intro k
      unfold cS
      rw [Int.sub_self, Int.mul_zero, Int.sub_zero, Int.mul_comm 64 e, clp_scale e _ 64 he0]
      rfl
    have s1 : sumZ (fun k => lsV (cS e r x x k) (cS e r x x (k + 1))) e.toNat = sumZ (fun _ => e * cl (r - x)) e.toNat := sumZ_congr _ (fun k _ => by rw [s, s]; unfold lsV; split <;> rfl)
    have s2 : sumZ (fun k => gr (cS e r x x k) (cS e r x x (k + 1))) e.toNat = sumZ (fun _ => e * cl (r - x)) e.toNat := sumZ_congr _ (fun k _ => by rw [s, s]; unfold gr; split <;> rfl)
    have s3 : ∀ (z : Int) (n : Nat), sumZ (fun _ => z) n = n * z := by
      intro z n
      induction n with
      | zero => simp [sumZ]
      | succ n ih => simp only [sumZ, ih]; rw [show ((n + 1 : Nat) : Int) = (n : Int) + 1 by omega, Int.add_mul]; omega
    rw [s1, s2, s3, hn]
    have : e * (2 * cl (r - x) * e) = 2 * (e * (e * cl (r - x))) := by
      rw [Int.mul_assoc 2, Int.mul_left_comm e 2, Int.mul_comm (cl (r - x)) e]
    omega
  · rw [if_pos c]
    have D := docG_qq (lo := y) (hi := x) (ylo := u) (yhi := t) i e c (by rw [sz_neg (by omega)]; omega)
    have T := tele2 (M := 64 * e) (K := e * (r - x)) (w := x - y) (by omega) (by omega) e.toNat
    rw [hn, ← Int.mul_add, show r - x + (x - y) = r - y by omega, Int.mul_comm 64 e, qq_scale e 64 _ he0, qq_scale e 64 _ he0, ← Int.mul_sub, ← Int.mul_sub] at T
    rw [← hr] at D
    have s1 : sumZ (fun k => clp (e * (r - x) + ((k : Int) + 1) * (x - y)) 0 (e * 64)) e.toNat = sumZ (fun k => cS e r x y (k + 1)) e.toNat := by
      apply sumZ_congr; intro k _; unfold cS; rw [Int.mul_comm 64 e, show y - x = -(x - y) by omega, Int.mul_neg]
      rw [show e * (r - x) - -(((k + 1 : Nat) : Int) * (x - y)) = e * (r - x) + ((k : Int) + 1) * (x - y) by rw [show ((k + 1 : Nat) : Int) = (k : Int) + 1 by omega]; omega]
    have s2 : sumZ (fun k => clp (e * (r - x) + (k : Int) * (x - y)) 0 (e * 64)) e.toNat = sumZ (fun k => cS e r x y k) e.toNat := by
      apply sumZ_congr; intro k _; unfold cS; rw [Int.mul_comm 64 e, show y - x = -(x - y) by omega, Int.mul_neg]
      rw [show e * (r - x) - -((k : Int) * (x - y)) = e * (r - x) + (k : Int) * (x - y) by omega]
    rw [s1, s2] at T
    obtain ⟨Q, hQ⟩ : ∃ Q, Q = e * (qq 64 (r - y) - qq 64 (r - x)) := ⟨_, rfl⟩
    rw [← hQ] at D T
    obtain ⟨w, hw⟩ : ∃ w, w = x - y := ⟨_, rfl⟩
    rw [← hw] at D T
    have d1 := Int.mul_le_mul_of_nonneg_left D.1 (show 0 ≤ e by omega)
    have d2 := Int.mul_le_mul_of_nonneg_left D.2 (show 0 ≤ e by omega)
    rw [Int.mul_sub, Int.mul_left_comm e w] at d1 d2
    have z1 : e * -(64 * w) = -(w * (64 * e)) := by rw [Int.mul_neg, Int.mul_comm e, Int.mul_assoc, Int.mul_left_comm]
    have z2 : e * (64 * w) = w * (64 * e) := by rw [Int.mul_comm e, Int.mul_assoc, Int.mul_left_comm]
    rw [z1] at d1
    rw [z2] at d2
    constructor
    · have : 2 * sumZ (fun k => cS e r x y k) e.toNat - 64 * e ≤ e * docG y u x t i := by
        refine cancel_le (w := w) (by omega) ?_
        rw [Int.mul_sub, Int.mul_left_comm w 2]
        omega
      omega
    · have : e * docG y u x t i ≤ 2 * sumZ (fun k => cS e r x y (k + 1)) e.toNat + 64 * e := by
        refine cancel_le (w := w) (by omega) ?_
        rw [Int.mul_add, Int.mul_left_comm w 2]
        omega
      omega
end Num
end Go.Proofs.Ytkhcjkmifddlbab

/- ClsX -/
namespace Go.Proofs.Ytkhcjkmifddlbab
namespace Num

theorem lin_id (d e R p q B s k : Int) : d * (e * (R - p) - k * (q - p)) - e * (d * R - B * (s + k)) = -((e - k) * (d * p - B * s)) - k * (d * q - B * (s + e)) := by
  simp only [Int.mul_add, Int.mul_sub, Int.mul_comm, Int.mul_left_comm]
  omega
theorem strip_near {ax ay bx b2 i t u : Int} {k : Nat} (h : ay < b2) (htu : t < u) (hk : (k : Int) ≤ u - t) :
    2 * ((b2 - ay) * cS (u - t) (64 * i + 64) (atV ax bx ay b2 t) (atV ax bx ay b2 u) k) ≤ 2 * ((u - t) * leftV ax ay bx b2 i (t + k)) + (b2 - ay) * (u - t) ∧
    2 * ((u - t) * leftV ax ay bx b2 i (t + k)) ≤ 2 * ((b2 - ay) * cS (u - t) (64 * i + 64) (atV ax bx ay b2 t) (atV ax bx ay b2 u) k) + (b2 - ay) * (u - t) := by
  have hx := atV_half (a := ax) (b := bx) (n := t) h
  have hy := atV_half (a := ax) (b := bx) (n := u) h
  obtain ⟨x, hx'⟩ : ∃ x, x = atV ax bx ay b2 t := ⟨_, rfl⟩
  obtain ⟨y, hy'⟩ : ∃ y, y = atV ax bx ay b2 u := ⟨_, rfl⟩
  rw [← hx'] at hx ⊢
  rw [← hy'] at hy ⊢
  obtain ⟨d, hd⟩ : ∃ d, d = b2 - ay := ⟨_, rfl⟩
  obtain ⟨e, he⟩ : ∃ e, e = u - t := ⟨_, rfl⟩
  rw [left_turn]
  unfold turnV
  rw [← hd] at hx hy ⊢
  rw [← he]
  have hd0 : 0 < d := by omega
  have he0 : 0 < e := by omega
  have I := lin_id d e (64 * i + 64 - ax) (x - ax) (y - ax) (bx - ax) (t - ay) k
  rw [show 64 * i + 64 - ax - (x - ax) = 64 * i + 64 - x by omega, show y - ax - (x - ax) = y - x by omega, show t - ay + (k : Int) = t + k - ay by omega, show t - ay + e = u - ay by omega] at I
  obtain ⟨gx, hgx⟩ : ∃ g, g = d * (x - ax) - (bx - ax) * (t - ay) := ⟨_, rfl⟩
  obtain ⟨gy, hgy⟩ : ∃ g, g = d * (y - ax) - (bx - ax) * (u - ay) := ⟨_, rfl⟩
  rw [← hgx] at hx I
  rw [← hgy] at hy I
  have m1 := mul_ge (a := 2 * gx) (t := e - k) (B := d) (by omega) (by omega)
  have m2 := mul_ge (a := 2 * gy) (t := (k : Int)) (B := d) (by omega) (by omega)
  rw [Int.mul_assoc] at m1 m2
  rw [Int.mul_sub d] at m1
  rw [Int.mul_comm gx] at m1
  rw [Int.mul_comm gy] at m2
  have hde : 0 ≤ d * e := Int.mul_nonneg (by omega) (by omega)
  unfold cS
  have c1 := clp_scale d (e * (64 * i + 64 - x) - (k : Int) * (y - x)) (64 * e) hd0
  have c2 := clp_scale e (d * (64 * i + 64 - ax) - (bx - ax) * (t + k - ay)) (64 * d) he0
  have c3 := clp_scale 2 (d * (e * (64 * i + 64 - x) - (k : Int) * (y - x))) (d * (64 * e)) (by omega)
  have c4 := clp_scale 2 (e * (d * (64 * i + 64 - ax) - (bx - ax) * (t + k - ay))) (e * (64 * d)) (by omega)
  have eM : e * (64 * d) = d * (64 * e) := by rw [Int.mul_left_comm, Int.mul_comm e d, Int.mul_left_comm]
  have hM : 0 ≤ 2 * (d * (64 * e)) := by rw [Int.mul_left_comm d 64]; omega
  rw [← c1, ← c2, eM]
  rw [eM] at c4
  rw [← c3, ← c4]
  exact ⟨clp_lip hM (by omega) hde, clp_lip hM (by omega) hde⟩
theorem sumZ_lin {f g : Nat → Int} {p q c : Int} : ∀ n : Nat, (∀ k, k < n → p * f k ≤ q * g k + c) → p * sumZ f n ≤ q * sumZ g n + n * c := by
  intro n
  induction n with
  | zero => intro _; simp [sumZ]
  | succ n ih =>
    intro h
    have h1 := ih (fun k hk => h k (by omega))
    have h2 := h n (by omega)
    simp only [sumZ, Int.mul_add]
    rw [show ((n + 1 : Nat) : Int) = (n : Int) + 1 by omega, Int.add_mul]
    omega
theorem sumZ_lin2 {f g : Nat → Int} {p q c : Int} : ∀ n : Nat, (∀ k, k < n → q * g k ≤ p * f k + c) → q * sumZ g n ≤ p * sumZ f n + n * c := fun n h => sumZ_lin n h

/-- The part of a chord in a row, against the strips. -/
theorem down_strips {ax ay bx b2 i t u : Int} (h : ay < b2) (htu : t < u) (h64 : u - t ≤ 64) :
    (b2 - ay) * partV (atV ax bx ay b2 t) t (atV ax bx ay b2 u) u i ≤ 2 * sumZ (stripH ax ay bx b2 i t) (u - t).toNat + 128 * (b2 - ay) ∧
    2 * sumZ (stripL ax ay bx b2 i t) (u - t).toNat ≤ (b2 - ay) * partV (atV ax bx ay b2 t) t (atV ax bx ay b2 u) u i + 128 * (b2 - ay) := by
  obtain ⟨P1, P2⟩ := part_strips (x := atV ax bx ay b2 t) (y := atV ax bx ay b2 u) i htu
  obtain ⟨n, hn⟩ : ∃ n, n = (u - t).toNat := ⟨_, rfl⟩
  have hn2 : (n : Int) = u - t := by omega
  rw [← hn] at P1 P2 ⊢
  have N : ∀ k : Nat, k ≤ n → _ := fun k hk => strip_near (ax := ax) (bx := bx) (i := i) (k := k) h htu (by omega)
  obtain ⟨d, hd⟩ : ∃ d, d = b2 - ay := ⟨_, rfl⟩
  obtain ⟨e, he⟩ : ∃ e, e = u - t := ⟨_, rfl⟩
  obtain ⟨V, hV⟩ : ∃ V, V = partV (atV ax bx ay b2 t) t (atV ax bx ay b2 u) u i := ⟨_, rfl⟩
  obtain ⟨cS', hcS⟩ : ∃ c : Nat → Int, c = cS e (64 * i + 64) (atV ax bx ay b2 t) (atV ax bx ay b2 u) := ⟨_, rfl⟩
  rw [← he] at P1 P2 N hn2 h64
  rw [← hd] at N ⊢
  rw [← hV] at P1 P2 ⊢
  rw [← hcS] at P1 P2 N
  have hd0 : 0 < d := by omega
  have he0 : 0 < e := by omega
  have S1 := sumZ_lin (f := fun k => gr (cS' k) (cS' (k + 1))) (g := stripH ax ay bx b2 i t) (p := 2 * d) (q := 2 * e) (c := d * e) n (fun k hk => by
    have n1 := N k (by omega)
    have n2 := N (k + 1) (by omega)
    rw [show t + ((k + 1 : Nat) : Int) = t + k + 1 by omega] at n2
    have g1 := gr_ge (leftV ax ay bx b2 i (t + k)) (leftV ax ay bx b2 i (t + k + 1))
    have m1 := Int.mul_le_mul_of_nonneg_left g1.1 (show 0 ≤ e by omega)
    have m2 := Int.mul_le_mul_of_nonneg_left g1.2 (show 0 ≤ e by omega)
    unfold stripH
    rw [Int.mul_assoc, Int.mul_assoc]
    rcases gr_or (cS' k) (cS' (k + 1)) with c | c <;> simp only [c] <;> omega)
  have S2 := sumZ_lin (f := stripL ax ay bx b2 i t) (g := fun k => lsV (cS' k) (cS' (k + 1))) (p := 2 * e) (q := 2 * d) (c := d * e) n (fun k hk => by
    have n1 := N k (by omega)
    have n2 := N (k + 1) (by omega)
    rw [show t + ((k + 1 : Nat) : Int) = t + k + 1 by omega] at n2
    have g1 := ls_le (leftV ax ay bx b2 i (t + k)) (leftV ax ay bx b2 i (t + k + 1))
    have m1 := Int.mul_le_mul_of_nonneg_left g1.1 (show 0 ≤ e by omega)
    have m2 := Int.mul_le_mul_of_nonneg_left g1.2 (show 0 ≤ e by omega)
    unfold stripL
    rw [Int.mul_assoc, Int.mul_assoc]
    rcases ls_or (cS' k) (cS' (k + 1)) with c | c <;> simp only [c] <;> omega)
  rw [hn2] at S1 S2
  have q1 := Int.mul_le_mul_of_nonneg_left P1 (show 0 ≤ d by omega)
  have q2 := Int.mul_le_mul_of_nonneg_left P2 (show 0 ≤ d by omega)
  have hde : 0 ≤ d * e := Int.mul_nonneg (by omega) (by omega)
  have q3 := Int.mul_le_mul_of_nonneg_right h64 hde
  rw [Int.mul_assoc, Int.mul_assoc] at S1 S2
  rw [Int.mul_sub, Int.mul_left_comm d 2, Int.mul_left_comm d 64, Int.mul_left_comm d e] at q1
  rw [Int.mul_add, Int.mul_left_comm d 2, Int.mul_left_comm d 64, Int.mul_left_comm d e] at q2
  have z : e * (128 * d) = 128 * (d * e) := by rw [Int.mul_left_comm, Int.mul_comm e d]
  constructor
  · refine cancel_le he0 ?_
    rw [Int.mul_add, Int.mul_left_comm e 2, z]
    omega
  · refine cancel_le he0 ?_
    rw [Int.mul_add, Int.mul_left_comm e 2, z]
    omega
theorem sumZ_nn {f : Nat → Int} : ∀ n, (∀ k, k < n → 0 ≤ f k) → 0 ≤ sumZ f n := by
  intro n
  induction n with
  | zero => intro _; exact Int.le_refl _
  | succ n ih => intro h; have := ih (fun k hk => h k (by omega)); have := h n (by omega); simp only [sumZ]; omega
theorem sumZ_const (z : Int) (n : Nat) : sumZ (fun _ => z) n = n * z := by
  induction n with
  | zero => simp [sumZ]
  | succ n ih => simp only [sumZ, ih]; rw [show ((n + 1 : Nat) : Int) = (n : Int) + 1 by omega, Int.add_mul]; omega
theorem left_nn {ax ay bx b2 i y : Int} (h : ay < b2) : 0 ≤ leftV ax ay bx b2 i y := (clp_rng (by omega)).1
/-- A chord that does not meet the pixel, in the pixel's row: all to the left, or all to the right. -/
theorem un_sides {ax ay bx b2 i j : Int} (hu : UnV ax ay bx b2 i j) (htu : topV ay j < botV b2 j) :
    (∀ y, topV ay j ≤ y → y ≤ botV b2 j → 0 ≤ turnV ax ay bx b2 (64 * i) y) ∨ (∀ y, topV ay j ≤ y → y ≤ botV b2 j → turnV ax ay bx b2 (64 * i + 64) y ≤ 0) := by
  have g := gr_ge ay (64 * j)
  have l := ls_le b2 (64 * j + 64)
  unfold topV botV at *
  rcases hu with c | c | c | c | c | c
  · refine .inl (fun y h1 h2 => ?_)
    rw [turn_split]
    have m1 := Int.mul_nonneg (show 0 ≤ b2 - y by omega) (show 0 ≤ 64 * i - ax by omega)
    have m2 := Int.mul_nonneg (show 0 ≤ y - ay by omega) (show 0 ≤ 64 * i - bx by omega)
    omega
  · refine .inr (fun y h1 h2 => ?_)
    rw [turn_split]
    have m1 := Int.mul_nonneg (show 0 ≤ b2 - y by omega) (show 0 ≤ -(64 * i + 64 - ax) by omega)
    have m2 := Int.mul_nonneg (show 0 ≤ y - ay by omega) (show 0 ≤ -(64 * i + 64 - bx) by omega)
    rw [Int.mul_neg] at m1 m2
    omega
  · omega
  · omega
  · exact .inl (fun y h1 h2 => by have := (turn_mid (x := 64 * i) (t := 64 * j) (y := y) (by omega) (by omega)).1 c.1 c.2.2.1; omega)
  · exact .inr (fun y h1 h2 => by have := (turn_mid (x := 64 * i + 64) (t := 64 * j) (y := y) (by omega) (by omega)).2 c.2.1 c.2.2.2; omega)
theorem at_left' {ax ay bx b2 x y : Int} (h : ay < b2) (ht : 0 ≤ turnV ax ay bx b2 x y) : atV ax bx ay b2 y ≤ x := by
  rw [atV_eq (by omega), if_neg (by omega)]
  unfold turnV at ht
  have := hu_le_of (n := (bx - ax) * (y - ay)) (d := b2 - ay) (B := x - ax) (by omega) (by rw [Int.mul_comm (x - ax)]; omega)
  omega
theorem at_right' {ax ay bx b2 x y : Int} (h : ay < b2) (ht : turnV ax ay bx b2 x y ≤ 0) : x ≤ atV ax bx ay b2 y := by
  rw [atV_eq (by omega), if_neg (by omega)]
  unfold turnV at ht
  have := hu_ge_of (n := (bx - ax) * (y - ay)) (d := b2 - ay) (B := x - ax) (by omega) (by rw [Int.mul_comm (x - ax)]; omega)
  omega
/-- Of one that goes down. -/
theorem close_down {ax ay bx b2 : Int} (i j : Int) (h : ay < b2) :
    2 * (lowV ax ay bx b2 i j - offV ax ay bx b2 i j) ≤ downV ax ay bx b2 i j ∧ downV ax ay bx b2 i j ≤ 2 * (highV ax ay bx b2 i j + offV ax ay bx b2 i j) := by
  have g := gr_ge ay (64 * j)
  have l := ls_le b2 (64 * j + 64)
  have hd0 : 0 < b2 - ay := by omega
  have ho : 0 ≤ offV ax ay bx b2 i j := by
    unfold offV
    repeat' split
    all_goals omega
  unfold lowV highV
  rw [if_neg (by omega), if_neg (by omega)]
  have nnL : 0 ≤ sumZ (stripL ax ay bx b2 i (topV ay j)) (botV b2 j - topV ay j).toNat := sumZ_nn _ (fun k _ => by
    unfold stripL; rcases ls_or (leftV ax ay bx b2 i (topV ay j + k)) (leftV ax ay bx b2 i (topV ay j + k + 1)) with c | c <;> rw [c] <;> exact left_nn h)
  have nnH : 0 ≤ sumZ (stripH ax ay bx b2 i (topV ay j)) (botV b2 j - topV ay j).toNat := sumZ_nn _ (fun k _ => by
    unfold stripH; rcases gr_or (leftV ax ay bx b2 i (topV ay j + k)) (leftV ax ay bx b2 i (topV ay j + k + 1)) with c | c <;> rw [c] <;> exact left_nn h)
  by_cases htu : topV ay j < botV b2 j
  · have hdn : downV ax ay bx b2 i j = partV (atV ax bx ay b2 (topV ay j)) (topV ay j) (atV ax bx ay b2 (botV b2 j)) (botV b2 j) i := by
      unfold downV
      rw [if_neg (by unfold topV botV at htu; omega)]; rfl
    have h64 : botV b2 j - topV ay j ≤ 64 := by unfold topV botV; omega
    cases hm : meetsV ax ay bx b2 i j
    · have off0 : offV ax ay bx b2 i j = 0 := by unfold offV; rw [hm, if_neg (by omega)]; rfl
      rw [off0]
      have hen : (((botV b2 j - topV ay j).toNat : Nat) : Int) = botV b2 j - topV ay j := by omega
      rcases un_sides (un_of hm) htu with c | c
      · have v : downV ax ay bx b2 i j = 128 * (botV b2 j - topV ay j) := by
          rw [hdn]
          exact partV_left2 (at_left' h (c _ (Int.le_refl _) (by omega))) (at_left' h (c _ (by omega) (Int.le_refl _))) (by omega)
        have lf : ∀ y, topV ay j ≤ y → y ≤ botV b2 j → leftV ax ay bx b2 i y = 64 * (b2 - ay) := by
          intro y h1 h2
          have := c y h1 h2
          rw [left_turn, turn_x, Int.mul_comm (b2 - ay) 64]
          unfold clp
          repeat' split
          all_goals omega
        have sL : sumZ (stripL ax ay bx b2 i (topV ay j)) (botV b2 j - topV ay j).toNat = (botV b2 j - topV ay j) * (64 * (b2 - ay)) := by
          rw [sumZ_congr (g := fun _ => 64 * (b2 - ay)) _ (fun k hk => by unfold stripL; rw [lf _ (by omega) (by omega), lf _ (by omega) (by omega)]; unfold lsV; split <;> rfl), sumZ_const, hen]
        have sH : sumZ (stripH ax ay bx b2 i (topV ay j)) (botV b2 j - topV ay j).toNat = (botV b2 j - topV ay j) * (64 * (b2 - ay)) := by
          rw [sumZ_congr (g := fun _ => 64 * (b2 - ay)) _ (fun k hk => by unfold stripH; rw [lf _ (by omega) (by omega), lf _ (by omega) (by omega)]; unfold gr; split <;> rfl), sumZ_const, hen]
        rw [sL, sH, v]
        have e1 : (botV b2 j - topV ay j) * (64 * (b2 - ay)) = (b2 - ay) * (64 * (botV b2 j - topV ay j)) := by rw [Int.mul_comm, Int.mul_assoc, Int.mul_left_comm]
        rw [e1]
        have pos : 0 ≤ (b2 - ay) * (64 * (botV b2 j - topV ay j)) := Int.mul_nonneg (by omega) (by omega)
        rw [Int.tdiv_eq_ediv_of_nonneg pos, Int.tdiv_eq_ediv_of_nonneg (by omega), Int.mul_ediv_cancel_left _ (by omega)]
        have e2 : ((b2 - ay) * (64 * (botV b2 j - topV ay j)) + (b2 - ay) - 1) / (b2 - ay) = 64 * (botV b2 j - topV ay j) := by
          rw [show (b2 - ay) * (64 * (botV b2 j - topV ay j)) + (b2 - ay) - 1 = (b2 - ay - 1) + (b2 - ay) * (64 * (botV b2 j - topV ay j)) by omega, Int.add_mul_ediv_left _ _ (by omega), Int.ediv_eq_zero_of_lt (by omega) (by omega)]
          omega
        rw [e2]
        omega
      · have v : downV ax ay bx b2 i j = 0 := by
          rw [hdn]
          exact partV_right (at_right' h (c _ (Int.le_refl _) (by omega))) (at_right' h (c _ (by omega) (Int.le_refl _)))
        have lf : ∀ y, topV ay j ≤ y → y ≤ botV b2 j → leftV ax ay bx b2 i y = 0 := by
          intro y h1 h2
          have := c y h1 h2
          rw [left_turn]
          unfold clp
          repeat' split
          all_goals omega
        have sL : sumZ (stripL ax ay bx b2 i (topV ay j)) (botV b2 j - topV ay j).toNat = 0 := by
          rw [sumZ_congr (g := fun _ => 0) _ (fun k hk => by unfold stripL; rw [lf _ (by omega) (by omega), lf _ (by omega) (by omega)]; rfl), sumZ_const, Int.mul_zero]
        have sH : sumZ (stripH ax ay bx b2 i (topV ay j)) (botV b2 j - topV ay j).toNat = 0 := by
          rw [sumZ_congr (g := fun _ => 0) _ (fun k hk => by unfold stripH; rw [lf _ (by omega) (by omega), lf _ (by omega) (by omega)]; rfl), sumZ_const, Int.mul_zero]
        rw [sL, sH, v, Int.zero_tdiv, Int.tdiv_eq_ediv_of_nonneg (by omega), Int.ediv_eq_zero_of_lt (by omega) (by omega)]
        omega
    · have off1 : offV ax ay bx b2 i j = 64 := by unfold offV; rw [hm, if_neg (by omega)]; rfl
      rw [off1, hdn]
      obtain ⟨D1, D2⟩ := down_strips (ax := ax) (bx := bx) (i := i) h htu h64
      obtain ⟨V, hV⟩ : ∃ V, V = partV (atV ax bx ay b2 (topV ay j)) (topV ay j) (atV ax bx ay b2 (botV b2 j)) (botV b2 j) i := ⟨_, rfl⟩
      obtain ⟨d, hd⟩ : ∃ d, d = b2 - ay := ⟨_, rfl⟩
      obtain ⟨SL, hSL⟩ : ∃ SL, SL = sumZ (stripL ax ay bx b2 i (topV ay j)) (botV b2 j - topV ay j).toNat := ⟨_, rfl⟩
      obtain ⟨SH, hSH⟩ : ∃ SH, SH = sumZ (stripH ax ay bx b2 i (topV ay j)) (botV b2 j - topV ay j).toNat := ⟨_, rfl⟩
      rw [← hV, ← hd] at D1 D2
      rw [← hV, ← hd]
      rw [← hSH] at D1 nnH ⊢
      rw [← hSL] at D2 nnL ⊢
      rw [Int.tdiv_eq_ediv_of_nonneg nnL, Int.tdiv_eq_ediv_of_nonneg (by omega)]
      have a1 := Int.mul_ediv_add_emod SL d
      have a2 := Int.emod_nonneg SL (show d ≠ 0 by omega)
      have b1 := Int.mul_ediv_add_emod (SH + d - 1) d
      have b2' := Int.emod_lt_of_pos (SH + d - 1) (show 0 < d by omega)
      constructor
      · refine cancel_le (w := d) (by omega) ?_
        rw [Int.mul_left_comm, Int.mul_sub]
        omega
      · refine cancel_le (w := d) (by omega) ?_
        rw [Int.mul_left_comm, Int.mul_add]
        omega
  · have v : downV ax ay bx b2 i j = 0 := by
      unfold downV
      rw [if_pos (by unfold topV botV at htu; omega)]
    have z : (botV b2 j - topV ay j).toNat = 0 := by omega
    rw [v, z]
    simp only [sumZ]
    rw [Int.zero_tdiv, Int.tdiv_eq_ediv_of_nonneg (by omega), Int.ediv_eq_zero_of_lt (by omega) (by omega)]
    omega
/-- Of any chord: what it may count at least, and at most. -/
def loC (ax ay bx b2 i j : Int) : Int := lowV ax ay bx b2 i j - highV bx b2 ax ay i j - offV ax ay bx b2 i j - offV bx b2 ax ay i j
def hiC (ax ay bx b2 i j : Int) : Int := highV ax ay bx b2 i j - lowV bx b2 ax ay i j + offV ax ay bx b2 i j + offV bx b2 ax ay i j
theorem close_none {ax ay bx b2 : Int} (i j : Int) (h : b2 ≤ ay) : lowV ax ay bx b2 i j = 0 ∧ highV ax ay bx b2 i j = 0 ∧ offV ax ay bx b2 i j = 0 := by
  unfold lowV highV offV
  rw [if_pos (by omega), if_pos (by omega), if_pos (by omega)]; exact ⟨rfl, rfl, rfl⟩
theorem close_chord (ax ay bx b2 i j : Int) : 2 * loC ax ay bx b2 i j ≤ chordV ax ay bx b2 i j ∧ chordV ax ay bx b2 i j ≤ 2 * hiC ax ay bx b2 i j := by
  unfold loC hiC
  rcases Int.lt_trichotomy ay b2 with c | c | c
  · have n := close_none (ax := bx) (bx := ax) i j (show ay ≤ b2 by omega)
    have d := close_down (ax := ax) (bx := bx) i j c
    unfold chordV
    rw [if_neg (by omega)]
    omega
  · subst c
    have n := close_none (ax := bx) (bx := ax) i j (Int.le_refl ay)
    have m := close_none (ax := ax) (bx := bx) i j (Int.le_refl ay)
    rw [chordV_flat]
    omega
  · have n := close_none (ax := ax) (bx := bx) i j (show b2 ≤ ay by omega)
    have d := close_down (ax := bx) (bx := ax) i j c
    unfold chordV
    rw [if_pos c]
    omega
/-- Of all rings. -/
theorem close_out (L : Nat → List (Int × Int)) (N : Nat) (i j : Int) : 2 * outF (fun ax ay bx b2 => loC ax ay bx b2 i j) L N ≤ areaV L N i j ∧ areaV L N i j ≤ 2 * outF (fun ax ay bx b2 => hiC ax ay bx b2 i j) L N := by
  unfold areaV outF
  rw [← sumZ_mul, ← sumZ_mul]
  constructor
  · refine sumZ_le _ (fun r _ => ?_)
    unfold ringF
    rw [← sumZ_mul]
    exact sumZ_le _ (fun k _ => (close_chord _ _ _ _ i j).1)
  · refine sumZ_le _ (fun r _ => ?_)
    unfold ringF
    rw [← sumZ_mul]
    exact sumZ_le _ (fun k _ => (close_chord _ _ _ _ i j).2)
end Num
end Go.Proofs.Ytkhcjkmifddlbab

/- WhlV -/
namespace Go.Proofs.Ytkhcjkmifddlbab
namespace Num

/-- Twice what lies to the left of the pieces. -/
def trap : Int → Int → List (Int × Int) → Int
  | _, _, [] => 0
  | x, y, t :: r => (t.2 - y) * (x + t.1) + trap t.1 t.2 r
theorem trap_append (l r : List (Int × Int)) : ∀ x y, trap x y (l ++ r) = trap x y l + trap (lastS x y l).1 (lastS x y l).2 r := by
  induction l with
  | nil => intro x y; simp [trap, lastS]
  | cons t l ih => intro x y; simp only [List.cons_append, trap, lastS, ih]; omega
def trU (f : Int → Int) : Int → List Int → Int
  | _, [] => 0
  | u, v :: r => (v - u) * (f u + f v) + trU f v r
theorem trap_rows (f : Int → Int) : ∀ (l : List Int) (u : Int), trap (f u) u (l.map fun v => (f v, v)) = trU f u l := by
  intro l
  induction l with
  | nil => intro u; rfl
  | cons v r ih => intro u; simp only [List.map_cons, trap, trU, ih]
theorem trap_cols (f : Int → Int) : ∀ (l : List Int) (u : Int), trap u (f u) (l.map fun v => (v, f v)) = 2 * (lastI u l * f (lastI u l) - u * f u) - trU f u l := by
  intro l
  induction l with
  | nil => intro u; simp only [List.map_nil, trap, trU, lastI]; omega
  | cons v r ih =>
    intro u
    simp only [List.map_cons, trap, trU, lastI, ih]
    have e1 : (f v - f u) * (u + v) = f v * u + f v * v - f u * u - f u * v := by rw [Int.sub_mul, Int.mul_add, Int.mul_add]; omega
    have e2 : (v - u) * (f u + f v) = v * f u + v * f v - u * f u - u * f v := by rw [Int.sub_mul, Int.mul_add, Int.mul_add]; omega
    have c1 := Int.mul_comm (f v) u
    have c2 := Int.mul_comm (f v) v
    have c3 := Int.mul_comm (f u) u
    have c4 := Int.mul_comm (f u) v
    omega
theorem tr_step (D a c p u v fu fv : Int) : D * ((v - u) * (fu + fv)) = (v - u) * ((D * (fu - a) - c * (u - p)) + (D * (fv - a) - c * (v - p))) + 2 * (a * D) * (v - u) + c * ((v - p) * (v - p) - (u - p) * (u - p)) := by
  have e : (v - p) * (v - p) - (u - p) * (u - p) = (v - u) * ((u - p) + (v - p)) := by
    have := Int.mul_comm u v
    have := Int.mul_comm p u
    have := Int.mul_comm p v
    simp only [Int.mul_sub, Int.sub_mul, Int.mul_add]
    omega
  rw [e]
  have x1 : D * ((v - u) * (fu + fv)) = (v - u) * (D * fu) + (v - u) * (D * fv) := by
    rw [Int.mul_left_comm, Int.mul_add, Int.mul_add]
  have x2 : c * ((v - u) * ((u - p) + (v - p))) = (v - u) * (c * (u - p)) + (v - u) * (c * (v - p)) := by
    rw [Int.mul_left_comm, Int.mul_add, Int.mul_add]
  have x3 : 2 * (a * D) * (v - u) = (v - u) * (D * a) + (v - u) * (D * a) := by
    rw [Int.mul_assoc, Int.mul_comm a D, Int.mul_comm (D * a)]; omega
  rw [x1, x2, x3]
  simp only [Int.mul_add, Int.mul_sub (v - u), Int.mul_sub D]
  omega
theorem tr_err (f : Int → Int) (D a c p : Int) : ∀ (l : List Int) (u : Int), D * trU f u l = trU (fun v => D * (f v - a) - c * (v - p)) u l + 2 * (a * D) * (lastI u l - u) + c * ((lastI u l - p) * (lastI u l - p) - (u - p) * (u - p)) := by
  intro l
  induction l with
  | nil => intro u; simp only [trU, lastI, Int.sub_self, Int.mul_zero]; omega
  | cons v r ih =>
    intro u
    simp only [trU, lastI]
    rw [Int.mul_add, ih v, tr_step D a c p u v (f u) (f v)]
    simp only [Int.mul_sub]
    omega
theorem tr_bdU {E : Int → Int} {D : Int} : ∀ (l : List Int) (u : Int), StepsU u l → (∀ v ∈ u :: l, -D ≤ 2 * E v ∧ 2 * E v ≤ D) → -((lastI u l - u) * D) ≤ trU E u l ∧ trU E u l ≤ (lastI u l - u) * D := by
  intro l
  induction l with
  | nil => intro u _ _; simp [trU, lastI]
  | cons v r ih =>
    intro u h hE
    have h1 := ih v h.2.2.2 (fun w hw => hE w (List.mem_cons_of_mem _ hw))
    have h2 := hE u (by simp)
    have h3 := hE v (by simp)
    have h4 := h.1
    have m := mul_ge (a := E u + E v) (t := v - u) (B := D) (by omega) (by omega)
    rw [Int.mul_comm (E u + E v), Int.mul_comm D] at m
    simp only [trU, lastI]
    have e : (lastI v r - u) * D = (lastI v r - v) * D + (v - u) * D := by rw [← Int.add_mul]; congr 1; omega
    omega
theorem tr_bdD {E : Int → Int} {D : Int} : ∀ (l : List Int) (u : Int), StepsD u l → (∀ v ∈ u :: l, -D ≤ 2 * E v ∧ 2 * E v ≤ D) → -((u - lastI u l) * D) ≤ trU E u l ∧ trU E u l ≤ (u - lastI u l) * D := by
  intro l
  induction l with
  | nil => intro u _ _; simp [trU, lastI]
  | cons v r ih =>
    intro u h hE
    have h1 := ih v h.2.2.2 (fun w hw => hE w (List.mem_cons_of_mem _ hw))
    have h2 := hE u (by simp)
    have h3 := hE v (by simp)
    have h4 := h.1
    have m := mul_ge (a := E u + E v) (t := u - v) (B := D) (by omega) (by omega)
    rw [Int.mul_comm (E u + E v), Int.mul_comm D] at m
    simp only [trU, lastI]
    have e : (u - lastI v r) * D = (v - lastI v r) * D + (u - v) * D := by rw [← Int.add_mul]; congr 1; omega
    have e2 : (v - u) * (E u + E v) = -((u - v) * (E u + E v)) := by rw [← Int.neg_mul]; congr 1; omega
    omega
theorem tr_zero {E : Int → Int} : ∀ (l : List Int) (u : Int), (∀ v ∈ u :: l, E v = 0) → trU E u l = 0 := by
  intro l
  induction l with
  | nil => intro u _; rfl
  | cons v r ih =>
    intro u hE
    simp only [trU]
    rw [ih v (fun w hw => hE w (List.mem_cons_of_mem _ hw)), hE u (by simp), hE v (by simp)]; simp
/-- A line's rounded heights add up to the line's own, but for its length at most. -/
theorem tr_near {a b p q : Int} {l : List Int} (hp : -16384 ≤ p ∧ p ≤ 16384) (hq : -16384 ≤ q ∧ q ≤ 16384) (hne : p ≠ q) (hl : l = linesV p q ++ [q]) :
    sz (trU (atV a b p q) p l - (q - p) * (a + b)) ≤ sz (q - p) ∧ ((a = b ∨ sz (b - a) = sz (q - p)) → trU (atV a b p q) p l = (q - p) * (a + b)) := by
  obtain ⟨D, hD⟩ : ∃ D, D = sz (q - p) := ⟨_, rfl⟩
  obtain ⟨s, hs⟩ : ∃ s : Int, (s = 1 ∧ p < q) ∨ (s = -1 ∧ q < p) := by
    rcases Int.lt_or_le p q with c | c
    · exact ⟨1, .inl ⟨rfl, c⟩⟩
    · exact ⟨-1, .inr ⟨rfl, by omega⟩⟩
  have hD0 : 0 < D ∧ q - p = s * D := by
    rw [hD]; unfold sz
    rcases hs with ⟨rfl, c⟩ | ⟨rfl, c⟩ <;> split <;> omega
  have hE : ∀ v, -D ≤ 2 * (D * (atV a b p q v - a) - s * (b - a) * (v - p)) ∧ 2 * (D * (atV a b p q v - a) - s * (b - a) * (v - p)) ≤ D := by
    intro v
    rcases hs with ⟨rfl, c⟩ | ⟨rfl, c⟩
    · have h := atV_half (a := a) (b := b) (n := v) c
      rw [Int.one_mul]
      rw [show q - p = D by omega] at h
      exact h
    · have h := atV_half (a := b) (b := a) (n := v) c
      rw [atV_symm hne]
      rw [show p - q = D by omega] at h
      have e1 : D * (atV b a q p v - b) = D * (atV b a q p v - a) + D * (a - b) := by rw [← Int.mul_add]; congr 1; omega
      have e2 : (a - b) * (v - q) = -1 * (b - a) * (v - p) + D * (a - b) := by
        rw [show v - q = (v - p) + D by omega, Int.mul_add, Int.mul_comm (a - b) D, show -1 * (b - a) = a - b by omega]
      omega
  have hz : (a = b ∨ sz (b - a) = sz (q - p)) → ∀ v, D * (atV a b p q v - a) - s * (b - a) * (v - p) = 0 := by
    intro hc v
    have key : ∃ k : Int, s * (b - a) = D * k := by
      rcases hc with hc | hc
      · exact ⟨0, by rw [hc, Int.sub_self]; simp⟩
      · rw [← hD] at hc
        have : b - a = D ∨ b - a = -D := by unfold sz at hc; split at hc <;> omega
        rcases this with h | h
        · exact ⟨s, by rw [h, Int.mul_comm]⟩
        · exact ⟨-s, by rw [h, Int.mul_comm, Int.neg_mul, Int.mul_neg]⟩
    obtain ⟨k, hk⟩ := key
    have h := hE v
    rw [hk, Int.mul_assoc, ← Int.mul_sub] at h ⊢
    have : atV a b p q v - a - k * (v - p) = 0 := by
      obtain ⟨z, hz⟩ : ∃ z, z = atV a b p q v - a - k * (v - p) := ⟨_, rfl⟩
      rw [← hz] at h ⊢
      rcases Int.lt_trichotomy z 0 with c | c | c
      · have := Int.mul_le_mul_of_nonneg_left (show 1 ≤ -z by omega) (show 0 ≤ D by omega)
        rw [Int.mul_neg] at this; omega
      · exact c
      · have := Int.mul_le_mul_of_nonneg_left (show 1 ≤ z by omega) (show 0 ≤ D by omega)
        omega
    rw [this, Int.mul_zero]
  have T := tr_err (atV a b p q) D a (s * (b - a)) p l p
  have hlast : lastI p l = q := by rw [hl, lastI_snoc]
  rw [hlast] at T
  simp only [Int.sub_self, Int.mul_zero, Int.sub_zero] at T
  have hT : 2 * (a * D) * (q - p) + s * (b - a) * ((q - p) * (q - p)) = D * ((q - p) * (a + b)) := by
    rw [hD0.2]
    rcases hs with ⟨rfl, c⟩ | ⟨rfl, c⟩
    · simp only [Int.one_mul]
      have e1 : 2 * (a * D) * D = D * (D * a) + D * (D * a) := by rw [Int.mul_assoc, Int.mul_comm (a * D) D, Int.mul_comm a D]; omega
      have e2 : (b - a) * (D * D) = D * (D * b) - D * (D * a) := by rw [Int.mul_comm, Int.mul_assoc, Int.mul_sub, Int.mul_sub]
      rw [e1, e2, Int.mul_add, Int.mul_add]; omega
    · simp only [Int.neg_mul, Int.one_mul, Int.mul_neg, Int.neg_neg]
      have e1 : 2 * (a * D) * D = D * (D * a) + D * (D * a) := by rw [Int.mul_assoc, Int.mul_comm (a * D) D, Int.mul_comm a D]; omega
      have e2 : (b - a) * (D * D) = D * (D * b) - D * (D * a) := by rw [Int.mul_comm, Int.mul_assoc, Int.mul_sub, Int.mul_sub]
      rw [e1, e2, Int.mul_add, Int.mul_add]; omega
  constructor
  · have bd : -(D * D) ≤ trU (fun v => D * (atV a b p q v - a) - s * (b - a) * (v - p)) p l ∧ trU (fun v => D * (atV a b p q v - a) - s * (b - a) * (v - p)) p l ≤ D * D := by
      rcases hs with ⟨rfl, c⟩ | ⟨rfl, c⟩
      · have h := tr_bdU (E := fun v => D * (atV a b p q v - a) - 1 * (b - a) * (v - p)) (D := D) l p (steps_up c hp.1 hq.2 hl) (fun v _ => hE v)
        rw [hlast, show q - p = D by omega] at h
        exact h
      · have h := tr_bdD (E := fun v => D * (atV a b p q v - a) - -1 * (b - a) * (v - p)) (D := D) l p (steps_dn c hp.2 hq.1 hl) (fun v _ => hE v)
        rw [hlast, show p - q = D by omega] at h
        exact h
    rw [← hD]
    have h1 : trU (atV a b p q) p l - (q - p) * (a + b) ≤ D := by
      refine cancel_le hD0.1 ?_
      rw [Int.mul_sub]; omega
    have h2 : -D ≤ trU (atV a b p q) p l - (q - p) * (a + b) := by
      refine cancel_le hD0.1 ?_
      rw [Int.mul_sub, Int.mul_neg]; omega
    exact (sz_bd h2 h1).2
  · intro hc
    have z := tr_zero (E := fun v => D * (atV a b p q v - a) - s * (b - a) * (v - p)) l p (fun v _ => hz hc v)
    rw [z] at T
    have h1 : trU (atV a b p q) p l ≤ (q - p) * (a + b) := cancel_le hD0.1 (by omega)
    have h2 : (q - p) * (a + b) ≤ trU (atV a b p q) p l := cancel_le hD0.1 (by omega)
    omega
end Num
end Go.Proofs.Ytkhcjkmifddlbab

/- WhlW -/
namespace Go.Proofs.Ytkhcjkmifddlbab
namespace Num

theorem col_near {px py qx qy : Int} (hp : -16384 ≤ px ∧ px ≤ 16384) (hq : -16384 ≤ qx ∧ qx ≤ 16384) {L : List (Int × Int)} (hL : L = colsV px py qx qy ++ [(qx, qy)]) :
    sz (trap px py L - (qy - py) * (px + qx)) ≤ sz (qx - px) ∧ ((px = qx ∨ py = qy ∨ sz (qy - py) = sz (qx - px)) → trap px py L = (qy - py) * (px + qx)) := by
  by_cases e : px = qx
  · subst e
    have e : colsV px py px qy = [] := by unfold colsV linesV; rw [upR_none _ (Int.le_refl _), dnR_none _ (Int.le_refl _)]; rfl
    rw [e, List.nil_append] at hL
    subst hL
    simp only [trap, Int.add_zero, Int.sub_self]
    exact ⟨Int.le_refl _, fun _ => trivial⟩
  · have glue : colsV px py qx qy ++ [(qx, qy)] = (linesV px qx ++ [qx]).map fun v => (v, atV py qy px qx v) := by
      rw [List.map_append, List.map_cons, List.map_nil, atV_end e]; rfl
    rw [glue] at hL
    generalize hl : linesV px qx ++ [qx] = l at hL
    obtain ⟨T1, T2⟩ := tr_near (a := py) (b := qy) hp hq e hl.symm
    have C := trap_cols (atV py qy px qx) l px
    have hlast : lastI px l = qx := by rw [← hl, lastI_snoc]
    rw [hlast, atV_begin e, atV_end e] at C
    rw [← hL] at C
    have id : 2 * (qx * qy - px * py) - (qx - px) * (py + qy) = (qy - py) * (px + qx) := by
      have c1 := Int.mul_comm qy px
      have c2 := Int.mul_comm qy qx
      have c3 := Int.mul_comm py px
      have c4 := Int.mul_comm py qx
      simp only [Int.sub_mul, Int.mul_add]
      omega
    refine ⟨?_, fun hc => ?_⟩
    · have : trap px py L - (qy - py) * (px + qx) = -(trU (atV py qy px qx) px l - (qx - px) * (py + qy)) := by omega
      rw [this]
      have : ∀ z : Int, sz (-z) = sz z := by
        intro z; unfold sz; repeat' split
        all_goals omega
      rw [this]; exact T1
    · have := T2 (by rcases hc with hc | hc | hc; exact absurd hc e; exact .inl hc; exact .inr hc)
      omega
/-- Always the same way. -/
def MonS (s : Int) (X : Int → Int) : Int → List Int → Prop
  | _, [] => True
  | u, v :: r => 0 ≤ s * (X v - X u) ∧ MonS s X v r
theorem row_near (X : Int → Int) (s : Int) (hs : s = 1 ∨ s = -1) : ∀ (l : List Int) (y : Int), MonS s X y l → (∀ v ∈ y :: l, -16384 ≤ X v ∧ X v ≤ 16384) → ∀ L, L = cutF (X y) y (l.map fun v => (X v, v)) → sz (trap (X y) y L - trU X y l) ≤ s * (X (lastI y l) - X y) := by
  intro l
  induction l with
  | nil => intro y _ _ L hL; subst hL; simp [cutF, trap, trU, lastI, sz]
  | cons v r ih =>
    intro y h hx L hL
    rw [List.map_cons, show cutF (X y) y ((X v, v) :: r.map fun v => (X v, v)) = colsV (X y) y (X v) v ++ (X v, v) :: cutF (X v) v (r.map fun v => (X v, v)) from rfl] at hL
    rw [show colsV (X y) y (X v) v ++ (X v, v) :: cutF (X v) v (r.map fun v => (X v, v)) = (colsV (X y) y (X v) v ++ [(X v, v)]) ++ cutF (X v) v (r.map fun v => (X v, v)) by simp] at hL
    generalize hc : colsV (X y) y (X v) v ++ [(X v, v)] = c at hL
    generalize hd : cutF (X v) v (r.map fun v => (X v, v)) = d at hL
    subst hL
    have h1 := (col_near (hx y (by simp)) (hx v (by simp)) hc.symm).1
    have h2 := ih v h.2 (fun u hu => hx u (List.mem_cons_of_mem _ hu)) d hd.symm
    rw [trap_append]
    have e : lastS (X y) y c = (X v, v) := by rw [← hc, lastS_snoc]
    rw [e]
    simp only [trU, lastI]
    have h3 := h.1
    have h4 : sz (X v - X y) = s * (X v - X y) := by
      rcases hs with rfl | rfl <;> unfold sz <;> split <;> omega
    have h5 := sz_add (trap (X y) y c - (v - y) * (X y + X v)) (trap (X v) v d - trU X v r)
    have h6 : trap (X y) y c - (v - y) * (X y + X v) + (trap (X v) v d - trU X v r) = trap (X y) y c + trap (X v) v d - ((v - y) * (X y + X v) + trU X v r) := by omega
    rw [h6] at h5
    have h7 : s * (X (lastI v r) - X y) = s * (X (lastI v r) - X v) + s * (X v - X y) := by rw [← Int.mul_add, show X (lastI v r) - X v + (X v - X y) = X (lastI v r) - X y by omega]
    omega
theorem row_exact (X : Int → Int) : ∀ (l : List Int) (y : Int), (∀ u v, X u = X v ∨ sz (v - u) = sz (X v - X u)) → (∀ v ∈ y :: l, -16384 ≤ X v ∧ X v ≤ 16384) → ∀ L, L = cutF (X y) y (l.map fun v => (X v, v)) → trap (X y) y L = trU X y l := by
  intro l
  induction l with
  | nil => intro y _ _ L hL; subst hL; rfl
  | cons v r ih =>
    intro y h hx L hL
    rw [List.map_cons, show cutF (X y) y ((X v, v) :: r.map fun v => (X v, v)) = colsV (X y) y (X v) v ++ (X v, v) :: cutF (X v) v (r.map fun v => (X v, v)) from rfl] at hL
    rw [show colsV (X y) y (X v) v ++ (X v, v) :: cutF (X v) v (r.map fun v => (X v, v)) = (colsV (X y) y (X v) v ++ [(X v, v)]) ++ cutF (X v) v (r.map fun v => (X v, v)) by simp] at hL
    generalize hc : colsV (X y) y (X v) v ++ [(X v, v)] = c at hL
    generalize hd : cutF (X v) v (r.map fun v => (X v, v)) = d at hL
    subst hL
    have h0 : X y = X v ∨ y = v ∨ sz (v - y) = sz (X v - X y) := by
      rcases h y v with h0 | h0
      · exact Or.inl h0
      · exact Or.inr (Or.inr h0)
    have h9 := col_near (hx y (by simp)) (hx v (by simp)) hc.symm
    have h1 := h9.2 h0
    have h2 := ih v h (fun u hu => hx u (List.mem_cons_of_mem _ hu)) d hd.symm
    rw [trap_append]
    have e : lastS (X y) y c = (X v, v) := by rw [← hc, lastS_snoc]
    rw [e]
    simp only [trU]
    rw [h1, h2]
theorem diag {a b p q : Int} (hne : p ≠ q) (h : sz (b - a) = sz (q - p)) : ∃ k : Int, (k = 1 ∨ k = -1) ∧ ∀ v, atV a b p q v = a + k * (v - p) := by
  have up : ∀ {a b p q k : Int}, p < q → b - a = k * (q - p) → ∀ v, atV a b p q v = a + k * (v - p) := by
    intro a b p q k hlt hk v
    rw [atV_eq (by omega), if_neg (by omega), hk]
    have := hu_add (k * (v - p)) 0 (q - p) (by omega)
    rw [Int.add_zero] at this
    rw [show k * (q - p) * (v - p) = k * (v - p) * (q - p) by rw [Int.mul_assoc, Int.mul_comm (q - p), Int.mul_assoc], this]
    have h0 : hu 0 (q - p) = 0 := hu_of 0 _ 0 (by omega) (by omega) (by omega)
    omega
  have hk : b - a = q - p ∨ b - a = -(q - p) := by unfold sz at h; split at h <;> split at h <;> omega
  rcases Int.lt_or_le p q with c | c
  · rcases hk with hk | hk
    · exact ⟨1, .inl rfl, up c (by omega)⟩
    · exact ⟨-1, .inr rfl, up c (by omega)⟩
  · rcases hk with hk | hk
    · refine ⟨1, .inl rfl, fun v => ?_⟩
      rw [atV_symm hne, up (k := 1) (show q < p by omega) (by omega)]; omega
    · refine ⟨-1, .inr rfl, fun v => ?_⟩
      rw [atV_symm hne, up (k := -1) (show q < p by omega) (by omega)]; omega
def offW (ax ay bx b2 : Int) : Int := if sz (bx - ax) ≠ 0 ∧ sz (b2 - ay) ≠ 0 ∧ sz (bx - ax) ≠ sz (b2 - ay) then sz (bx - ax) + sz (b2 - ay) else 0
theorem monU {X : Int → Int} {s : Int} (hX : ∀ n m, n ≤ m → 0 ≤ s * (X m - X n)) : ∀ (l : List Int) (u : Int), StepsU u l → MonS s X u l := by
  intro l
  induction l with
  | nil => intro u _; trivial
  | cons v r ih => intro u h; exact ⟨hX u v (by have := h.1; omega), ih v h.2.2.2⟩
theorem monD {X : Int → Int} {s : Int} (hX : ∀ n m, n ≤ m → 0 ≤ s * (X n - X m)) : ∀ (l : List Int) (u : Int), StepsD u l → MonS s X u l := by
  intro l
  induction l with
  | nil => intro u _; trivial
  | cons v r ih => intro u h; exact ⟨hX v u (by have := h.1; omega), ih v h.2.2.2⟩
/-- A cut chord against the chord. -/
theorem chord_whole {ax ay bx b2 : Int} (ha : inB ax ay = true) (hb : inB bx b2 = true) {L : List (Int × Int)} (hL : L = cutF ax ay (rowsV ax ay bx b2 ++ [(bx, b2)])) : sz (trap ax ay L - (b2 - ay) * (ax + bx)) ≤ offW ax ay bx b2 := by
  have a := inB_yes ha
  have b := inB_yes hb
  have s0 : sz 0 = 0 := rfl
  by_cases hne : ay = b2
  · subst hne
    have e : rowsV ax ay bx ay = [] := by unfold rowsV linesV; rw [upR_none _ (Int.le_refl _), dnR_none _ (Int.le_refl _)]; rfl
    rw [e, List.nil_append, show cutF ax ay [(bx, ay)] = colsV ax ay bx ay ++ [(bx, ay)] from rfl] at hL
    have h := (col_near a.1 b.1 hL).2 (.inr (.inl rfl))
    rw [h, Int.sub_self, s0]
    unfold offW
    split
    · rename_i c; rw [Int.sub_self, s0] at c; omega
    · omega
  · have rng : ∀ l, l = linesV ay b2 ++ [b2] → ∀ v ∈ ay :: l, -16384 ≤ atV ax bx ay b2 v ∧ atV ax bx ay b2 v ≤ 16384 := by
      intro l hl v hv
      rw [List.mem_cons, hl, List.mem_append, List.mem_singleton] at hv
      apply atV_rng _ (by omega) (by omega)
      rcases hv with hv | hv | hv
      · omega
      · have := linesV_mem hv; omega
      · omega
    have glue : rowsV ax ay bx b2 ++ [(bx, b2)] = (linesV ay b2 ++ [b2]).map fun v => (atV ax bx ay b2 v, v) := by
      rw [List.map_append, List.map_cons, List.map_nil, atV_end hne]; rfl
    rw [glue] at hL
    generalize hl : linesV ay b2 ++ [b2] = l at hL
    obtain ⟨T1, T2⟩ := tr_near (a := ax) (b := bx) a.2 b.2 hne hl.symm
    have hlast : lastI ay l = b2 := by rw [← hl, lastI_snoc]
    have b0 := atV_begin (a := ax) (b := bx) hne
    have hLs : L = cutF (atV ax bx ay b2 ay) ay (l.map fun v => (atV ax bx ay b2 v, v)) := by rw [b0]; exact hL
    unfold offW
    by_cases c : sz (bx - ax) ≠ 0 ∧ sz (b2 - ay) ≠ 0 ∧ sz (bx - ax) ≠ sz (b2 - ay)
    · rw [if_pos c]
      have hm : ∃ s : Int, (s = 1 ∨ s = -1) ∧ MonS s (atV ax bx ay b2) ay l ∧ s * (bx - ax) = sz (bx - ax) := by
        rcases Int.lt_or_le ay b2 with d | d
        · have st := steps_up d a.2.1 b.2.2 hl.symm
          rcases Int.le_total ax bx with f | f
          · exact ⟨1, .inl rfl, monU (fun n m h => by have := atV_mono (a := ax) (b := bx) d f h; omega) l ay st, by rw [sz_pos (by omega)]; omega⟩
          · exact ⟨-1, .inr rfl, monU (fun n m h => by have := atV_anti (a := ax) (b := bx) d f h; omega) l ay st, by rw [sz_neg (by omega)]; omega⟩
        · have d : b2 < ay := by omega
          have st := steps_dn d a.2.2 b.2.1 hl.symm
          have sy : atV ax bx ay b2 = atV bx ax b2 ay := by funext n; exact atV_symm hne
          rw [sy]
          rcases Int.le_total ax bx with f | f
          · exact ⟨1, .inl rfl, monD (fun n m h => by have := atV_anti (a := bx) (b := ax) d f h; omega) l ay st, by rw [sz_pos (by omega)]; omega⟩
          · exact ⟨-1, .inr rfl, monD (fun n m h => by have := atV_mono (a := bx) (b := ax) d f h; omega) l ay st, by rw [sz_neg (by omega)]; omega⟩
      obtain ⟨s, hs, hmon, hsz⟩ := hm
      have R := row_near (atV ax bx ay b2) s hs l ay hmon (rng l hl.symm) L hLs
      rw [hlast, b0, atV_end hne, hsz] at R
      have h5 := sz_add (trap ax ay L - trU (atV ax bx ay b2) ay l) (trU (atV ax bx ay b2) ay l - (b2 - ay) * (ax + bx))
      rw [show trap ax ay L - trU (atV ax bx ay b2) ay l + (trU (atV ax bx ay b2) ay l - (b2 - ay) * (ax + bx)) = trap ax ay L - (b2 - ay) * (ax + bx) by omega] at h5
      omega
    · rw [if_neg c]
      have c2 : ax = bx ∨ sz (bx - ax) = sz (b2 - ay) := by
        have y0 : sz (b2 - ay) ≠ 0 := by unfold sz; split <;> omega
        by_cases x0 : ax = bx
        · exact .inl x0
        · have x1 : sz (bx - ax) ≠ 0 := by unfold sz; split <;> omega
          right
          by_cases z : sz (bx - ax) = sz (b2 - ay)
          · exact z
          · exact absurd ⟨x1, y0, z⟩ c
      have hX : ∀ u v, atV ax bx ay b2 u = atV ax bx ay b2 v ∨ sz (v - u) = sz (atV ax bx ay b2 v - atV ax bx ay b2 u) := by
        intro u v
        rcases c2 with c2 | c2
        · left; rw [c2, atV_same hne, atV_same hne]
        · right
          obtain ⟨k, hk, hv⟩ := diag hne c2
          rw [hv, hv]
          rcases hk with rfl | rfl <;> unfold sz <;> split <;> split <;> omega
      have R := row_exact (atV ax bx ay b2) l ay hX (rng l hl.symm) L hLs
      rw [b0] at R
      rw [R, T2 c2, Int.sub_self, s0]
      exact Int.le_refl _
end Num
end Go.Proofs.Ytkhcjkmifddlbab

/- WhlX -/
namespace Go.Proofs.Ytkhcjkmifddlbab
namespace Num

theorem sumZ_split (f : Nat → Int) (m : Nat) : ∀ n, sumZ f (m + n) = sumZ f m + sumZ (fun k => f (m + k)) n := by
  intro n
  induction n with
  | zero => simp [sumZ]
  | succ n ih => rw [← Nat.add_assoc]; simp only [sumZ, ih]; omega
theorem sumZ_grid (f : Nat → Nat → Int) (W : Nat) : ∀ H, sumZ (fun k => f (k % W) (k / W)) (W * H) = sumZ (fun j => sumZ (fun i => f i j) W) H := by
  intro H
  induction H with
  | zero => simp [sumZ]
  | succ H ih =>
    rw [Nat.mul_succ, sumZ_split, ih]
    simp only [sumZ]
    congr 1
    apply sumZ_congr
    intro k hk
    rw [Nat.mul_add_mod, Nat.mod_eq_of_lt hk, Nat.mul_add_div (by omega), Nat.div_eq_of_lt hk, Nat.add_zero]
/-- All pixels of a window. -/
def winS (W H : Nat) (A : Nat → Nat → Int) : Int := sumZ (fun k => A (k % W) (k / W)) (W * H)
theorem winS_add (W H : Nat) (A B : Nat → Nat → Int) : winS W H (fun i j => A i j + B i j) = winS W H A + winS W H B := by
  unfold winS; rw [← sumZ_add]
theorem winS_congr {W H : Nat} {A B : Nat → Nat → Int} (h : ∀ i j, A i j = B i j) : winS W H A = winS W H B := by
  unfold winS; exact sumZ_congr _ (fun k _ => h _ _)
theorem winS_zero (W H : Nat) : winS W H (fun _ _ => 0) = 0 := by
  unfold winS; rw [sumZ_const, Int.mul_zero]
theorem sumZ_zero (n : Nat) : sumZ (fun _ => 0) n = 0 := by rw [sumZ_const, Int.mul_zero]
theorem winS_sum (W H : Nat) (A : Nat → Nat → Nat → Int) : ∀ n, winS W H (fun i j => sumZ (fun k => A k i j) n) = sumZ (fun k => winS W H (A k)) n := by
  intro n
  induction n with
  | zero => exact winS_zero W H
  | succ n ih => simp only [sumZ]; rw [winS_add, ih]
theorem sum_cl {x : Int} (hx : 0 ≤ x) : ∀ n : Nat, sumZ (fun i => cl (64 * (i : Int) + 64 - x)) n = if 64 * (n : Int) - x < 0 then 0 else 64 * (n : Int) - x := by
  intro n
  induction n with
  | zero => simp only [sumZ]; split <;> omega
  | succ n ih =>
    simp only [sumZ, ih]
    unfold cl
    repeat' split
    all_goals omega
theorem sumZ_single {z : Int} {r : Nat} : ∀ n : Nat, r < n → sumZ (fun j => if j = r then z else 0) n = z := by
  have none : ∀ n : Nat, n ≤ r → sumZ (fun j => if j = r then z else 0) n = 0 := by
    intro n
    induction n with
    | zero => intro _; rfl
    | succ n ih => intro h; simp only [sumZ]; rw [ih (by omega), if_neg (by omega)]; rfl
  intro n
  induction n with
  | zero => intro h; omega
  | succ n ih =>
    intro h
    simp only [sumZ]
    by_cases e : n = r
    · rw [none n (by omega), if_pos e]; omega
    · rw [ih (by omega), if_neg e]; omega
theorem sumZ_mulr (f : Nat → Int) (t : Int) (n : Nat) : sumZ (fun k => t * f k) n = t * sumZ f n := sumZ_mul t f n
theorem piece_whole {W H : Nat} {x0 y0 x1 y1 : Int} (hy : noL y0 y1) (h0 : 0 ≤ x0 ∧ x0 ≤ 64 * W) (h1 : 0 ≤ x1 ∧ x1 ≤ 64 * W) (h2 : 0 ≤ y0 ∧ y0 ≤ 64 * H) (h3 : 0 ≤ y1 ∧ y1 ≤ 64 * H) :
    winS W H (fun i j => if inRow j y0 y1 = true then pieceA i x0 y0 x1 y1 else 0) = (y1 - y0) * (128 * W - x0 - x1) := by
  by_cases e : y0 = y1
  · subst e
    rw [winS_congr (B := fun _ _ => 0) (fun i j => by unfold pieceA; rw [Int.sub_self, Int.zero_mul]; split <;> rfl), winS_zero, Int.sub_self, Int.zero_mul]
  · obtain ⟨r, r1, r2⟩ := noL_row hy
    obtain ⟨rn, hrn⟩ : ∃ rn : Nat, r = rn := ⟨r.toNat, by omega⟩
    have key : ∀ j : Nat, inRow j y0 y1 = true ↔ j = rn := by
      intro j
      unfold inRow
      simp
      omega
    unfold winS
    rw [sumZ_grid (fun i j => if inRow j y0 y1 = true then pieceA i x0 y0 x1 y1 else 0) W H]
    rw [sumZ_congr (g := fun j => if j = rn then sumZ (fun i => pieceA i x0 y0 x1 y1) W else 0) H (fun j _ => by
      by_cases c : j = rn
      · rw [if_pos c]; exact sumZ_congr _ (fun i _ => by rw [if_pos ((key j).2 c)])
      · rw [if_neg c]
        exact (sumZ_congr (g := fun _ => 0) _ (fun i _ => by rw [if_neg (fun d => c ((key j).1 d))])).trans (sumZ_zero W))]
    rw [sumZ_single H (by omega)]
    unfold pieceA
    rw [sumZ_mul, sumZ_add, sum_cl h0.1, sum_cl h1.1, if_neg (by omega), if_neg (by omega)]
    congr 1
    omega
/-- In the window. -/
def BoxP (W H : Nat) (t : Int × Int) : Prop := (0 ≤ t.1 ∧ t.1 ≤ 64 * W) ∧ 0 ≤ t.2 ∧ t.2 ≤ 64 * H
theorem list_whole {W H : Nat} : ∀ (l : List (Int × Int)) (x y : Int), PcOk x y l → BoxP W H (x, y) → (∀ t ∈ l, BoxP W H t) → winS W H (fun i j => sumP i j x y l) = 128 * W * ((lastS x y l).2 - y) - trap x y l := by
  intro l
  induction l with
  | nil => intro x y _ _ _; simp only [sumP, lastS, trap, Int.sub_self, Int.mul_zero]; exact winS_zero W H
  | cons t r ih =>
    intro x y h hb hl
    have ht := hl t (by simp)
    have I := ih t.1 t.2 h.2.2 ht (fun u hu => hl u (List.mem_cons_of_mem _ hu))
    simp only [sumP, lastS, trap]
    have Q := piece_whole (x0 := x) (y0 := y) h.2.1 hb.1 ht.1 hb.2 ht.2
    rw [winS_add W H (fun i j => if inRow j y t.2 = true then pieceA i x y t.1 t.2 else 0) (fun i j => sumP i j t.1 t.2 r), I, Q]
    have e1 : (t.2 - y) * (128 * (W : Int) - x - t.1) = 128 * (W : Int) * (t.2 - y) - (t.2 - y) * (x + t.1) := by
      rw [Int.mul_comm (128 * (W : Int)), ← Int.mul_sub]; congr 1; omega
    have e2 : 128 * (W : Int) * ((lastS t.1 t.2 r).2 - y) = 128 * (W : Int) * ((lastS t.1 t.2 r).2 - t.2) + 128 * (W : Int) * (t.2 - y) := by
      rw [← Int.mul_add]; congr 1; omega
    omega
theorem cols_box {W H : Nat} {ax ay bx b2 : Int} (ha : BoxP W H (ax, ay)) (hb : BoxP W H (bx, b2)) : ∀ t ∈ colsV ax ay bx b2, BoxP W H t := by
  intro t ht
  unfold colsV at ht
  rw [List.mem_map] at ht
  obtain ⟨x, hx, rfl⟩ := ht
  have h := linesV_mem hx
  have a1 := ha.1
  have b1 := hb.1
  simp only at a1 b1
  exact ⟨⟨by show 0 ≤ x; omega, by show x ≤ _; omega⟩, atV_rng (by omega) ha.2 hb.2⟩
theorem rows_box {W H : Nat} {ax ay bx b2 : Int} (ha : BoxP W H (ax, ay)) (hb : BoxP W H (bx, b2)) : ∀ t ∈ rowsV ax ay bx b2, BoxP W H t := by
  intro t ht
  unfold rowsV at ht
  rw [List.mem_map] at ht
  obtain ⟨y, hy, rfl⟩ := ht
  have h := linesV_mem hy
  have a1 := ha.2
  have b1 := hb.2
  simp only at a1 b1
  exact ⟨atV_rng (by omega) ha.1 hb.1, by show 0 ≤ y; omega, by show y ≤ _; omega⟩
theorem cutF_box {W H : Nat} : ∀ (r : List (Int × Int)) (x y : Int), BoxP W H (x, y) → (∀ t ∈ r, BoxP W H t) → ∀ t ∈ cutF x y r, BoxP W H t := by
  intro r
  induction r with
  | nil => intro x y _ _ t ht; cases ht
  | cons u r ih =>
    intro x y h hr t ht
    have hu := hr u (by simp)
    simp only [cutF, List.mem_append, List.mem_cons] at ht
    rcases ht with ht | ht | ht
    · exact cols_box h hu t ht
    · rw [ht]; exact hu
    · exact ih u.1 u.2 hu (fun v hv => hr v (by simp [hv])) t ht
theorem cutF_last (r : List (Int × Int)) (t : Int × Int) (x y : Int) : lastS x y (cutF x y (r ++ [t])) = t := by
  rw [cutF_snoc, lastS_snoc]
/-- One chord, all pixels: up to how much its cuts are off. -/
theorem chord_window {W H : Nat} {ax ay bx b2 : Int} (hW : W ≤ 64) (hH : H ≤ 64) (ha : BoxP W H (ax, ay)) (hb : BoxP W H (bx, b2)) :
    sz (winS W H (fun i j => chordV ax ay bx b2 i j) + (ax + bx) * (b2 - ay) - 128 * W * (b2 - ay)) ≤ offW ax ay bx b2 := by
  have a1 := ha.1
  have a2 := ha.2
  have b1 := hb.1
  have b2' := hb.2
  simp only at a1 a2 b1 b2'
  have ia : inB ax ay = true := inB_of (by omega) (by omega)
  have ib : inB bx b2 = true := inB_of (by omega) (by omega)
  generalize hL : cutF ax ay (rowsV ax ay bx b2 ++ [(bx, b2)]) = L
  have C := chord_whole ia ib hL.symm
  have P := pcOk_cut ia ib hL.symm
  have B : ∀ t ∈ L, BoxP W H t := by
    intro t ht
    rw [← hL] at ht
    refine cutF_box _ _ _ ha (fun u hu => ?_) t ht
    rw [List.mem_append, List.mem_singleton] at hu
    rcases hu with hu | hu
    · exact rows_box ha hb u hu
    · rw [hu]; exact hb
  have S := list_whole L ax ay P ha B
  have e : lastS ax ay L = (bx, b2) := by rw [← hL, cutF_last]
  rw [e] at S
  rw [winS_congr (B := fun i j => sumP i j ax ay L) (fun i j => by rw [← hL, chord_sum _ _ ia ib]), S]
  have c := Int.mul_comm (b2 - ay) (ax + bx)
  have : 128 * (W : Int) * (b2 - ay) - trap ax ay L + (ax + bx) * (b2 - ay) - 128 * (W : Int) * (b2 - ay) = -(trap ax ay L - (b2 - ay) * (ax + bx)) := by omega
  simp only
  rw [this]
  have sn : ∀ z : Int, sz (-z) = sz z := by
    intro z; unfold sz; repeat' split
    all_goals omega
  rw [sn]; exact C
theorem sumZ_tele (g : Nat → Int) : ∀ n, sumZ (fun k => g (k + 1) - g k) n = g n - g 0 := by
  intro n
  induction n with
  | zero => simp [sumZ]
  | succ n ih => simp only [sumZ, ih]; omega
theorem ring_tele (g : Nat → Int) (n : Nat) : sumZ (fun k => g (nxR n k) - g k) n = 0 := by
  cases n with
  | zero => rfl
  | succ m =>
    simp only [sumZ]
    rw [sumZ_congr (g := fun k => g (k + 1) - g k) m (fun k hk => by unfold nxR; rw [if_pos (by omega)]), sumZ_tele]
    unfold nxR
    rw [if_neg (by omega)]
    omega
theorem sumZ_sz {f g : Nat → Int} : ∀ n : Nat, (∀ k, k < n → sz (f k) ≤ g k) → sz (sumZ f n) ≤ sumZ g n := by
  intro n
  induction n with
  | zero => intro _; exact Int.le_refl _
  | succ n ih =>
    intro h
    have h1 := ih (fun k hk => h k (by omega))
    have h2 := h n (by omega)
    have h3 := sz_add (sumZ f n) (f n)
    simp only [sumZ]
    omega
def trapV (ax ay bx b2 : Int) : Int := (ax + bx) * (b2 - ay)
theorem ring_window {W H : Nat} {l : List (Int × Int)} (hW : W ≤ 64) (hH : H ≤ 64) (hl : ∀ t ∈ l, BoxP W H t) :
    sz (winS W H (fun i j => ringF (chA i j) l) + ringF trapV l) ≤ ringF offW l := by
  have hat : ∀ k, k < l.length → BoxP W H (ats l k) := fun k hk => by rw [ats_at hk]; exact hl _ (List.getElem_mem hk)
  have key := sumZ_sz (f := fun k => winS W H (fun i j => chF (chA i j) l k) + chF trapV l k - 128 * W * ((ats l (nxR l.length k)).2 - (ats l k).2)) (g := chF offW l) l.length (fun k hk =>
    chord_window hW hH (hat k hk) (hat _ (nxR_lt hk)))
  have e : sumZ (fun k => winS W H (fun i j => chF (chA i j) l k) + chF trapV l k - 128 * W * ((ats l (nxR l.length k)).2 - (ats l k).2)) l.length = winS W H (fun i j => ringF (chA i j) l) + ringF trapV l := by
    have e1 : ∀ (p q r : Nat → Int) n, sumZ (fun k => p k + q k - r k) n = sumZ p n + sumZ q n - sumZ r n := by
      intro p q r n
      induction n with
      | zero => simp [sumZ]
      | succ n ih => simp only [sumZ, ih]; omega
    rw [e1, sumZ_mul, ring_tele (fun k => (ats l k).2), Int.mul_zero, Int.sub_zero]
    unfold ringF
    rw [winS_sum W H (fun k i j => chF (chA i j) l k)]
  rw [e] at key
  exact key
/-- All rings, all pixels. -/
theorem whole_out {W H : Nat} {L : Nat → List (Int × Int)} {N : Nat} (hW : W ≤ 64) (hH : H ≤ 64) (hl : ∀ r, r < N → ∀ t ∈ L r, BoxP W H t) :
    sz (winS W H (fun i j => areaV L N i j) + outF trapV L N) ≤ outF offW L N := by
  unfold areaV outF
  rw [winS_sum W H (fun r i j => ringF (chA i j) (L r)), ← sumZ_add]
  exact sumZ_sz _ (fun r hr => ring_window hW hH (hl r hr))
end Num
end Go.Proofs.Ytkhcjkmifddlbab

/- Place -/
namespace Go.Proofs.Ytkhcjkmifddlbab
open Go.RowKit

theorem ret_int {k : IntKind} {a b : Int} (h : a = b) : Ending.returned (.int k a) = .returned (.int k b) := by rw [h]
theorem hide {p : Prop} (h : p) : Hid p := h
theorem ret_bool {a b : Bool} (h : a = b) : Ending.returned (.bool a) = .returned (.bool b) := by rw [h]

set_option maxHeartbeats 400000 in
theorem within_any (n m : Int) (w : World) (h0 : 0 ≤ m) (h1 : m ≤ 1000000) :
    Calls Try.prog 86 #[.int .i64 n, .int .i64 m] w fun e w' => e = .returned (.bool (Num.wi n m)) ∧ w' = w := by
  by_cases a : -m ≤ n
  · by_cases b : n ≤ m
    · go_enter Try.func86, Try.ntmps86
      go_wp2
      go_ret
      exact ⟨ret_bool (by simp [Num.wi, a, b]), rfl⟩
    · go_enter Try.func86, Try.ntmps86
      go_wp2
      go_ret
      exact ⟨ret_bool (by simp [Num.wi, a, b]), rfl⟩
  · go_enter Try.func86, Try.ntmps86
    go_wp2
    go_ret
    exact ⟨ret_bool (by simp [Num.wi]; omega), rfl⟩

set_option maxHeartbeats 400000 in
theorem halfUp_any (n d : Int) (w : World) (hd1 : 1 ≤ d) (hd2 : d ≤ 1000000000000) (hn1 : -1000000000000000 ≤ n) (hn2 : n ≤ 1000000000000000) :
    Calls Try.prog 81 #[.int .i64 n, .int .i64 d] w fun e w' => e = .returned (.int .i64 (Num.hu n d)) ∧ w' = w := by
  obtain ⟨f0, f1, f2, f3, f4⟩ := Num.tdiv_facts n d (by omega)
  obtain ⟨g1, g2⟩ := Num.tdiv_le n d (by omega) 1000000000000000 hn1 hn2
  obtain ⟨u1, u2, u3, u4⟩ := Num.hu_tdiv n d (by omega)
  have U1 := hide u1
  have U2 := hide u2
  have U3 := hide u3
  have U4 := hide u4
  clear u1 u2 u3 u4 f0 f3 f4
  have hd0 : ¬ d = 0 := by omega
  have hd3 : ¬ d < 1 := by omega
  by_cases a : n.tmod d < 0
  · by_cases b : d - (n.tmod d + d) ≤ n.tmod d + d
    · go_enter Try.func81, Try.ntmps81
      go_wp2
      go_ret
      exact ⟨ret_int (by have := U2.out a b; omega), rfl⟩
    · go_enter Try.func81, Try.ntmps81
      go_wp2
      go_ret
      exact ⟨ret_int (by have := U1.out a b; omega), rfl⟩
  · by_cases b : d - n.tmod d ≤ n.tmod d
    · go_enter Try.func81, Try.ntmps81
      go_wp2
      go_ret
      exact ⟨ret_int (by have := U4.out a b; omega), rfl⟩
    · go_enter Try.func81, Try.ntmps81
      go_wp2
      go_ret
      exact ⟨ret_int (by have := U3.out a b; omega), rfl⟩

set_option maxHeartbeats 400000 in
theorem scaled_any (n : Int) (w : World) (hn1 : -1000000000000 ≤ n) (hn2 : n ≤ 1000000000000) :
    Calls Try.prog 110 #[.int .i64 n] w fun e w' => e = .returned (.int .i64 (Num.hu n 2048)) ∧ w' = w := by
  go_enter Try.func110, Try.ntmps110
  go_wp2_with (go_at_call 81; refine (halfUp_any _ _ _ (by omega) (by omega) (by omega) (by omega)).mono ?_; rintro e w' ⟨rfl, rfl⟩)
  have := Num.hu_le n 2048 1000000000000 (by omega) (by omega) hn1 hn2
  go_wp2
  go_ret
  exact ⟨rfl, rfl⟩

set_option maxHeartbeats 400000 in
theorem fair_any (a b c d x y : Int) (w : World) :
    Calls Try.prog 72 #[.agg #[.int .i64 a, .int .i64 b, .int .i64 c, .int .i64 d, .int .i64 x, .int .i64 y]] w fun e w' => e = .returned (.bool (Num.fairB a b c d x y)) ∧ Below w.heap.size w w' := by
  go_enter Try.func72, Try.ntmps72
  go_wp2_with (go_at_call 86; refine (within_any _ _ _ (by omega) (by omega)).mono ?_; rintro e w' ⟨rfl, rfl⟩)
  all_goals
    go_ret
    exact ⟨ret_bool (by simp [Num.fairB, *]), (Below.refl _ _).alloc (Nat.le_refl _) _⟩

set_option maxHeartbeats 400000 in
theorem inRange_any (x y : Int) (w : World) :
    Calls Try.prog 103 #[.agg #[.int .i64 x, .int .i64 y]] w fun e w' => e = .returned (.bool (Num.inB x y)) ∧ Below w.heap.size w w' := by
  go_enter Try.func103, Try.ntmps103
  go_wp2_with (go_at_call 86; refine (within_any _ _ _ (by omega) (by omega)).mono ?_; rintro e w' ⟨rfl, rfl⟩)
  all_goals
    go_ret
    exact ⟨ret_bool (by simp [Num.inB, *]), (Below.refl _ _).alloc (Nat.le_refl _) _⟩

theorem wrap_ok (z : Int) (h1 : -9000000000000000000 ≤ z) (h2 : z ≤ 9000000000000000000) : IntKind.i64.wrap z = z := by
  rw [IntKind.wrap_i64]
  omega

theorem bcell {W w1 : World} (hb : Below W.heap.size W w1) : (∀ b o, b < W.heap.size → w1.cell? ⟨b, o, none⟩ = W.cell? ⟨b, o, none⟩) ∧ (∀ b o, b < W.heap.size → w1.frozen? ⟨b, o, none⟩ = W.frozen? ⟨b, o, none⟩) :=
  ⟨fun b o h => hb.cell (p := ⟨b, o, none⟩) h, fun b o h => hb.frozen (p := ⟨b, o, none⟩) h⟩

set_option maxHeartbeats 1000000 in
theorem place_any (a b c d x y s t : Int) (w : World) :
    Calls Try.prog 99 #[.agg #[.int .i64 a, .int .i64 b, .int .i64 c, .int .i64 d, .int .i64 x, .int .i64 y], .agg #[.int .i64 s, .int .i64 t]] w fun e w' =>
      e = .returned (.tuple #[.agg #[.int .i64 (Num.placeV a b c d x y s t).1, .int .i64 (Num.placeV a b c d x y s t).2.1], .int .i64 (Num.placeV a b c d x y s t).2.2]) ∧ Below w.heap.size w w' := by
  cases hs : Num.wi s 8192
  · have hV : Num.placeV a b c d x y s t = (0, 0, 4) := by unfold Num.placeV; rw [hs]; rfl
    rw [hV]
    clear hV
    go_enter Try.func99, Try.ntmps99
    go_wp2_with (go_at_call 86; refine (within_any _ _ _ (by omega) (by omega)).mono ?_; rintro e w' ⟨rfl, rfl⟩)
    refine bodyPost_ret (v := .tuple #[.agg #[.int .i64 0, .int .i64 0], .int .i64 4]) (by simp [results, Try.results99, go_sem]) rfl ⟨rfl, ?_⟩
    (repeat (any_goals (first | exact Below.refl _ _ | assumption | refine Below.drew ?_ | refine below_drewN ?_ _ | refine Below.setCell ?_ ?_ _ | refine Below.alloc ?_ ?_ _ | omega | (simp; done) | (simp; omega))))
  cases ht : Num.wi t 8192
  · have hV : Num.placeV a b c d x y s t = (0, 0, 4) := by unfold Num.placeV; rw [hs, ht]; rfl
    rw [hV]
    clear hV
    go_enter Try.func99, Try.ntmps99
    go_wp2_with (go_at_call 86; refine (within_any _ _ _ (by omega) (by omega)).mono ?_; rintro e w' ⟨rfl, rfl⟩)
    refine bodyPost_ret (v := .tuple #[.agg #[.int .i64 0, .int .i64 0], .int .i64 4]) (by simp [results, Try.results99, go_sem]) rfl ⟨rfl, ?_⟩
    (repeat (any_goals (first | exact Below.refl _ _ | assumption | refine Below.drew ?_ | refine below_drewN ?_ _ | refine Below.setCell ?_ ?_ _ | refine Below.alloc ?_ ?_ _ | omega | (simp; done) | (simp; omega))))
  cases hf : Num.fairB a b c d x y
  · have hV : Num.placeV a b c d x y s t = (0, 0, 5) := by unfold Num.placeV; rw [hs, ht, hf]; rfl
    rw [hV]
    clear hV
    go_enter Try.func99, Try.ntmps99
    go_wp2_with (first | (go_at_call 86; refine (within_any _ _ _ (by omega) (by omega)).mono ?_; rintro e w' ⟨rfl, rfl⟩) | (go_at_call 72; refine (fair_any _ _ _ _ _ _ _).mono ?_; rintro e w1 ⟨rfl, hb⟩; obtain ⟨hc, hfz⟩ := bcell hb; have hz : w.heap.size + 1 + 1 < w1.heap.size := by have := hb.size; simp at this; omega))
    have hb0 : Below w.heap.size w w1 := Below.trans (by (repeat (any_goals (first | exact Below.refl _ _ | assumption | refine Below.drew ?_ | refine below_drewN ?_ _ | refine Below.setCell ?_ ?_ _ | refine Below.alloc ?_ ?_ _ | omega | (simp; done) | (simp; omega))))) (hb.mono (by simp; omega))
    refine bodyPost_ret (v := .tuple #[.agg #[.int .i64 0, .int .i64 0], .int .i64 5]) (by simp [results, Try.results99, go_sem, hc]) rfl ⟨rfl, ?_⟩
    clear hb
    (repeat (any_goals (first | exact Below.refl _ _ | assumption | refine Below.drew ?_ | refine below_drewN ?_ _ | refine Below.setCell ?_ ?_ _ | refine Below.alloc ?_ ?_ _ | omega | (simp; done) | (simp; omega))))
  have k := Num.wi_yes hs
  have k2 := Num.wi_yes ht
  have kf : Num.wi a 65536 = true ∧ Num.wi b 65536 = true ∧ Num.wi c 65536 = true ∧ Num.wi d 65536 = true ∧ Num.wi x 16384 = true ∧ Num.wi y 16384 = true := by
    simp [Num.fairB] at hf; simp [hf]
  obtain ⟨f1, f2, f3, f4, f5, f6⟩ := kf
  have f1 := Num.wi_yes f1; have f2 := Num.wi_yes f2; have f3 := Num.wi_yes f3; have f4 := Num.wi_yes f4; have f5 := Num.wi_yes f5; have f6 := Num.wi_yes f6
  have m1 := Num.mul_bd a s _ _ f1 k
  have m2 := Num.mul_bd b t _ _ f2 k2
  have m3 := Num.mul_bd c s _ _ f3 k
  have m4 := Num.mul_bd d t _ _ f4 k2
  have n1 := Num.hu_le (a * s + b * t) 2048 10000000000 (by omega) (by omega) (by omega) (by omega)
  have n2 := Num.hu_le (c * s + d * t) 2048 10000000000 (by omega) (by omega) (by omega) (by omega)
  go_enter Try.func99, Try.ntmps99
  go_wp2_with (first | (go_at_call 86; refine (within_any _ _ _ (by omega) (by omega)).mono ?_; rintro e w' ⟨rfl, rfl⟩) | (go_at_call 72; refine (fair_any _ _ _ _ _ _ _).mono ?_; rintro e w1 ⟨rfl, hb⟩; obtain ⟨hc, hfz⟩ := bcell hb; have hz : w.heap.size + 1 + 1 < w1.heap.size := by have := hb.size; simp at this; omega))
  have hb0 : Below w.heap.size w w1 := Below.trans (by (repeat (any_goals (first | exact Below.refl _ _ | assumption | refine Below.drew ?_ | refine below_drewN ?_ _ | refine Below.setCell ?_ ?_ _ | refine Below.alloc ?_ ?_ _ | omega | (simp; done) | (simp; omega))))) (hb.mono (by simp; omega))
  clear hb
  have c0 : w1.cell? ⟨w.heap.size, 0, none⟩ = some (.int .i64 a) := by rw [hc _ _ (by simp; omega)]; go_simp
  have c1 : w1.cell? ⟨w.heap.size, 1, none⟩ = some (.int .i64 b) := by rw [hc _ _ (by simp; omega)]; go_simp
  have c2 : w1.cell? ⟨w.heap.size, 2, none⟩ = some (.int .i64 c) := by rw [hc _ _ (by simp; omega)]; go_simp
  have c3 : w1.cell? ⟨w.heap.size, 3, none⟩ = some (.int .i64 d) := by rw [hc _ _ (by simp; omega)]; go_simp
  have c4 : w1.cell? ⟨w.heap.size, 4, none⟩ = some (.int .i64 x) := by rw [hc _ _ (by simp; omega)]; go_simp
  have c5 : w1.cell? ⟨w.heap.size, 5, none⟩ = some (.int .i64 y) := by rw [hc _ _ (by simp; omega)]; go_simp
  have e0 : w1.cell? ⟨w.heap.size + 1, 0, none⟩ = some (.int .i64 s) := by rw [hc _ _ (by simp)]; go_simp
  have e1 : w1.cell? ⟨w.heap.size + 1, 1, none⟩ = some (.int .i64 t) := by rw [hc _ _ (by simp)]; go_simp
  have q0 : w1.cell? ⟨w.heap.size + 1 + 1, 0, none⟩ = some (.int .i64 0) := by rw [hc _ _ (by simp)]; go_simp
  have q1 : w1.cell? ⟨w.heap.size + 1 + 1, 1, none⟩ = some (.int .i64 0) := by rw [hc _ _ (by simp)]; go_simp
  have z0 : w1.frozen? ⟨w.heap.size + 1 + 1, 0, none⟩ = false := by rw [hfz _ _ (by simp)]; go_simp
  have z1 : w1.frozen? ⟨w.heap.size + 1 + 1, 1, none⟩ = false := by rw [hfz _ _ (by simp)]; go_simp
  have hz1 : w.heap.size + 1 < w1.heap.size := by omega
  have hz2 : w.heap.size < w1.heap.size := by omega
  have HB := hide hb0
  clear hb0
  clear hc hfz
  have p1 := wrap_ok (a * s) (by omega) (by omega)
  have p2 := wrap_ok (b * t) (by omega) (by omega)
  have p3 := wrap_ok (a * s + b * t) (by omega) (by omega)
  have p4 := wrap_ok (c * s) (by omega) (by omega)
  have p5 := wrap_ok (d * t) (by omega) (by omega)
  have p6 := wrap_ok (c * s + d * t) (by omega) (by omega)
  have p7 := wrap_ok (x + Num.hu (a * s + b * t) 2048) (by omega) (by omega)
  have p8 := wrap_ok (y + Num.hu (c * s + d * t) 2048) (by omega) (by omega)
  go_region_held3 (fun w' => w'.cell? ⟨w.heap.size, 0, none⟩ = some (.int .i64 a) ∧ w'.cell? ⟨w.heap.size, 1, none⟩ = some (.int .i64 b) ∧ w'.cell? ⟨w.heap.size, 2, none⟩ = some (.int .i64 c) ∧ w'.cell? ⟨w.heap.size, 3, none⟩ = some (.int .i64 d) ∧ w'.cell? ⟨w.heap.size, 4, none⟩ = some (.int .i64 x) ∧ w'.cell? ⟨w.heap.size, 5, none⟩ = some (.int .i64 y) ∧ w'.cell? ⟨w.heap.size + 1, 0, none⟩ = some (.int .i64 s) ∧ w'.cell? ⟨w.heap.size + 1, 1, none⟩ = some (.int .i64 t)) (go_keep) ((go_at_call 110; refine (scaled_any _ _ (by omega) (by omega)).mono ?_; rintro e w' ⟨rfl, rfl⟩))
  go_wp2
  go_region_held3 (fun w' => w'.cell? ⟨w.heap.size, 0, none⟩ = some (.int .i64 a) ∧ w'.cell? ⟨w.heap.size, 1, none⟩ = some (.int .i64 b) ∧ w'.cell? ⟨w.heap.size, 2, none⟩ = some (.int .i64 c) ∧ w'.cell? ⟨w.heap.size, 3, none⟩ = some (.int .i64 d) ∧ w'.cell? ⟨w.heap.size, 4, none⟩ = some (.int .i64 x) ∧ w'.cell? ⟨w.heap.size, 5, none⟩ = some (.int .i64 y) ∧ w'.cell? ⟨w.heap.size + 1, 0, none⟩ = some (.int .i64 s) ∧ w'.cell? ⟨w.heap.size + 1, 1, none⟩ = some (.int .i64 t)) (go_keep) ((go_at_call 110; refine (scaled_any _ _ (by omega) (by omega)).mono ?_; rintro e w' ⟨rfl, rfl⟩))
  go_wp2_with fail
  refine (inRange_any _ _ _).mono ?_
  rintro e w2 ⟨rfl, hb2⟩
  obtain ⟨hc2, hfz2⟩ := bcell hb2
  have hz2' : w1.heap.size < w2.heap.size := by have := hb2.size; simp at this; omega
  have hb3 : Below w.heap.size w w2 := Below.trans (by have := HB.out; (repeat (any_goals (first | exact Below.refl _ _ | assumption | refine Below.drew ?_ | refine below_drewN ?_ _ | refine Below.setCell ?_ ?_ _ | refine Below.alloc ?_ ?_ _ | omega | (simp; done) | (simp; omega))))) (hb2.mono (by simp; omega))
  clear hb2
  have HB3 := hide hb3
  clear hb3
  have q20 : w2.cell? ⟨w.heap.size + 1 + 1, 0, none⟩ = some (.int .i64 0) := by rw [hc2 _ _ (by simp; omega)]; go_simp
  have q21 : w2.cell? ⟨w.heap.size + 1 + 1, 1, none⟩ = some (.int .i64 0) := by rw [hc2 _ _ (by simp; omega)]; go_simp
  have z20 : w2.frozen? ⟨w.heap.size + 1 + 1, 0, none⟩ = false := by rw [hfz2 _ _ (by simp; omega)]; go_simp
  have z21 : w2.frozen? ⟨w.heap.size + 1 + 1, 1, none⟩ = false := by rw [hfz2 _ _ (by simp; omega)]; go_simp
  have u20 : w2.cell? ⟨w1.heap.size, 0, none⟩ = some (.int .i64 (x + Num.hu (a * s + b * t) 2048)) := by rw [hc2 _ _ (by simp)]; go_simp
  have u21 : w2.cell? ⟨w1.heap.size, 1, none⟩ = some (.int .i64 (y + Num.hu (c * s + d * t) 2048)) := by rw [hc2 _ _ (by simp)]; go_simp
  have hz3 : w.heap.size + 1 + 1 < w2.heap.size := by omega
  clear hc2 hfz2 q0 q1 z0 z1 c0 c1 c2 c3 c4 c5 e0 e1 p1 p2 p3 p4 p5 p6 p7 p8
  cases hi : Num.inB (x + Num.hu (a * s + b * t) 2048) (y + Num.hu (c * s + d * t) 2048)
  · have hV : Num.placeV a b c d x y s t = (0, 0, 6) := by unfold Num.placeV; rw [hs, ht, hf, hi]; rfl
    have HV := hide hV
    clear hV
    go_wp2
    refine bodyPost_ret (v := .tuple #[.agg #[.int .i64 0, .int .i64 0], .int .i64 6]) (by simp [results, Try.results99, go_sem, q20, q21]) rfl ⟨by rw [HV.out], ?_⟩
    have := HB3.out
    (repeat (any_goals (first | exact Below.refl _ _ | assumption | refine Below.drew ?_ | refine below_drewN ?_ _ | refine Below.setCell ?_ ?_ _ | refine Below.alloc ?_ ?_ _ | omega | (simp; done) | (simp; omega))))
  · have hV : Num.placeV a b c d x y s t = (x + Num.hu (a * s + b * t) 2048, y + Num.hu (c * s + d * t) 2048, 0) := by unfold Num.placeV; rw [hs, ht, hf, hi]; rfl
    have HV := hide hV
    clear hV
    go_wp2
    refine bodyPost_ret (v := .tuple #[.agg #[.int .i64 (x + Num.hu (a * s + b * t) 2048), .int .i64 (y + Num.hu (c * s + d * t) 2048)], .int .i64 0]) (by simp [results, Try.results99, go_sem, q20, q21]) rfl ⟨by rw [HV.out], ?_⟩
    have := HB3.out
    (repeat (any_goals (first | exact Below.refl _ _ | assumption | refine Below.drew ?_ | refine below_drewN ?_ _ | refine Below.setCell ?_ ?_ _ | refine Below.alloc ?_ ?_ _ | omega | (simp; done) | (simp; omega))))
end Go.Proofs.Ytkhcjkmifddlbab
