/- Plain: Cuts' answer. Imports nothing of the dump. -/
import Derived.Test.YtkhcjkmifddlbaaChordB
namespace Go.Proofs.Ytkhcjkmifddlbaa
namespace Num

/-- Of a search by two tests, the second of which ends at j. -/
theorem filter_end {A B : Nat → Bool} {j : Nat} : ∀ m, j ≤ m → (∀ k, k < m → B k = decide (k < j)) → (List.range m).filter (fun k => A k && B k) = (List.range j).filter A := by
  intro m
  induction m with
  | zero => intro h _; have : j = 0 := by omega
            subst this; rfl
  | succ m ih =>
    intro h hB
    by_cases e : j = m + 1
    · subst e
      apply List.filter_congr
      intro k hk
      have : k < m + 1 := by simpa using hk
      rw [hB k this]; simp [this]
    · rw [List.range_succ, List.filter_append, ih (by omega) (fun k hk => hB k (by omega))]
      have : B m = false := by rw [hB m (by omega)]; simp; omega
      simp [this]

/-- Line k, from the least on, and from the greatest on. -/
def upK (k : Nat) : Int := 64 * ((k : Int) - 256)
def dnK (k : Nat) : Int := 64 * (256 - (k : Int))
/-- The lines beyond p among the first j. -/
def upL (p : Int) (j : Nat) : List Int := ((List.range j).filter fun k => decide (p < upK k)).map upK
def dnL (p : Int) (j : Nat) : List Int := ((List.range j).filter fun k => decide (dnK k < p)).map dnK
/-- The lines between p and q among the first m. -/
def upR (p q : Int) (m : Nat) : List Int := ((List.range m).filter fun k => decide (p < upK k) && decide (upK k < q)).map upK
def dnR (p q : Int) (m : Nat) : List Int := ((List.range m).filter fun k => decide (dnK k < p) && decide (q < dnK k)).map dnK
def linesV (p q : Int) : List Int := upR p q 513 ++ dnR p q 513

theorem upL_succ (p : Int) (j : Nat) : upL p (j + 1) = upL p j ++ if p < upK j then [upK j] else [] := by
  unfold upL
  rw [List.range_succ, List.filter_append, List.map_append]
  split <;> rename_i h <;> simp [h]
theorem dnL_succ (p : Int) (j : Nat) : dnL p (j + 1) = dnL p j ++ if dnK j < p then [dnK j] else [] := by
  unfold dnL
  rw [List.range_succ, List.filter_append, List.map_append]
  split <;> rename_i h <;> simp [h]
theorem upR_succ (p q : Int) (m : Nat) : upR p q (m + 1) = upR p q m ++ if p < upK m ∧ upK m < q then [upK m] else [] := by
  unfold upR
  rw [List.range_succ, List.filter_append, List.map_append]
  split <;> rename_i h
  · simp [h.1, h.2]
  · have : (decide (p < upK m) && decide (upK m < q)) = false := by simp; omega
    simp [this]
theorem dnR_succ (p q : Int) (m : Nat) : dnR p q (m + 1) = dnR p q m ++ if q < dnK m ∧ dnK m < p then [dnK m] else [] := by
  unfold dnR
  rw [List.range_succ, List.filter_append, List.map_append]
  split <;> rename_i h
  · simp [h.1, h.2]
  · have : (decide (dnK m < p) && decide (q < dnK m)) = false := by simp; omega
    simp [this]
theorem upL_start {p : Int} {j : Nat} (h : ∀ k, k < j → upK k ≤ p) : upL p j = [] := by
  unfold upL
  rw [List.map_eq_nil_iff, List.filter_eq_nil_iff]
  intro k hk
  have := h k (by simpa using hk)
  simp; omega
theorem dnL_start {p : Int} {j : Nat} (h : ∀ k, k < j → p ≤ dnK k) : dnL p j = [] := by
  unfold dnL
  rw [List.map_eq_nil_iff, List.filter_eq_nil_iff]
  intro k hk
  have := h k (by simpa using hk)
  simp; omega
theorem upR_none {p q : Int} (m : Nat) (h : q ≤ p) : upR p q m = [] := by
  unfold upR
  rw [List.map_eq_nil_iff, List.filter_eq_nil_iff]
  intro k _
  simp; omega
theorem dnR_none {p q : Int} (m : Nat) (h : p ≤ q) : dnR p q m = [] := by
  unfold dnR
  rw [List.map_eq_nil_iff, List.filter_eq_nil_iff]
  intro k _
  simp; omega
/-- The program's lines are the document's. -/
theorem lines_up {p q : Int} {j : Nat} (hpq : p < q) (hj : j ≤ 513) (hq : ∀ k, k < j → upK k < q) (hq2 : ∀ k, j ≤ k → k < 513 → q ≤ upK k) : linesV p q = upL p j := by
  unfold linesV
  rw [dnR_none _ (by omega), List.append_nil]
  unfold upR upL
  rw [filter_end (j := j) 513 hj]
  intro k hk
  by_cases h : k < j
  · simp [h, hq k h]
  · have := hq2 k (by omega) hk
    simp [h]; omega
theorem lines_dn {p q : Int} {j : Nat} (hpq : q ≤ p) (hj : j ≤ 513) (hq : ∀ k, k < j → q < dnK k) (hq2 : ∀ k, j ≤ k → k < 513 → dnK k ≤ q) : linesV p q = dnL p j := by
  unfold linesV
  rw [upR_none _ (by omega), List.nil_append]
  unfold dnR dnL
  rw [filter_end (j := j) 513 hj]
  intro k hk
  by_cases h : k < j
  · simp [h, hq k h]
  · have := hq2 k (by omega) hk
    simp [h]; omega
theorem upL_len (p : Int) (j : Nat) : (upL p j).length ≤ j := by
  unfold upL; rw [List.length_map]; exact Nat.le_trans (List.length_filter_le _ _) (by simp)
theorem dnL_len (p : Int) (j : Nat) : (dnL p j).length ≤ j := by
  unfold dnL; rw [List.length_map]; exact Nat.le_trans (List.length_filter_le _ _) (by simp)
theorem upR_len (p q : Int) (j : Nat) : (upR p q j).length ≤ j := by
  unfold upR; rw [List.length_map]; exact Nat.le_trans (List.length_filter_le _ _) (by simp)
theorem dnR_len (p q : Int) (j : Nat) : (dnR p q j).length ≤ j := by
  unfold dnR; rw [List.length_map]; exact Nat.le_trans (List.length_filter_le _ _) (by simp)
theorem linesV_len (p q : Int) : (linesV p q).length ≤ 1026 := by
  unfold linesV
  rw [List.length_append]
  have := upR_len p q 513
  have := dnR_len p q 513
  omega
/-- All lines lie strictly between. -/
theorem linesV_mem {p q v : Int} (h : v ∈ linesV p q) : (p < v ∧ v < q) ∨ (q < v ∧ v < p) := by
  unfold linesV upR dnR at h
  simp only [List.mem_append, List.mem_map, List.mem_filter, Bool.and_eq_true, decide_eq_true_eq] at h
  rcases h with ⟨k, ⟨_, h1, h2⟩, rfl⟩ | ⟨k, ⟨_, h1, h2⟩, rfl⟩
  · exact .inl ⟨h1, h2⟩
  · exact .inr ⟨h2, h1⟩

theorem hu_add (a n d : Int) (hd : 0 < d) : hu (a * d + n) d = a + hu n d := by
  obtain ⟨h1, h2⟩ := hu_facts n d hd
  apply hu_of _ _ _ hd
  · have e : 2 * d * (a + hu n d) = 2 * (a * d) + 2 * d * hu n d := by rw [Int.mul_add, Int.mul_assoc 2 d a, Int.mul_comm d a]
    omega
  · have e : 2 * d * (a + hu n d) = 2 * (a * d) + 2 * d * hu n d := by rw [Int.mul_add, Int.mul_assoc 2 d a, Int.mul_comm d a]
    omega
theorem hu_between {n d B : Int} (hd : 0 < d) (h1 : -(B * d) ≤ n) (h2 : n ≤ B * d) : -B ≤ hu n d ∧ hu n d ≤ B := by
  obtain ⟨f1, f2⟩ := hu_facts n d hd
  constructor
  · rcases Int.lt_or_le (hu n d) (-B) with h | h
    · exfalso
      have := Int.mul_le_mul_of_nonneg_left (show hu n d + 1 ≤ -B by omega) (show 0 ≤ 2 * d by omega)
      rw [Int.mul_add] at this
      have e : 2 * d * -B = -(2 * (B * d)) := by rw [Int.mul_neg, Int.mul_assoc, Int.mul_comm d B]
      omega
    · exact h
  · rcases Int.lt_or_le B (hu n d) with h | h
    · exfalso
      have := Int.mul_le_mul_of_nonneg_left (show B + 1 ≤ hu n d by omega) (show 0 ≤ 2 * d by omega)
      rw [Int.mul_add] at this
      have e : 2 * d * B = 2 * (B * d) := by rw [Int.mul_assoc, Int.mul_comm d B]
      omega
    · exact h

/-- Where the line that goes from a to b, while the other coordinate goes from p to q, is at n. -/
def atV (a b p q n : Int) : Int := if q - p < 0 then hu (-(a * (q - n) + b * (n - p))) (-(q - p)) else hu (a * (q - n) + b * (n - p)) (q - p)
theorem at_num (a b p q n : Int) : a * (q - n) + b * (n - p) = a * (q - p) + (b - a) * (n - p) := by
  rw [Int.sub_mul, show q - p = (q - n) + (n - p) by omega, Int.mul_add]; omega
/-- The program's way. -/
theorem atV_eq {a b p q n : Int} (h : p ≠ q) : atV a b p q n = a + if q - p < 0 then hu (-((b - a) * (n - p))) (-(q - p)) else hu ((b - a) * (n - p)) (q - p) := by
  unfold atV
  rw [at_num]
  split
  · rename_i hd
    rw [show -(a * (q - p) + (b - a) * (n - p)) = a * -(q - p) + -((b - a) * (n - p)) by rw [Int.mul_neg]; omega]
    exact hu_add _ _ _ (by omega)
  · exact hu_add _ _ _ (by omega)
theorem mul_ge {a t B : Int} (h : -B ≤ a ∧ a ≤ B) (ht : 0 ≤ t) : -(B * t) ≤ a * t ∧ a * t ≤ B * t := by
  have h1 := Int.mul_le_mul_of_nonneg_right h.1 ht
  have h2 := Int.mul_le_mul_of_nonneg_right h.2 ht
  rw [Int.neg_mul] at h1
  exact ⟨h1, h2⟩
theorem atV_bd {a b p q n B : Int} (ha : -B ≤ a ∧ a ≤ B) (hb : -B ≤ b ∧ b ≤ B) (h : (p < n ∧ n < q) ∨ (q < n ∧ n < p)) : -B ≤ atV a b p q n ∧ atV a b p q n ≤ B := by
  unfold atV
  rcases h with h | h
  · rw [if_neg (by omega)]
    have h1 := mul_ge (t := q - n) ha (by omega)
    have h2 := mul_ge (t := n - p) hb (by omega)
    have e : B * (q - p) = B * (q - n) + B * (n - p) := by rw [← Int.mul_add]; congr 1; omega
    exact hu_between (by omega) (by omega) (by omega)
  · rw [if_pos (by omega)]
    have h1 := mul_ge (t := n - q) ha (by omega)
    have h2 := mul_ge (t := p - n) hb (by omega)
    have e : B * -(q - p) = B * (n - q) + B * (p - n) := by rw [← Int.mul_add]; congr 1; omega
    have e1 : a * (q - n) = -(a * (n - q)) := by rw [← Int.mul_neg]; congr 1; omega
    have e2 : b * (n - p) = -(b * (p - n)) := by rw [← Int.mul_neg]; congr 1; omega
    exact hu_between (by omega) (by omega) (by omega)

/-- Where a chord meets the row lines, and the column lines. -/
def rowsV (ax ay bx b2 : Int) : List (Int × Int) := (linesV ay b2).map fun y => (atV ax bx ay b2 y, y)
def colsV (ax ay bx b2 : Int) : List (Int × Int) := (linesV ax bx).map fun x => (x, atV ay b2 ax bx x)
/-- From one spot to the next, cut at the column lines. -/
def cutF : Int → Int → List (Int × Int) → List (Int × Int)
  | _, _, [] => []
  | x, y, t :: r => colsV x y t.1 t.2 ++ t :: cutF t.1 t.2 r
def cutsE (ax ay bx b2 : Int) : Int := if (inB ax ay && inB bx b2) = false then 6 else 0
/-- Cuts' answer. -/
def cutsL (ax ay bx b2 : Int) : List (Int × Int) := if cutsE ax ay bx b2 = 0 then (ax, ay) :: cutF ax ay (rowsV ax ay bx b2 ++ [(bx, b2)]) else []

theorem cuts_ok {ax ay bx b2 : Int} (h : cutsE ax ay bx b2 = 0) : inB ax ay = true ∧ inB bx b2 = true := by
  unfold cutsE at h
  cases h1 : inB ax ay <;> cases h2 : inB bx b2 <;> simp [h1, h2] at h
  exact ⟨rfl, rfl⟩
theorem rowsV_len (ax ay bx b2 : Int) : (rowsV ax ay bx b2).length ≤ 1026 := by unfold rowsV; rw [List.length_map]; exact linesV_len _ _
theorem colsV_len (ax ay bx b2 : Int) : (colsV ax ay bx b2).length ≤ 1026 := by unfold colsV; rw [List.length_map]; exact linesV_len _ _
/-- The spots on row lines are in range. -/
theorem rowsV_in {ax ay bx b2 : Int} (ha : inB ax ay = true) (hb : inB bx b2 = true) : ∀ t ∈ rowsV ax ay bx b2, inB t.1 t.2 = true := by
  intro t ht
  unfold rowsV at ht
  rw [List.mem_map] at ht
  obtain ⟨y, hy, rfl⟩ := ht
  have h := linesV_mem hy
  have a := inB_yes ha
  have b := inB_yes hb
  have := atV_bd (n := y) a.1 b.1 h
  have hy2 : -16384 ≤ y ∧ y ≤ 16384 := by omega
  simp [inB, wi]
  omega
theorem cutF_len (r : List (Int × Int)) : ∀ x y, (cutF x y r).length ≤ 1027 * r.length := by
  induction r with
  | nil => intro x y; simp [cutF]
  | cons t r ih =>
    intro x y
    simp only [cutF, List.length_append, List.length_cons]
    have := ih t.1 t.2
    have := colsV_len x y t.1 t.2
    omega
/-- The last spot behind the first spots r. -/
def lastS (x y : Int) : List (Int × Int) → Int × Int
  | [] => (x, y)
  | t :: r => lastS t.1 t.2 r
theorem cutF_snoc (r : List (Int × Int)) (t : Int × Int) : ∀ x y, cutF x y (r ++ [t]) = cutF x y r ++ colsV (lastS x y r).1 (lastS x y r).2 t.1 t.2 ++ [t] := by
  induction r with
  | nil => intro x y; simp [cutF, lastS]
  | cons u r ih => intro x y; simp only [List.cons_append, cutF, lastS, ih, List.append_assoc, List.cons_append]
theorem lastS_snoc (r : List (Int × Int)) (t : Int × Int) : ∀ x y, lastS x y (r ++ [t]) = t := by
  induction r with
  | nil => intro x y; rfl
  | cons u r ih => intro x y; simp only [List.cons_append, lastS, ih]
theorem lastS_in (r : List (Int × Int)) : ∀ x y, inB x y = true → (∀ t ∈ r, inB t.1 t.2 = true) → inB (lastS x y r).1 (lastS x y r).2 = true := by
  induction r with
  | nil => intro x y h _; exact h
  | cons u r ih => intro x y _ hr; exact ih u.1 u.2 (hr u (by simp)) (fun t ht => hr t (by simp [ht]))
end Num
end Go.Proofs.Ytkhcjkmifddlbaa
