/- Plain: the segments of a ring, by the program's walk and by the document's. Imports nothing of the dump. -/
import Derived.Test.YtkhcjkmifddlbabDoorOut
namespace Go.Proofs.YtkhcjkmifddlbabDoor
namespace Num

/-- A segment: its kind, and the numbers of its four spots. -/
structure Sg where
  k : Int
  x0 : Int
  y0 : Int
  x1 : Int
  y1 : Int
  x2 : Int
  y2 : Int
  x3 : Int
  y3 : Int

def initS (p : Int × Int × Int) : Sg := ⟨0, p.1, p.2.1, 0, 0, 0, 0, 0, 0⟩
def setTo (g : Sg) (p : Int × Int × Int) : Sg := { g with x3 := p.1, y3 := p.2.1 }
/-- One more control: the program's way, and the document's. -/
def addP (g : Sg) (p : Int × Int × Int) : Sg := if g.k = 0 then { g with k := p.2.2, x1 := p.1, y1 := p.2.1 } else { g with x2 := p.1, y2 := p.2.1 }
def addR (g : Sg) (m : Nat) (p : Int × Int × Int) : Sg := if m = 0 then { g with k := p.2.2, x1 := p.1, y1 := p.2.1 } else { g with k := p.2.2, x2 := p.1, y2 := p.2.1 }

/-- The program's walk over a list of points. -/
def walkL : List (Int × Int × Int) → Sg → List Sg
  | [], _ => []
  | p :: r, g => if p.2.2 = 0 then setTo g p :: walkL r (initS p) else walkL r (addP g p)

section
variable (X Y K : Nat → Int) (n : Nat)

/-- Stop t of a ring, if it is there. -/
def stp (t : Nat) : Option (Int × Int × Int) :=
  if t % 2 = 0 then some (2 * X (t / 2 % n), 2 * Y (t / 2 % n), K (t / 2 % n))
  else if K (t / 2 % n) = 1 ∧ K ((t / 2 + 1) % n) = 1 then some (X (t / 2 % n) + X ((t / 2 + 1) % n), Y (t / 2 % n) + Y ((t / 2 + 1) % n), 0) else none
def onB (t : Nat) : Bool := match stp X Y K n t with
  | some p => p.2.2 == 0
  | none => false
/-- The document's scan for a segment's end. -/
def scanR : Nat → Nat → Sg → Nat → Sg
  | 0, _, g, _ => g
  | d + 1, k, g, m => match stp X Y K n k with
    | none => scanR d (k + 1) g m
    | some p => if p.2.2 = 0 then setTo g p else scanR d (k + 1) (addR g m p) (m + 1)
/-- The numbers of stop t, there or not. -/
def stv (t : Nat) : Int × Int × Int :=
  if t % 2 = 0 then (2 * X (t / 2 % n), 2 * Y (t / 2 % n), K (t / 2 % n))
  else (X (t / 2 % n) + X ((t / 2 + 1) % n), Y (t / 2 % n) + Y ((t / 2 + 1) % n), 0)
def fromV (t : Nat) : Sg := scanR X Y K n (2 * n) (t + 1) (initS (stv X Y K n t)) 0
def refF (t : Nat) : Option Sg := if onB X Y K n t = true then some (fromV X Y K n t) else none
/-- The document's segments of a ring. -/
def refRing : List Sg := (List.range (2 * n)).filterMap (refF X Y K n)

/-- The program's list with the implied points. -/
def nx (i : Nat) : Nat := if i + 1 < n then i + 1 else 0
def impF (i : Nat) : List (Int × Int × Int) := (2 * X i, 2 * Y i, K i) :: if K i = 1 ∧ K (nx n i) = 1 then [(X i + X (nx n i), Y i + Y (nx n i), 0)] else []
def imp : List (Int × Int × Int) := (List.range n).flatMap (impF X Y K n)
end

section
variable {X Y K : Nat → Int} {n : Nat}

theorem stp_stv {t : Nat} {p : Int × Int × Int} (h : stp X Y K n t = some p) : stv X Y K n t = p := by
  unfold stp at h
  unfold stv
  split at h
  · rename_i e; rw [if_pos e]; simpa using h
  · rename_i e
    split at h
    · rw [if_neg e]; simpa using h
    · cases h

theorem stp_period (t : Nat) : stp X Y K n (t + 2 * n) = stp X Y K n t := by
  unfold stp
  rw [show (t + 2 * n) % 2 = t % 2 by omega, show (t + 2 * n) / 2 = t / 2 + n by omega, show t / 2 + n + 1 = (t / 2 + 1) + n by omega, Nat.add_mod_right, Nat.add_mod_right]
theorem onB_period (t : Nat) : onB X Y K n (t + 2 * n) = onB X Y K n t := by
  unfold onB; rw [stp_period]

theorem nx_mod (i : Nat) (h : i < n) : nx n i = (i + 1) % n := by
  unfold nx
  split
  · rename_i e; rw [Nat.mod_eq_of_lt e]
  · rw [show i + 1 = n by omega, Nat.mod_self]

theorem imp_upto (i : Nat) (h : i ≤ n) : (List.range i).flatMap (impF X Y K n) = (List.range (2 * i)).filterMap (stp X Y K n) := by
  induction i with
  | zero => simp
  | succ i ih =>
    have ih := ih (by omega)
    rw [List.range_succ, List.flatMap_append, ih, show 2 * (i + 1) = 2 * i + 1 + 1 by omega, List.range_succ, List.range_succ, List.filterMap_append, List.filterMap_append, List.append_assoc]
    congr 1
    have e1 : (2 * i) / 2 = i := by omega
    have e2 : (2 * i + 1) / 2 = i := by omega
    have e3 : i % n = i := Nat.mod_eq_of_lt (by omega)
    have s1 : stp X Y K n (2 * i) = some (2 * X i, 2 * Y i, K i) := by
      unfold stp; rw [if_pos (by omega), e1, e3]
    have s2 : stp X Y K n (2 * i + 1) = if K i = 1 ∧ K (nx n i) = 1 then some (X i + X (nx n i), Y i + Y (nx n i), 0) else none := by
      unfold stp; rw [if_neg (by omega), e2, e3, nx_mod i (by omega)]
    simp only [List.flatMap_cons, List.flatMap_nil, List.append_nil, impF, List.filterMap_cons, List.filterMap_nil, s1, s2]
    by_cases c : K i = 1 ∧ K (nx n i) = 1
    · simp [c]
    · simp [c]

theorem imp_eq : imp X Y K n = (List.range (2 * n)).filterMap (stp X Y K n) := imp_upto n (Nat.le_refl _)

/-- The stops from a on, d of them. -/
def stops (X Y K : Nat → Int) (n a d : Nat) : List (Int × Int × Int) := (List.range' a d).filterMap (stp X Y K n)
theorem stops_add (a d e : Nat) : stops X Y K n a (d + e) = stops X Y K n a d ++ stops X Y K n (a + d) e := by
  unfold stops
  rw [← List.filterMap_append]
  congr 1
  rw [← List.range'_append_1]
theorem stops_period (a d : Nat) : stops X Y K n (a + 2 * n) d = stops X Y K n a d := by
  unfold stops
  induction d generalizing a with
  | zero => rfl
  | succ d ih =>
    rw [List.range'_succ, List.range'_succ, List.filterMap_cons, List.filterMap_cons, stp_period]
    have := ih (a + 1)
    rw [show a + 2 * n + 1 = a + 1 + 2 * n by omega, this]
theorem stops_one (a : Nat) : stops X Y K n a 1 = (stp X Y K n a).toList := by
  unfold stops
  cases h : stp X Y K n a <;> simp [h]

/-- Both ways take one more control alike. -/
def Inv (K : Nat → Int) (n a : Nat) (g : Sg) (m : Nat) : Prop :=
  (m = 0 ∧ g.k = 0) ∨ (0 < m ∧ g.k ≠ 0 ∧ ((a % 2 = 1 ∧ K (a / 2 % n) = g.k) ∨ (a % 2 = 0 ∧ 2 ≤ a ∧ K ((a / 2 - 1) % n) = g.k ∧ ¬ (K ((a / 2 - 1) % n) = 1 ∧ K (a / 2 % n) = 1))))

theorem may_all (hn : 0 < n) (hs : ∀ i, i < n → badB K n i = false) (i : Nat) : mayB (K ((i + n - 1) % n)) (K (i % n)) (K ((i + 1) % n)) = true := by
  have hj : i % n < n := Nat.mod_lt _ hn
  have h := hs (i % n) hj
  unfold badB at h
  rw [← prevK_mod K n _ hj, ← nextK_mod K n _ hj] at h
  have e1 : (i % n + n - 1) % n = (i + n - 1) % n := by
    have hi := Nat.div_add_mod i n
    rw [show i + n - 1 = (i % n + n - 1) + n * (i / n) by omega, Nat.add_mul_mod_self_left]
  have e2 : (i % n + 1) % n = (i + 1) % n := by simp
  rw [e1, e2] at h
  simpa using h

theorem kinds_adj (hn : 0 < n) (hs : ∀ i, i < n → badB K n i = false) (i : Nat) (h1 : 1 ≤ i) (a : K ((i - 1) % n) ≠ 0) (b : K (i % n) ≠ 0) (c : ¬ (K ((i - 1) % n) = 1 ∧ K (i % n) = 1)) : K ((i - 1) % n) = K (i % n) := by
  have m1 := may_all hn hs i
  have m0 := may_all hn hs (i - 1)
  have e1 : (i + n - 1) % n = (i - 1) % n := by rw [show i + n - 1 = (i - 1) + n by omega, Nat.add_mod_right]
  have e2 : (i - 1 + 1) % n = i % n := by rw [show i - 1 + 1 = i by omega]
  rw [e1] at m1
  rw [e2] at m0
  simp [mayB] at m0 m1
  omega

theorem walk_ref (hn : 0 < n) (hs : ∀ i, i < n → badB K n i = false) (E : Nat) (hE : onB X Y K n E = true) :
    ∀ (d a s m : Nat) (g : Sg), s < a → a + d = E + 1 → E ≤ s + 2 * n → 1 ≤ d → fromV X Y K n s = scanR X Y K n (s + 2 * n + 1 - a) a g m → Inv K n a g m → (s % 2 = 1 ∨ 0 < a) →
      walkL (stops X Y K n a d) g = fromV X Y K n s :: (List.range' a (d - 1)).filterMap (refF X Y K n) := by
  intro d
  induction d with
  | zero => intro a s m g _ _ _ h; omega
  | succ d ih =>
    intro a s m g hsa had hEs _ hfrom hinv _
    have hst : stops X Y K n a (d + 1) = (stp X Y K n a).toList ++ stops X Y K n (a + 1) d := by
      rw [show d + 1 = 1 + d by omega, stops_add, stops_one]
    have hfu : s + 2 * n + 1 - a = (s + 2 * n + 1 - (a + 1)) + 1 := by omega
    rw [hst]
    cases hp : stp X Y K n a with
    | none =>
      have hd : 1 ≤ d := by
        rcases Nat.eq_zero_or_pos d with h0 | h0
        · exfalso
          have : a = E := by omega
          subst this
          simp [onB, hp] at hE
        · exact h0
      have hf2 : fromV X Y K n s = scanR X Y K n (s + 2 * n + 1 - (a + 1)) (a + 1) g m := by
        rw [hfrom, hfu]; simp only [scanR, hp]
      have hinv2 : Inv K n (a + 1) g m := by
        rcases hinv with h | ⟨hm, hk, hh⟩
        · exact .inl h
        · refine .inr ⟨hm, hk, ?_⟩
          unfold stp at hp
          split at hp
          · cases hp
          · rename_i ho
            split at hp
            · cases hp
            · rename_i hno
              rcases hh with ⟨_, h2⟩ | ⟨h1, _⟩
              · refine .inr ⟨by omega, by omega, ?_, ?_⟩
                · rw [show (a + 1) / 2 - 1 = a / 2 by omega]; exact h2
                · rw [show (a + 1) / 2 - 1 = a / 2 by omega, show (a + 1) / 2 = a / 2 + 1 by omega]; exact hno
              · omega
      have := ih (a + 1) s m g (by omega) (by omega) hEs hd hf2 hinv2 (by omega)
      simp only [Option.toList_none, List.nil_append]
      rw [this]
      have er : (List.range' a (d + 1 - 1)).filterMap (refF X Y K n) = (List.range' (a + 1) (d - 1)).filterMap (refF X Y K n) := by
        rw [show d + 1 - 1 = (d - 1) + 1 by omega, List.range'_succ, List.filterMap_cons]
        simp [refF, onB, hp]
      rw [er]
    | some p =>
      simp only [Option.toList_some, List.cons_append, List.nil_append, walkL]
      by_cases h0 : p.2.2 = 0
      · rw [if_pos h0]
        have hon : onB X Y K n a = true := by simp [onB, hp, h0]
        have hf2 : fromV X Y K n s = setTo g p := by
          rw [hfrom, hfu]; simp only [scanR, hp, if_pos h0]
        rw [hf2]
        congr 1
        rcases Nat.eq_zero_or_pos d with hd | hd
        · subst hd; simp [stops, walkL]
        · have hfa : fromV X Y K n a = scanR X Y K n (a + 2 * n + 1 - (a + 1)) (a + 1) (initS p) 0 := by
            unfold fromV
            rw [stp_stv hp, show a + 2 * n + 1 - (a + 1) = 2 * n by omega]
          have := ih (a + 1) a 0 (initS p) (by omega) (by omega) (by omega) hd hfa (.inl ⟨rfl, rfl⟩) (by omega)
          rw [this, show d + 1 - 1 = (d - 1) + 1 by omega, List.range'_succ, List.filterMap_cons]
          simp [refF, hon]
      · rw [if_neg h0]
        have hd : 1 ≤ d := by
          rcases Nat.eq_zero_or_pos d with hz | hz
          · exfalso
            have : a = E := by omega
            subst this
            simp [onB, hp, h0] at hE
          · exact hz
        have hev : a % 2 = 0 ∧ p = (2 * X (a / 2 % n), 2 * Y (a / 2 % n), K (a / 2 % n)) := by
          unfold stp at hp
          split at hp
          · rename_i e; exact ⟨e, by simpa using hp.symm⟩
          · split at hp
            · exfalso; simp at hp; rw [← hp] at h0; exact h0 rfl
            · cases hp
        obtain ⟨hev, hpe⟩ := hev
        have hpk : p.2.2 = K (a / 2 % n) := by rw [hpe]
        have hadd : addP g p = addR g m p := by
          rcases hinv with ⟨hm, hk⟩ | ⟨hm, hk, hh⟩
          · simp [addP, addR, hm, hk]
          · rcases hh with ⟨h1, _⟩ | ⟨_, h2, h3, h4⟩
            · omega
            · have ka : K ((a / 2 - 1) % n) = K (a / 2 % n) := kinds_adj hn hs (a / 2) (by omega) (by rw [h3]; exact hk) (by rw [← hpk]; exact h0) h4
              have : p.2.2 = g.k := by rw [hpk, ← ka, h3]
              simp [addP, addR, hk, this, show ¬ m = 0 by omega]
        have hf2 : fromV X Y K n s = scanR X Y K n (s + 2 * n + 1 - (a + 1)) (a + 1) (addR g m p) (m + 1) := by
          rw [hfrom, hfu]; simp only [scanR, hp, if_neg h0]
        have hinv2 : Inv K n (a + 1) (addR g m p) (m + 1) := by
          have hk2 : (addR g m p).k = p.2.2 := by unfold addR; split <;> rfl
          refine .inr ⟨by omega, by rw [hk2]; exact h0, .inl ⟨by omega, ?_⟩⟩
          rw [hk2, hpk, show (a + 1) / 2 = a / 2 by omega]
        rw [hadd]
        have := ih (a + 1) s (m + 1) (addR g m p) (by omega) (by omega) hEs hd hf2 hinv2 (by omega)
        rw [this]
        have er : (List.range' a (d + 1 - 1)).filterMap (refF X Y K n) = (List.range' (a + 1) (d - 1)).filterMap (refF X Y K n) := by
          rw [show d + 1 - 1 = (d - 1) + 1 by omega, List.range'_succ, List.filterMap_cons]
          simp [refF, onB, hp, h0]
        rw [er]
end
end Num
end Go.Proofs.YtkhcjkmifddlbabDoor
