/- Joined: TrnV, TrnW, TrnX, Place, Crv, Lists, Held. -/
import Derived.Test.YtkhcjkmifddlbaaPart1
import Derived.Test.YtkhcjkmifddlbaaPart2
import Derived.Test.YtkhcjkmifddlbaaProg
import Derived.WalkKit
import Derived.WalkSpells
import Derived.WalkLawsBesides
import Derived.Deep.QuietTactic
import Derived.BigQuiet
import Derived.Deep.RegionHeld3
import Derived.Deep.OwnRows
import Derived.Deep.AppendLies
/- TrnV -/
namespace Go.Proofs.Ytkhcjkmifddlbaa
namespace Num

/-- Stops as they may follow one another: each control has its end behind it. -/
inductive Gd : List (Int × Int × Int) → Prop
  | nil : Gd []
  | on {p : Int × Int × Int} {l : List (Int × Int × Int)} : p.2.2 = 0 → Gd l → Gd (p :: l)
  | quad {c q : Int × Int × Int} {l : List (Int × Int × Int)} : c.2.2 = 1 → q.2.2 = 0 → Gd l → Gd (c :: q :: l)
  | cub {c d q : Int × Int × Int} {l : List (Int × Int × Int)} : c.2.2 = 2 → d.2.2 = 2 → q.2.2 = 0 → Gd l → Gd (c :: d :: q :: l)

/-- The segment the other way round. -/
def revG (g : Sg) : Sg := if g.k = 2 then ⟨g.k, g.x3, g.y3, g.x2, g.y2, g.x1, g.y1, g.x0, g.y0⟩ else ⟨g.k, g.x3, g.y3, g.x1, g.y1, g.x2, g.y2, g.x0, g.y0⟩

theorem walk_on {l r : List (Int × Int × Int)} {e : Int × Int × Int} (he : e.2.2 = 0) : ∀ g : Sg, walkL (l ++ e :: r) g = walkL (l ++ [e]) g ++ walkL r (initS e) := by
  induction l with
  | nil => intro g; simp [walkL, he]
  | cons p l ih =>
    intro g
    simp only [List.cons_append, walkL]
    split
    · rw [ih]; rfl
    · rw [ih]

/-- Segments that hang together, from one spot to another. -/
def Lk : (Int × Int) → List Sg → (Int × Int) → Prop
  | s, [], e => s = e
  | s, g :: r, e => (g.x0, g.y0) = s ∧ Lk (g.x3, g.y3) r e
theorem lk_walk {L : List (Int × Int × Int)} (h : Gd L) : ∀ (l : List (Int × Int × Int)) (e p : Int × Int × Int), L = l ++ [e] → e.2.2 = 0 → Lk (p.1, p.2.1) (walkL L (initS p)) (e.1, e.2.1) := by
  induction h with
  | nil => intro l e p h; simp at h
  | @on q r hq hr ih =>
    intro l e p h he
    rw [walkL, if_pos hq]
    refine ⟨rfl, ?_⟩
    cases l with
    | nil =>
      simp at h
      obtain ⟨rfl, rfl⟩ := h
      rfl
    | cons a l =>
      simp at h
      obtain ⟨rfl, h⟩ := h
      exact ih l e q h he
  | @quad c q r hc hq hr ih =>
    intro l e p h he
    rw [walkL, if_neg (by omega), walkL, if_pos hq]
    refine ⟨by simp [addP, initS, setTo], ?_⟩
    cases l with
    | nil => simp at h
    | cons a l =>
      simp at h
      obtain ⟨rfl, h⟩ := h
      cases l with
      | nil =>
        simp at h
        obtain ⟨rfl, rfl⟩ := h
        simp [addP, initS, setTo, walkL, Lk]
      | cons b l =>
        simp at h
        obtain ⟨rfl, h⟩ := h
        exact ih l e q h he
  | @cub c d q r hc hd hq hr ih =>
    intro l e p h he
    rw [walkL, if_neg (by omega), walkL, if_neg (by omega), walkL, if_pos hq]
    refine ⟨by simp [addP, initS, setTo, hc], ?_⟩
    cases l with
    | nil => simp at h
    | cons a l =>
      simp at h
      obtain ⟨rfl, h⟩ := h
      cases l with
      | nil => simp at h
      | cons b l =>
        simp at h
        obtain ⟨rfl, h⟩ := h
        cases l with
        | nil =>
          simp at h
          obtain ⟨rfl, rfl⟩ := h
          simp [addP, initS, setTo, walkL, Lk, hc]
        | cons b l =>
          simp at h
          obtain ⟨rfl, h⟩ := h
          exact ih l e q h he
theorem walk_rev {L : List (Int × Int × Int)} (h : Gd L) : ∀ (l : List (Int × Int × Int)) (e p : Int × Int × Int), L = l ++ [e] → e.2.2 = 0 → p.2.2 = 0 → walkL (l.reverse ++ [p]) (initS e) = ((walkL L (initS p)).map revG).reverse := by
  induction h with
  | nil => intro l e p h; simp at h
  | @on q r hq hr ih =>
    intro l e p h he hp
    rw [walkL, if_pos hq, List.map_cons, List.reverse_cons]
    cases l with
    | nil =>
      simp at h
      obtain ⟨rfl, rfl⟩ := h
      simp [walkL, hp, revG, setTo, initS]
    | cons a l =>
      simp at h
      obtain ⟨rfl, h⟩ := h
      rw [List.reverse_cons, List.append_assoc, List.singleton_append, walk_on hq, ih l e q h he hq]
      congr 1
      simp [walkL, hp, revG, setTo, initS]
  | @quad c q r hc hq hr ih =>
    intro l e p h he hp
    rw [walkL, if_neg (by omega), walkL, if_pos hq, List.map_cons, List.reverse_cons]
    cases l with
    | nil => simp at h
    | cons a l =>
      simp at h
      obtain ⟨rfl, h⟩ := h
      cases l with
      | nil =>
        simp at h
        obtain ⟨rfl, rfl⟩ := h
        simp [walkL, hp, hc, revG, setTo, initS, addP]
      | cons b l =>
        simp at h
        obtain ⟨rfl, h⟩ := h
        rw [List.reverse_cons, List.reverse_cons, List.append_assoc, List.append_assoc, List.singleton_append, walk_on hq, ih l e q h he hq]
        congr 1
        simp [walkL, hp, hc, revG, setTo, initS, addP]
  | @cub c d q r hc hd hq hr ih =>
    intro l e p h he hp
    rw [walkL, if_neg (by omega), walkL, if_neg (by omega), walkL, if_pos hq, List.map_cons, List.reverse_cons]
    cases l with
    | nil => simp at h
    | cons a l =>
      simp at h
      obtain ⟨rfl, h⟩ := h
      cases l with
      | nil => simp at h
      | cons b l =>
        simp at h
        obtain ⟨rfl, h⟩ := h
        cases l with
        | nil =>
          simp at h
          obtain ⟨rfl, rfl⟩ := h
          simp [walkL, hp, hc, hd, revG, setTo, initS, addP]
        | cons b l =>
          simp at h
          obtain ⟨rfl, h⟩ := h
          rw [List.reverse_cons, List.reverse_cons, List.reverse_cons, List.append_assoc, List.append_assoc, List.append_assoc, List.singleton_append, walk_on hq, ih l e q h he hq]
          congr 1
          simp [walkL, hp, hc, hd, revG, setTo, initS, addP]

section
variable {X Y K : Nat → Int} {n : Nat}
theorem stops_cons {a d : Nat} : stops X Y K n a (d + 1) = (stp X Y K n a).toList ++ stops X Y K n (a + 1) d := by
  rw [show d + 1 = 1 + d by omega, stops_add, stops_one]
theorem on_ends {t : Nat} (h : onB X Y K n t = true) : ∃ p, stp X Y K n t = some p ∧ p.2.2 = 0 := by
  unfold onB at h
  cases hp : stp X Y K n t with
  | none => simp [hp] at h
  | some p => exact ⟨p, rfl, by simpa [hp] using h⟩
theorem on_kind {t : Nat} (h : onB X Y K n t = true) : K (t / 2 % n) ≠ 2 := by
  obtain ⟨p, hp, h0⟩ := on_ends h
  unfold stp at hp
  split at hp
  · simp at hp; subst hp; simp only at h0; omega
  · split at hp
    · rename_i c; omega
    · cases hp
theorem gd_stops (hn : 0 < n) (hs : ∀ i, i < n → badB K n i = false) : ∀ (d a : Nat), 1 ≤ a → K ((a - 1) / 2 % n) ≠ 2 → (d = 0 ∨ onB X Y K n (a + d - 1) = true) → Gd (stops X Y K n a d) := by
  intro d
  induction d using Nat.strongRecOn with
  | _ d ih =>
    intro a ha hk he
    rcases Nat.eq_zero_or_pos d with h0 | h0
    · subst h0; exact .nil
    have he : onB X Y K n (a + d - 1) = true := by rcases he with h | h; omega; exact h
    obtain ⟨d1, rfl⟩ : ∃ d1, d = d1 + 1 := ⟨d - 1, by omega⟩
    have noEnd : ∀ u, onB X Y K n (a + u) = false → u ≠ d1 := fun u hu e => by
      subst e
      rw [show a + (u + 1) - 1 = a + u by omega, hu] at he; cases he
    rw [stops_cons]
    cases hp : stp X Y K n a with
    | none =>
      have h1 : d1 ≠ 0 := fun e => noEnd 0 (by simp [onB, hp]) e.symm
      have hodd : a % 2 = 1 := by
        unfold stp at hp
        split at hp
        · cases hp
        · omega
      simp only [Option.toList_none, List.nil_append]
      refine ih d1 (by omega) (a + 1) (by omega) ?_ (.inr ?_)
      · rw [show (a + 1 - 1) / 2 = (a - 1) / 2 by omega]; exact hk
      · rw [show a + 1 + d1 - 1 = a + (d1 + 1) - 1 by omega]; exact he
    | some p =>
      simp only [Option.toList_some, List.cons_append, List.nil_append]
      by_cases hp0 : p.2.2 = 0
      · refine .on hp0 (ih d1 (by omega) (a + 1) (by omega) ?_ ?_)
        · rw [show (a + 1 - 1) / 2 = a / 2 by omega]
          exact on_kind (X := X) (Y := Y) (by simp [onB, hp, hp0])
        · rcases Nat.eq_zero_or_pos d1 with h | h
          · exact .inl h
          · right; rw [show a + 1 + d1 - 1 = a + (d1 + 1) - 1 by omega]; exact he
      · have hev : a % 2 = 0 ∧ p.2.2 = K (a / 2 % n) := by
          unfold stp at hp
          split at hp
          · rename_i e; simp at hp; subst hp; exact ⟨e, rfl⟩
          · split at hp
            · simp at hp; subst hp; exact absurd rfl hp0
            · cases hp
        obtain ⟨hev, hpk⟩ := hev
        obtain ⟨i, hi⟩ : ∃ i, a = 2 * i := ⟨a / 2, by omega⟩
        have hi2 : a / 2 = i := by omega
        have hip : 1 ≤ i := by omega
        rw [hi2] at hpk
        rw [show (a - 1) / 2 = i - 1 by omega] at hk
        have m0 := may_all hn hs i
        have m1 := may_all hn hs (i + 1)
        have e1 : (i + n - 1) % n = (i - 1) % n := by rw [show i + n - 1 = (i - 1) + n by omega, Nat.add_mod_right]
        have e2 : (i + 1 + n - 1) % n = i % n := by rw [show i + 1 + n - 1 = i + n by omega, Nat.add_mod_right]
        rw [e1] at m0
        rw [e2] at m1
        have ea : stp X Y K n (a + 1) = if K (i % n) = 1 ∧ K ((i + 1) % n) = 1 then some (X (i % n) + X ((i + 1) % n), Y (i % n) + Y ((i + 1) % n), 0) else none := by
          unfold stp; rw [if_neg (by omega), show (a + 1) / 2 = i by omega]
        have eb : stp X Y K n (a + 2) = some (2 * X ((i + 1) % n), 2 * Y ((i + 1) % n), K ((i + 1) % n)) := by
          unfold stp; rw [if_pos (by omega), show (a + 2) / 2 = i + 1 by omega]
        have ec : stp X Y K n (a + 3) = if K ((i + 1) % n) = 1 ∧ K ((i + 1 + 1) % n) = 1 then some (X ((i + 1) % n) + X ((i + 1 + 1) % n), Y ((i + 1) % n) + Y ((i + 1 + 1) % n), 0) else none := by
          unfold stp; rw [if_neg (by omega), show (a + 3) / 2 = i + 1 by omega]
        have ed : stp X Y K n (a + 4) = some (2 * X ((i + 1 + 1) % n), 2 * Y ((i + 1 + 1) % n), K ((i + 1 + 1) % n)) := by
          unfold stp; rw [if_pos (by omega), show (a + 4) / 2 = i + 1 + 1 by omega]
        have h1 : d1 ≠ 0 := fun e => noEnd 0 (by simp [onB, hp, hp0]) e.symm
        obtain ⟨d2, rfl⟩ : ∃ d2, d1 = d2 + 1 := ⟨d1 - 1, by omega⟩
        rw [stops_cons]
        by_cases k1 : K (i % n) = 1
        · by_cases k2 : K ((i + 1) % n) = 1
          · rw [ea, if_pos ⟨k1, k2⟩]
            simp only [Option.toList_some, List.cons_append, List.nil_append]
            refine .quad (by omega) rfl (ih d2 (by omega) (a + 1 + 1) (by omega) ?_ ?_)
            · rw [show (a + 1 + 1 - 1) / 2 = i by omega]; omega
            · rcases Nat.eq_zero_or_pos d2 with h | h
              · exact .inl h
              · right; rw [show a + 1 + 1 + d2 - 1 = a + (d2 + 1 + 1) - 1 by omega]; exact he
          · have no : stp X Y K n (a + 1) = none := by rw [ea, if_neg (by omega)]
            have h2 : d2 ≠ 0 := fun e => noEnd 1 (by simp [onB, no]) (by omega)
            obtain ⟨d3, rfl⟩ : ∃ d3, d2 = d3 + 1 := ⟨d2 - 1, by omega⟩
            rw [no, stops_cons, eb]
            simp only [Option.toList_none, Option.toList_some, List.cons_append, List.nil_append]
            have k0 : K ((i + 1) % n) = 0 := by
              simp [mayB] at m1
              omega
            refine .quad (by omega) k0 (ih d3 (by omega) (a + 1 + 1 + 1) (by omega) ?_ ?_)
            · rw [show (a + 1 + 1 + 1 - 1) / 2 = i + 1 by omega]; omega
            · rcases Nat.eq_zero_or_pos d3 with h | h
              · exact .inl h
              · right; rw [show a + 1 + 1 + 1 + d3 - 1 = a + (d3 + 1 + 1 + 1) - 1 by omega]; exact he
        · have k2 : K (i % n) = 2 ∧ K ((i + 1) % n) = 2 := by
            simp [mayB] at m0
            omega
          have k3 : K ((i + 1 + 1) % n) = 0 := by
            simp [mayB] at m1
            omega
          have no : stp X Y K n (a + 1) = none := by rw [ea, if_neg (by omega)]
          have no3 : stp X Y K n (a + 3) = none := by rw [ec, if_neg (by omega)]
          have h2 : d2 ≠ 0 := fun e => noEnd 1 (by simp [onB, no]) (by omega)
          obtain ⟨d3, rfl⟩ : ∃ d3, d2 = d3 + 1 := ⟨d2 - 1, by omega⟩
          have h3 : d3 ≠ 0 := fun e => noEnd 2 (by simp [onB, eb, k2.2]) (by omega)
          obtain ⟨d4, rfl⟩ : ∃ d4, d3 = d4 + 1 := ⟨d3 - 1, by omega⟩
          have h4 : d4 ≠ 0 := fun e => noEnd 3 (by simp [onB, no3]) (by omega)
          obtain ⟨d5, rfl⟩ : ∃ d5, d4 = d5 + 1 := ⟨d4 - 1, by omega⟩
          rw [no, stops_cons, eb, stops_cons, no3, stops_cons, ed]
          simp only [Option.toList_none, Option.toList_some, List.cons_append, List.nil_append]
          refine .cub (by omega) k2.2 k3 (ih d5 (by omega) (a + 1 + 1 + 1 + 1 + 1) (by omega) ?_ ?_)
          · rw [show (a + 1 + 1 + 1 + 1 + 1 - 1) / 2 = i + 1 + 1 by omega]; omega
          · rcases Nat.eq_zero_or_pos d5 with h | h
            · exact .inl h
            · right; rw [show a + 1 + 1 + 1 + 1 + 1 + d5 - 1 = a + (d5 + 1 + 1 + 1 + 1 + 1) - 1 by omega]; exact he

/-- The segments from an on-stop on. -/
theorem ring_from (hn : 0 < n) (hs : ∀ i, i < n → badB K n i = false) {t : Nat} (hon : onB X Y K n t = true) : walkL (stops X Y K n (t + 1) (2 * n)) (initS (stv X Y K n t)) = (List.range' t (2 * n)).filterMap (refF X Y K n) := by
  have hE : onB X Y K n (t + 2 * n) = true := by rw [onB_period]; exact hon
  have hfrom : fromV X Y K n t = scanR X Y K n (t + 2 * n + 1 - (t + 1)) (t + 1) (initS (stv X Y K n t)) 0 := by
    unfold fromV
    rw [show t + 2 * n + 1 - (t + 1) = 2 * n by omega]
  rw [walk_ref hn hs (t + 2 * n) hE (2 * n) (t + 1) t 0 _ (by omega) (by omega) (by omega) (by omega) hfrom (.inl ⟨rfl, rfl⟩) (by omega)]
  rw [show 2 * n = (2 * n - 1) + 1 by omega, List.range'_succ, List.filterMap_cons]
  simp [refF, hon]
theorem perm_period {α : Type} {f : Nat → Option α} {M : Nat} (hM : 0 < M) (h : ∀ t, f (t + M) = f t) : ∀ a, ((List.range' a M).filterMap f).Perm ((List.range M).filterMap f) := by
  intro a
  induction a with
  | zero => rw [List.range_eq_range']
  | succ a ih =>
    refine List.Perm.trans ?_ ih
    have e1 : List.range' a M = a :: List.range' (a + 1) (M - 1) := by
      rw [show M = (M - 1) + 1 by omega, List.range'_succ]; rfl
    have e2 : List.range' (a + 1) M = List.range' (a + 1) (M - 1) ++ [a + M] := by
      have := List.range'_append_1 (s := a + 1) (m := M - 1) (n := 1)
      rw [show M - 1 + 1 = M by omega, show a + 1 + (M - 1) = a + M by omega] at this
      exact this.symm
    rw [e1, e2, List.filterMap_append, List.filterMap_cons, List.filterMap_cons, h a]
    cases f a with
    | none => simp
    | some v => simp
theorem scan_period : ∀ (d k : Nat) (g : Sg) (m : Nat), scanR X Y K n d (k + 2 * n) g m = scanR X Y K n d k g m := by
  intro d
  induction d with
  | zero => intro k g m; rfl
  | succ d ih =>
    intro k g m
    unfold scanR
    rw [stp_period]
    cases stp X Y K n k with
    | none => simp only; rw [show k + 2 * n + 1 = k + 1 + 2 * n by omega, ih]
    | some p => simp only; rw [show k + 2 * n + 1 = k + 1 + 2 * n by omega, ih]
theorem refF_period (t : Nat) : refF X Y K n (t + 2 * n) = refF X Y K n t := by
  unfold refF
  rw [onB_period]
  by_cases h : onB X Y K n t = true
  · rw [if_pos h, if_pos h]
    obtain ⟨p, hp, _⟩ := on_ends h
    unfold fromV
    rw [stp_stv hp, stp_stv (p := p) (by rw [stp_period]; exact hp), show t + 2 * n + 1 = t + 1 + 2 * n by omega, scan_period]
  · rw [if_neg h, if_neg h]
theorem ring_perm (hn : 0 < n) (hs : ∀ i, i < n → badB K n i = false) {t : Nat} (hon : onB X Y K n t = true) : (walkL (stops X Y K n (t + 1) (2 * n)) (initS (stv X Y K n t))).Perm (refRing X Y K n) := by
  rw [ring_from hn hs hon]
  exact perm_period (by omega) refF_period t
/-- The first on-stop: the segments just as they are. -/
theorem ring_first (hn : 2 ≤ n) (hs : ∀ i, i < n → badB K n i = false) : ∃ t, onB X Y K n t = true ∧ walkL (stops X Y K n (t + 1) (2 * n)) (initS (stv X Y K n t)) = refRing X Y K n := by
  obtain ⟨t, ht, hon⟩ := exists_on (X := X) (Y := Y) hn hs
  rcases firstI_cases (onB X Y K n) (2 * n) with ⟨_, hno⟩ | ⟨t0, ht0, hon0, hno, _⟩
  · rw [hno t ht] at hon; cases hon
  refine ⟨t0, hon0, ?_⟩
  rw [ring_from (by omega) hs hon0]
  unfold refRing
  have hz : ∀ a d, (∀ u, a ≤ u → u < a + d → onB X Y K n u = false) → (List.range' a d).filterMap (refF X Y K n) = [] := by
    intro a d hu
    rw [List.filterMap_eq_nil_iff]
    intro u hm
    rw [List.mem_range'_1] at hm
    simp [refF, hu u hm.1 hm.2]
  have r1 : List.range (2 * n) = List.range' 0 t0 ++ List.range' t0 (2 * n - t0) := by
    have := List.range'_append_1 (s := 0) (m := t0) (n := 2 * n - t0)
    rw [show t0 + (2 * n - t0) = 2 * n by omega, Nat.zero_add] at this
    rw [List.range_eq_range', this]
  have r2 : List.range' t0 (2 * n) = List.range' t0 (2 * n - t0) ++ List.range' (2 * n) t0 := by
    have := List.range'_append_1 (s := t0) (m := 2 * n - t0) (n := t0)
    rw [show t0 + (2 * n - t0) = 2 * n by omega, show 2 * n - t0 + t0 = 2 * n by omega] at this
    exact this.symm
  rw [r1, r2, List.filterMap_append, List.filterMap_append]
  rw [hz 0 t0 (fun u _ hu => hno u (by omega)), hz (2 * n) t0 (fun u h1 h2 => by
    have := onB_period (X := X) (Y := Y) (K := K) (n := n) (u - 2 * n)
    rw [show u - 2 * n + 2 * n = u by omega] at this
    rw [this]; exact hno _ (by omega))]
  simp
theorem stops_last {t : Nat} {p : Int × Int × Int} (hn : 0 < n) (hp : stp X Y K n t = some p) : stops X Y K n (t + 1) (2 * n) = stops X Y K n (t + 1) (2 * n - 1) ++ [p] := by
  have h := stops_add (X := X) (Y := Y) (K := K) (n := n) (t + 1) (2 * n - 1) 1
  rw [show 2 * n - 1 + 1 = 2 * n by omega, show t + 1 + (2 * n - 1) = t + 2 * n by omega, stops_one, stp_period, hp] at h
  exact h
/-- The ring of segments hangs together. -/
theorem ring_lk (hn : 2 ≤ n) (hs : ∀ i, i < n → badB K n i = false) : ∃ s, Lk s (refRing X Y K n) s := by
  obtain ⟨t, hon, e⟩ := ring_first (X := X) (Y := Y) hn hs
  obtain ⟨p, hp, hp0⟩ := on_ends hon
  have hg := gd_stops (X := X) (Y := Y) (by omega) hs (2 * n) (t + 1) (by omega) (by rw [show t + 1 - 1 = t by omega]; exact on_kind hon) (.inr (by rw [show t + 1 + 2 * n - 1 = t + 2 * n by omega, onB_period]; exact hon))
  rw [stops_last (by omega) hp] at hg e
  rw [stp_stv hp] at e
  have := lk_walk hg _ p p rfl hp0
  rw [e] at this
  exact ⟨_, this⟩
end
end Num
end Go.Proofs.Ytkhcjkmifddlbaa

/- TrnW -/
namespace Go.Proofs.Ytkhcjkmifddlbaa
namespace Num

section
variable {X Y K X' Y' K' : Nat → Int} {n : Nat}
/-- Begun d points later. -/
theorem stp_rot {d : Nat} (hn : 0 < n) (hX : ∀ i, i < n → X' i = X ((i + d) % n)) (hY : ∀ i, i < n → Y' i = Y ((i + d) % n)) (hK : ∀ i, i < n → K' i = K ((i + d) % n)) (t : Nat) : stp X' Y' K' n t = stp X Y K n (t + 2 * d) := by
  have e1 : (t / 2 % n + d) % n = (t + 2 * d) / 2 % n := by rw [Nat.mod_add_mod]; congr 1; omega
  have e2 : ((t / 2 + 1) % n + d) % n = ((t + 2 * d) / 2 + 1) % n := by rw [Nat.mod_add_mod]; congr 1; omega
  have l1 := Nat.mod_lt (t / 2) hn
  have l2 := Nat.mod_lt (t / 2 + 1) hn
  unfold stp
  rw [show (t + 2 * d) % 2 = t % 2 by omega, hX _ l1, hY _ l1, hK _ l1, hX _ l2, hY _ l2, hK _ l2, e1, e2]
theorem refF_rot {d : Nat} (h : ∀ t, stp X' Y' K' n t = stp X Y K n (t + 2 * d)) (t : Nat) : refF X' Y' K' n t = refF X Y K n (t + 2 * d) := by
  have ho : onB X' Y' K' n t = onB X Y K n (t + 2 * d) := by unfold onB; rw [h]
  have hsc : ∀ (e k : Nat) (g : Sg) (m : Nat), scanR X' Y' K' n e k g m = scanR X Y K n e (k + 2 * d) g m := by
    intro e
    induction e with
    | zero => intro k g m; rfl
    | succ e ih =>
      intro k g m
      unfold scanR
      rw [h]
      cases stp X Y K n (k + 2 * d) with
      | none => simp only; rw [ih, show k + 1 + 2 * d = k + 2 * d + 1 by omega]
      | some p => simp only; rw [ih, show k + 1 + 2 * d = k + 2 * d + 1 by omega]
  unfold refF
  rw [ho]
  by_cases hon : onB X Y K n (t + 2 * d) = true
  · rw [if_pos hon, if_pos hon]
    obtain ⟨p, hp, _⟩ := on_ends hon
    unfold fromV
    rw [stp_stv hp, stp_stv (p := p) (by rw [h]; exact hp), hsc, show t + 1 + 2 * d = t + 2 * d + 1 by omega]
  · rw [if_neg hon, if_neg hon]
theorem rot_perm {d : Nat} (hn : 0 < n) (hX : ∀ i, i < n → X' i = X ((i + d) % n)) (hY : ∀ i, i < n → Y' i = Y ((i + d) % n)) (hK : ∀ i, i < n → K' i = K ((i + d) % n)) : (refRing X' Y' K' n).Perm (refRing X Y K n) := by
  have h := refF_rot (stp_rot hn hX hY hK)
  have e : refRing X' Y' K' n = (List.range' (2 * d) (2 * n)).filterMap (refF X Y K n) := by
    unfold refRing
    rw [show refF X' Y' K' n = refF X Y K n ∘ (fun t => 2 * d + t) from funext fun t => by rw [h]; simp [Nat.add_comm], ← List.filterMap_map, List.range_eq_range', List.map_add_range']
    simp
  rw [e]
  exact perm_period (by omega) refF_period _
theorem bad_rot {d : Nat} (hn : 0 < n) (hK : ∀ i, i < n → K' i = K ((i + d) % n)) (hs : ∀ i, i < n → badB K n i = false) : ∀ i, i < n → badB K' n i = false := by
  intro i hi
  have m := may_all hn hs (i + d)
  unfold badB
  rw [← prevK_mod K' n i hi, ← nextK_mod K' n i hi, hK _ (Nat.mod_lt _ hn), hK _ (Nat.mod_lt _ hn), hK _ hi, Nat.mod_add_mod, Nat.mod_add_mod]
  rw [show i + n - 1 + d = i + d + n - 1 by omega, show i + 1 + d = i + d + 1 by omega, m]; rfl
/-- The other way round. -/
theorem rev_mod {i j c : Nat} (hn : 0 < n) (h : i + j + 1 = n * c) : n - 1 - i % n = j % n := by
  have a := Nat.div_add_mod i n
  have b := Nat.div_add_mod j n
  have l1 := Nat.mod_lt i hn
  have l2 := Nat.mod_lt j hn
  have e : n * (i / n) + n * (j / n) + (i % n + j % n + 1) = n * c := by omega
  have hd : n ∣ i % n + j % n + 1 := by
    have h1 : n ∣ n * (i / n) + n * (j / n) := Nat.dvd_add (Nat.dvd_mul_right _ _) (Nat.dvd_mul_right _ _)
    exact (Nat.dvd_add_right h1).1 (by rw [e]; exact Nat.dvd_mul_right _ _)
  obtain ⟨q, hq⟩ := hd
  have : q = 1 := by
    rcases Nat.lt_trichotomy q 1 with h | h | h
    · have : q = 0 := by omega
      subst this; omega
    · exact h
    · have := Nat.mul_le_mul_left n (show 2 ≤ q by omega)
      omega
  subst this
  omega
theorem stp_rev {u v c : Nat} (hn : 0 < n) (hX : ∀ i, i < n → X' i = X (n - 1 - i)) (hY : ∀ i, i < n → Y' i = Y (n - 1 - i)) (hK : ∀ i, i < n → K' i = K (n - 1 - i)) (h : u + v + 2 = 2 * (n * c)) : stp X' Y' K' n u = stp X Y K n v := by
  have l1 := Nat.mod_lt (u / 2) hn
  have l2 := Nat.mod_lt (u / 2 + 1) hn
  unfold stp
  by_cases he : u % 2 = 0
  · rw [if_pos he, if_pos (by omega), hX _ l1, hY _ l1, hK _ l1, rev_mod hn (j := v / 2) (c := c) (by omega)]
  · rw [if_neg he, if_neg (show ¬ v % 2 = 0 by omega), hX _ l1, hY _ l1, hK _ l1, hX _ l2, hY _ l2, hK _ l2, rev_mod hn (i := u / 2) (j := v / 2 + 1) (c := c) (by omega), rev_mod hn (i := u / 2 + 1) (j := v / 2) (c := c) (by omega)]
    by_cases hc : K (v / 2 % n) = 1 ∧ K ((v / 2 + 1) % n) = 1
    · rw [if_pos hc, if_pos ⟨hc.2, hc.1⟩, Int.add_comm, Int.add_comm (Y _)]
    · rw [if_neg hc, if_neg (fun h => hc ⟨h.2, h.1⟩)]
theorem stops_rev {c : Nat} (hn : 0 < n) (hX : ∀ i, i < n → X' i = X (n - 1 - i)) (hY : ∀ i, i < n → Y' i = Y (n - 1 - i)) (hK : ∀ i, i < n → K' i = K (n - 1 - i)) : ∀ (d a b : Nat), a + b + d + 1 = 2 * (n * c) → stops X' Y' K' n a d = (stops X Y K n b d).reverse := by
  intro d
  induction d with
  | zero => intro a b _; simp [stops]
  | succ d ih =>
    intro a b h
    rw [stops_cons, ih (a + 1) b (by omega), stops_add, List.reverse_append, stops_one, stp_rev hn hX hY hK (v := b + d) (c := c) (by omega)]
    congr 1
    cases stp X Y K n (b + d) <;> rfl
theorem bad_rev (hn : 0 < n) (hK : ∀ i, i < n → K' i = K (n - 1 - i)) (hs : ∀ i, i < n → badB K n i = false) : ∀ i, i < n → badB K' n i = false := by
  intro i hi
  have m := may_all hn hs (n - 1 - i)
  rw [Nat.mod_eq_of_lt (show n - 1 - i < n by omega)] at m
  have e1 : n - 1 - (i + n - 1) % n = (n - 1 - i + 1) % n := rev_mod hn (c := 2) (by omega)
  have e2 : n - 1 - (i + 1) % n = (n - 1 - i + n - 1) % n := by
    rcases Nat.lt_or_ge (i + 1) n with h | h
    · rw [show n - 1 - i + n - 1 = (n - 2 - i) + n by omega, Nat.add_mod_right]
      exact rev_mod hn (c := 1) (by omega)
    · exact rev_mod hn (c := 2) (by omega)
  unfold badB
  rw [← prevK_mod K' n i hi, ← nextK_mod K' n i hi, hK _ (Nat.mod_lt _ hn), hK _ (Nat.mod_lt _ hn), hK _ hi, e1, e2]
  have sym : ∀ a k b : Int, mayB a k b = mayB b k a := fun a k b => by
    unfold mayB
    rw [Bool.eq_iff_iff]
    simp
    omega
  rw [sym, m]; rfl
theorem rev_perm (hn : 2 ≤ n) (hs : ∀ i, i < n → badB K n i = false) (hX : ∀ i, i < n → X' i = X (n - 1 - i)) (hY : ∀ i, i < n → Y' i = Y (n - 1 - i)) (hK : ∀ i, i < n → K' i = K (n - 1 - i)) : (refRing X' Y' K' n).Perm ((refRing X Y K n).map revG) := by
  have h0 : 0 < n := by omega
  obtain ⟨t, ht, hon⟩ := exists_on (X := X) (Y := Y) hn hs
  obtain ⟨p, hp, hp0⟩ := on_ends hon
  have hs' := bad_rev h0 hK hs
  have hp' : stp X' Y' K' n (4 * n - 2 - t) = some p := by rw [stp_rev h0 hX hY hK (v := t) (c := 2) (by omega)]; exact hp
  have hon' : onB X' Y' K' n (4 * n - 2 - t) = true := by simp [onB, hp', hp0]
  have q1 := ring_perm h0 hs' hon'
  have q2 := ring_perm h0 hs hon
  rw [stp_stv hp'] at q1
  rw [stp_stv hp] at q2
  have e1 : stops X' Y' K' n (4 * n - 2 - t + 1) (2 * n) = (stops X Y K n (t + 1) (2 * n - 1)).reverse ++ [p] := by
    rw [stops_rev h0 hX hY hK (c := 3) (2 * n) _ t (by omega), show 2 * n = (2 * n - 1) + 1 by omega, stops_cons, hp]
    simp
  have hg := gd_stops (X := X) (Y := Y) h0 hs (2 * n) (t + 1) (by omega) (by rw [show t + 1 - 1 = t by omega]; exact on_kind hon) (.inr (by rw [show t + 1 + 2 * n - 1 = t + 2 * n by omega, onB_period]; exact hon))
  rw [stops_last h0 hp] at hg q2
  have w := walk_rev hg _ p p rfl hp0 hp0
  rw [e1, w] at q1
  exact (q1.symm.trans (List.reverse_perm _)).trans (q2.map revG)
end

/-- Sums along a list of spots. -/
def pathF (F : Int → Int → Int → Int → Int) (l : List (Int × Int)) : Int := sumZ (fun k => F (ats l k).1 (ats l k).2 (ats l (k + 1)).1 (ats l (k + 1)).2) (l.length - 1)
theorem sumZ_splitT (f : Nat → Int) (a b : Nat) : sumZ f (a + b) = sumZ f a + sumZ (fun k => f (a + k)) b := by
  induction b with
  | zero => simp [sumZ]
  | succ b ih => rw [← Nat.add_assoc]; simp only [sumZ]; rw [ih]; omega
theorem ats_left {l r : List (Int × Int)} {k : Nat} (h : k < l.length) : ats (l ++ r) k = ats l k := by unfold ats; rw [List.getElem?_append_left h]
theorem ats_right (l r : List (Int × Int)) (k : Nat) : ats (l ++ r) (l.length + k) = ats r k := by unfold ats; rw [List.getElem?_append_right (by omega)]; congr 2; omega
theorem path_append (F : Int → Int → Int → Int → Int) (l r : List (Int × Int)) (b : Int × Int) : pathF F (l ++ b :: r) = pathF F (l ++ [b]) + pathF F (b :: r) := by
  unfold pathF
  simp only [List.length_append, List.length_cons, List.length_nil]
  rw [show l.length + (r.length + 1) - 1 = l.length + r.length by omega, sumZ_splitT, show l.length + (0 + 1) - 1 = l.length by omega, show r.length + 1 - 1 = r.length by omega]
  congr 1
  · refine sumZ_congr _ fun k hk => ?_
    have e1 : ats (l ++ b :: r) k = ats (l ++ [b]) k := by rw [ats_left hk, ats_left hk]
    have e2 : ats (l ++ b :: r) (k + 1) = ats (l ++ [b]) (k + 1) := by
      rw [show l ++ b :: r = (l ++ [b]) ++ r by simp, ats_left (by simp; omega)]
    rw [e1, e2]
  · refine sumZ_congr _ fun k _ => ?_
    rw [ats_right, Nat.add_assoc, ats_right]
theorem ring_path (F : Int → Int → Int → Int → Int) (a : Int × Int) (l : List (Int × Int)) : ringF F (a :: l) = pathF F ((a :: l) ++ [a]) := by
  unfold ringF pathF
  rw [List.length_append, List.length_singleton, show (a :: l).length + 1 - 1 = (a :: l).length by omega]
  refine sumZ_congr _ fun k hk => ?_
  unfold chF
  have e1 : ats ((a :: l) ++ [a]) k = ats (a :: l) k := ats_left hk
  have e2 : ats ((a :: l) ++ [a]) (k + 1) = ats (a :: l) (nxR (a :: l).length k) := by
    unfold nxR
    split
    · rename_i h; exact ats_left h
    · have h : k + 1 = (a :: l).length + 0 := by omega
      rw [h, ats_right]; rfl
  rw [e1, e2]
theorem path_rev {F : Int → Int → Int → Int → Int} (hF : ∀ a b c d, F c d a b = -F a b c d) : ∀ l : List (Int × Int), pathF F l.reverse = -pathF F l := by
  intro l
  induction l with
  | nil => simp [pathF, sumZ]
  | cons a l ih =>
    cases l with
    | nil => simp [pathF, sumZ]
    | cons b r =>
      rw [List.reverse_cons, List.reverse_cons, List.append_assoc, List.singleton_append, path_append]
      rw [← List.reverse_cons, ih, show a :: b :: r = [a] ++ b :: r from rfl, path_append F [a] r b]
      have e1 : pathF F [b, a] = F b.1 b.2 a.1 a.2 := by simp [pathF, sumZ, ats]
      have e2 : pathF F ([a] ++ [b]) = F a.1 a.2 b.1 b.2 := by simp [pathF, sumZ, ats]
      rw [e1, e2, hF]
      omega

/-- Segments: the ends of their spots. -/
def plS (m : Mp) (s : Int × Int) : Int × Int := ((pl m s.1 s.2).1, (pl m s.1 s.2).2.1)
theorem curve_cons {g : Sg} (h : curveE g = 0) : ∃ l, curveL g = (g.x0, g.y0) :: l ++ [(g.x3, g.y3)] := by
  have hb := needV_bd (curve_ok h).2
  have hs := stepsV_pos hb.2
  have hn : (0 : Int) < (curveN g : Int) := by unfold curveN; omega
  obtain ⟨N, hN⟩ : ∃ N, curveN g = N + 1 := ⟨curveN g - 1, by omega⟩
  have q0 : ∀ a b c : Int, hu (qSum ((curveN g : Int) - 0) 0 a b c) ((curveN g : Int) * curveN g) = a := fun a b c => by
    have e := hu_add a 0 ((curveN g : Int) * curveN g) (Int.mul_pos hn hn)
    have z : hu 0 ((curveN g : Int) * curveN g) = 0 := hu_of 0 _ 0 (Int.mul_pos hn hn) (by simp; exact Int.le_of_lt (Int.mul_pos hn hn)) (by have := Int.mul_pos hn hn; omega)
    rw [z] at e
    unfold qSum
    simp only [Int.sub_zero, Int.mul_zero, Int.zero_mul, Int.add_zero] at e ⊢
    rw [Int.mul_comm, e]
  have q1 : ∀ a b c : Int, hu (qSum ((curveN g : Int) - curveN g) (curveN g) a b c) ((curveN g : Int) * curveN g) = c := fun a b c => by
    have e := hu_add c 0 ((curveN g : Int) * curveN g) (Int.mul_pos hn hn)
    have z : hu 0 ((curveN g : Int) * curveN g) = 0 := hu_of 0 _ 0 (Int.mul_pos hn hn) (by simp; exact Int.le_of_lt (Int.mul_pos hn hn)) (by have := Int.mul_pos hn hn; omega)
    rw [z] at e
    unfold qSum
    simp only [Int.sub_self, Int.mul_zero, Int.zero_mul, Int.zero_add, Int.add_zero] at e ⊢
    rw [Int.mul_comm, e]
  have c0 : ∀ a b c d : Int, hu (cSum ((curveN g : Int) - 0) 0 a b c d) ((curveN g : Int) * curveN g * curveN g) = a := fun a b c d => by
    have hp := Int.mul_pos (Int.mul_pos hn hn) hn
    have e := hu_add a 0 ((curveN g : Int) * curveN g * curveN g) hp
    have z : hu 0 ((curveN g : Int) * curveN g * curveN g) = 0 := hu_of 0 _ 0 hp (by simp; exact Int.le_of_lt hp) (by omega)
    rw [z] at e
    unfold cSum
    simp only [Int.sub_zero, Int.mul_zero, Int.zero_mul, Int.add_zero] at e ⊢
    rw [Int.mul_comm, e]
  have c1 : ∀ a b c d : Int, hu (cSum ((curveN g : Int) - curveN g) (curveN g) a b c d) ((curveN g : Int) * curveN g * curveN g) = d := fun a b c d => by
    have hp := Int.mul_pos (Int.mul_pos hn hn) hn
    have e := hu_add d 0 ((curveN g : Int) * curveN g * curveN g) hp
    have z : hu 0 ((curveN g : Int) * curveN g * curveN g) = 0 := hu_of 0 _ 0 hp (by simp; exact Int.le_of_lt hp) (by omega)
    rw [z] at e
    unfold cSum
    simp only [Int.sub_self, Int.mul_zero, Int.zero_mul, Int.zero_add, Int.add_zero] at e ⊢
    rw [Int.mul_comm, e]
  have s0 : spotX g (curveN g) 0 = g.x0 ∧ spotY g (curveN g) 0 = g.y0 := by
    unfold spotX spotY
    rw [q0, q0, c0, c0, if_neg (show ¬ (0 : Int) = curveN g by omega), if_neg (show ¬ (0 : Int) = curveN g by omega)]
    constructor <;> (repeat' split) <;> rfl
  have s1 : spotX g (curveN g) (curveN g) = g.x3 ∧ spotY g (curveN g) (curveN g) = g.y3 := by
    unfold spotX spotY
    rw [q1, q1, c1, c1, if_pos rfl, if_pos rfl]
    constructor <;> (repeat' split) <;> rfl
  unfold curveL
  rw [if_pos h, List.range_succ, List.map_append]
  refine ⟨((List.range' 1 N).map fun (i : Nat) => (spotX g (curveN g) i, spotY g (curveN g) i)), ?_⟩
  congr 1
  · conv => lhs; rw [hN, List.range_eq_range', List.range'_succ, List.map_cons]
    congr 1
    · rw [← hN]; exact Prod.ext s0.1 s0.2
    · rw [← hN]
  · simp only [List.map_cons, List.map_nil]
    rw [s1.1, s1.2]
end Num
end Go.Proofs.Ytkhcjkmifddlbaa

/- TrnX -/
namespace Go.Proofs.Ytkhcjkmifddlbaa
namespace Num

theorem revG_k (g : Sg) : (revG g).k = g.k := by unfold revG; split <;> rfl
theorem gr_comm (a b : Int) : gr a b = gr b a := by
  unfold gr
  repeat' split
  all_goals omega
theorem bendV_rev (ax ay bx b2 cx cy : Int) : bendV cx cy bx b2 ax ay = bendV ax ay bx b2 cx cy := by
  unfold bendV
  rw [show cx - 2 * bx + ax = ax - 2 * bx + cx by omega, show cy - 2 * b2 + ay = ay - 2 * b2 + cy by omega]
theorem needV_rev (g : Sg) : needV (revG g) = needV g := by
  unfold needV
  rw [revG_k]
  by_cases h1 : g.k = 1
  · rw [if_pos h1, if_pos h1]
    unfold revG
    rw [if_neg (by omega)]
    exact bendV_rev _ _ _ _ _ _
  · rw [if_neg h1, if_neg h1]
    by_cases h2 : g.k = 2
    · rw [if_pos h2, if_pos h2]
      unfold revG
      rw [if_pos h2]
      simp only
      rw [gr_comm, bendV_rev g.x1, bendV_rev g.x0]
    · rw [if_neg h2, if_neg h2]
theorem rangeB_rev (g : Sg) : rangeB (revG g) = rangeB g := by
  unfold rangeB
  rw [revG_k]
  unfold revG
  by_cases h2 : g.k = 2
  · rw [if_pos h2, Bool.eq_iff_iff]
    simp [h2]
    constructor
    · rintro ⟨⟨⟨a, b⟩, c⟩, d⟩; exact ⟨⟨⟨b, a⟩, d⟩, c⟩
    · rintro ⟨⟨⟨a, b⟩, c⟩, d⟩; exact ⟨⟨⟨b, a⟩, d⟩, c⟩
  · rw [if_neg h2]
    simp only
    rw [Bool.and_comm (inB g.x3 g.y3)]
theorem curveE_rev (g : Sg) : curveE (revG g) = curveE g := by
  unfold curveE kindB
  rw [rangeB_rev, revG_k]
theorem qSum_rev (u i a b c : Int) : qSum u i c b a = qSum i u a b c := by
  unfold qSum
  rw [show 2 * i * u * b = 2 * u * i * b by rw [Int.mul_assoc 2, Int.mul_comm i u, ← Int.mul_assoc]]
  omega
theorem cSum_rev (u i a b c d : Int) : cSum u i d c b a = cSum i u a b c d := by
  unfold cSum
  have e1 : 3 * i * u * u * c = 3 * u * u * i * c := by simp only [Int.mul_comm, Int.mul_left_comm]
  have e2 : 3 * i * i * u * b = 3 * u * i * i * b := by simp only [Int.mul_comm, Int.mul_left_comm]
  rw [e1, e2]
  omega
theorem spot_rev {g : Sg} {n i : Int} (hk : Kd g.k) (h1 : g.k = 0 → n = 1) (h0 : 0 ≤ i ∧ i ≤ n) : spotX (revG g) n i = spotX g n (n - i) ∧ spotY (revG g) n i = spotY g n (n - i) := by
  unfold spotX spotY
  rw [revG_k]
  rcases hk with e | e | e
  · have n1 : ¬ g.k = 1 := by omega
    have n2 : ¬ g.k = 2 := by omega
    have := h1 e
    have z : revG g = ⟨g.k, g.x3, g.y3, g.x1, g.y1, g.x2, g.y2, g.x0, g.y0⟩ := by unfold revG; rw [if_neg n2]
    rw [z]
    simp only [if_neg n1, if_neg n2]
    rcases (show i = 0 ∨ i = n by omega) with h | h
    · have a1 : ¬ i = n := by omega
      have a2 : n - i = n := by omega
      constructor <;> simp only [if_neg a1, if_pos a2]
    · have a2 : ¬ n - i = n := by omega
      constructor <;> simp only [if_pos h, if_neg a2]
  · have n2 : ¬ g.k = 2 := by omega
    have z : revG g = ⟨g.k, g.x3, g.y3, g.x1, g.y1, g.x2, g.y2, g.x0, g.y0⟩ := by unfold revG; rw [if_neg n2]
    rw [z]
    simp only [if_pos e]
    rw [qSum_rev _ _ g.x0, qSum_rev _ _ g.y0, show n - (n - i) = i by omega]; exact ⟨rfl, rfl⟩
  · have n1 : ¬ g.k = 1 := by omega
    have z : revG g = ⟨g.k, g.x3, g.y3, g.x2, g.y2, g.x1, g.y1, g.x0, g.y0⟩ := by unfold revG; rw [if_pos e]
    rw [z]
    simp only [if_neg n1, if_pos e]
    rw [cSum_rev _ _ g.x0, cSum_rev _ _ g.y0, show n - (n - i) = i by omega]; exact ⟨rfl, rfl⟩
theorem curveL_rev {g : Sg} (h : curveE g = 0) : curveL (revG g) = (curveL g).reverse := by
  have hk := kind_yes (curve_ok h).1
  have eN : curveN (revG g) = curveN g := by unfold curveN; rw [needV_rev]
  have hl : g.k = 0 → ((curveN g : Nat) : Int) = 1 := fun e => by
    have hz : needV g = 0 := by unfold needV; rw [if_neg (by omega), if_neg (by omega)]
    unfold curveN
    rw [hz, stepsV_zero (by omega)]; rfl
  unfold curveL
  rw [if_pos h, if_pos (by rw [curveE_rev]; exact h), eN]
  refine List.ext_getElem (by simp) fun i h1 h2 => ?_
  simp only [List.length_map, List.length_range] at h1
  simp only [List.getElem_map, List.getElem_range, List.getElem_reverse, List.length_map, List.length_range]
  have s := spot_rev (g := g) (n := (curveN g : Nat)) (i := (i : Nat)) hk hl (by omega)
  rw [s.1, s.2, show ((curveN g + 1 - 1 - i : Nat) : Int) = (curveN g : Int) - i by omega]
theorem putV_rev (m : Mp) (g : Sg) : putV m (revG g) = revG (putV m g) := by
  unfold revG
  by_cases h : g.k = 2
  · rw [if_pos h, if_pos (show (putV m g).k = 2 from h)]; rfl
  · rw [if_neg h, if_neg (show ¬ (putV m g).k = 2 from h)]; rfl

/-- A sum over a list of segments. -/
def sumL (f : Sg → Int) : List Sg → Int
  | [] => 0
  | g :: r => f g + sumL f r
theorem sumL_perm {f : Sg → Int} {a b : List Sg} (h : a.Perm b) : sumL f a = sumL f b := by
  induction h with
  | nil => rfl
  | cons x _ ih => simp only [sumL, ih]
  | swap x y l => simp only [sumL]; omega
  | trans _ _ h1 h2 => rw [h1, h2]
theorem sumL_neg {f : Sg → Int} {h : Sg → Sg} : ∀ l : List Sg, (∀ g ∈ l, f (h g) = -f g) → sumL f (l.map h) = -sumL f l := by
  intro l
  induction l with
  | nil => intro _; rfl
  | cons g r ih => intro hh; simp only [List.map_cons, sumL]; rw [hh g (by simp), ih (fun u hu => hh u (by simp [hu]))]; omega
def segF (F : Int → Int → Int → Int → Int) (m : Mp) (g : Sg) : Int := pathF F (curveL (putV m g))
theorem path_one (F : Int → Int → Int → Int → Int) (b : Int × Int) : pathF F [b] = 0 := rfl
theorem ringSp_path (F : Int → Int → Int → Int → Int) {m : Mp} : ∀ (L : List Sg) (s e : Int × Int), Lk s L e → (∀ g ∈ L, Kd g.k) → ringOk m L = true → pathF F (ringSp m L ++ [plS m e]) = sumL (segF F m) L ∧ ∃ r, ringSp m L ++ [plS m e] = plS m s :: r := by
  intro L
  induction L with
  | nil =>
    intro s e h _ _
    have h : s = e := h
    subst h
    exact ⟨rfl, [], rfl⟩
  | cons g L ih =>
    intro s e h hk hok
    obtain ⟨rfl, h⟩ := h
    simp only [ringOk, List.all_cons, Bool.and_eq_true] at hok
    obtain ⟨i1, r, hr⟩ := ih _ e h (fun u hu => hk u (by simp [hu])) hok.2
    have hc := put_curve hok.1 (hk g (by simp))
    obtain ⟨l, hl⟩ := curve_cons hc
    have e1 : ringSp m (g :: L) ++ [plS m e] = ((plS m (g.x0, g.y0)) :: l) ++ (ringSp m L ++ [plS m e]) := by
      have : segSp m g = (plS m (g.x0, g.y0)) :: l := by
        unfold segSp
        rw [hl, List.dropLast_concat]; rfl
      unfold ringSp
      rw [List.flatMap_cons, this, List.append_assoc]
    refine ⟨?_, _, e1⟩
    rw [hr] at i1
    rw [e1, hr, path_append, i1]
    simp only [sumL, segF]
    rw [hl]; rfl
theorem ring_sum (F : Int → Int → Int → Int → Int) {m : Mp} {L : List Sg} {s : Int × Int} (h : Lk s L s) (hk : ∀ g ∈ L, Kd g.k) (hok : ringOk m L = true) : ringF F (ringSp m L) = sumL (segF F m) L := by
  obtain ⟨h1, r, hr⟩ := ringSp_path F L s s h hk hok
  cases hq : ringSp m L with
  | nil =>
    rw [hq] at h1
    rw [← h1]; rfl
  | cons a l =>
    rw [hq] at h1 hr
    have : a = plS m s := by simp at hr; exact hr.1
    rw [ring_path, ← h1, this]
theorem segF_rev {F : Int → Int → Int → Int → Int} (hF : ∀ a b c d, F c d a b = -F a b c d) {m : Mp} {g : Sg} (hk : Kd g.k) (hok : putOk m g = true) : segF F m (revG g) = -segF F m g := by
  unfold segF
  rw [putV_rev, curveL_rev (put_curve hok hk), path_rev hF]
theorem ringOk_perm {m : Mp} {a b : List Sg} (h : a.Perm b) (hb : ringOk m b = true) : ringOk m a = true := by
  unfold ringOk at *
  rw [List.all_eq_true] at *
  exact fun g hg => hb g (h.mem_iff.1 hg)

section
variable {X Y K X' Y' K' : Nat → Int} {n : Nat}
theorem ring_rot (F : Int → Int → Int → Int → Int) {m : Mp} {d : Nat} (hn : 2 ≤ n) (hs : ∀ i, i < n → badB K n i = false) (hX : ∀ i, i < n → X' i = X ((i + d) % n)) (hY : ∀ i, i < n → Y' i = Y ((i + d) % n)) (hK : ∀ i, i < n → K' i = K ((i + d) % n)) (hok : ringOk m (refRing X Y K n) = true) :
    ringF F (ringSp m (refRing X' Y' K' n)) = ringF F (ringSp m (refRing X Y K n)) := by
  have hs' := bad_rot (by omega) hK hs
  have hp := rot_perm (by omega) hX hY hK
  obtain ⟨s, h1⟩ := ring_lk (X := X) (Y := Y) hn hs
  obtain ⟨s', h2⟩ := ring_lk (X := X') (Y := Y') hn hs'
  rw [ring_sum F h1 (ring_kd (by omega) fun i hi => may_kd (hs i hi)) hok, ring_sum F h2 (ring_kd (by omega) fun i hi => may_kd (hs' i hi)) (ringOk_perm hp hok), sumL_perm hp]
theorem ring_rev {F : Int → Int → Int → Int → Int} (hF : ∀ a b c d, F c d a b = -F a b c d) {m : Mp} (hn : 2 ≤ n) (hs : ∀ i, i < n → badB K n i = false) (hX : ∀ i, i < n → X' i = X (n - 1 - i)) (hY : ∀ i, i < n → Y' i = Y (n - 1 - i)) (hK : ∀ i, i < n → K' i = K (n - 1 - i)) (hok : ringOk m (refRing X Y K n) = true) (hok' : ringOk m (refRing X' Y' K' n) = true) :
    ringF F (ringSp m (refRing X' Y' K' n)) = -ringF F (ringSp m (refRing X Y K n)) := by
  have hs' := bad_rev (by omega) hK hs
  have hp := rev_perm hn hs hX hY hK
  obtain ⟨s, h1⟩ := ring_lk (X := X) (Y := Y) hn hs
  obtain ⟨s', h2⟩ := ring_lk (X := X') (Y := Y') hn hs'
  have kd := ring_kd (X := X) (Y := Y) (by omega) fun i hi => may_kd (hs i hi)
  rw [ring_sum F h1 kd hok, ring_sum F h2 (ring_kd (by omega) fun i hi => may_kd (hs' i hi)) hok', sumL_perm hp]
  refine sumL_neg _ fun g hg => segF_rev hF (kd g hg) ?_
  unfold ringOk at hok
  rw [List.all_eq_true] at hok
  exact hok g hg
end
/-- The order of the rings. -/
theorem sumZ_rot (f : Nat → Int) (N d : Nat) (hd : d < N) : sumZ (fun r => f ((r + d) % N)) N = sumZ f N := by
  have e1 : sumZ (fun r => f ((r + d) % N)) N = sumZ (fun r => f ((r + d) % N)) ((N - d) + d) := by rw [show N - d + d = N by omega]
  have e2 : sumZ f N = sumZ f (d + (N - d)) := by rw [show d + (N - d) = N by omega]
  rw [e1, e2, sumZ_splitT, sumZ_splitT f, Int.add_comm]
  congr 1
  · refine sumZ_congr _ fun k hk => ?_
    rw [show N - d + k + d = k + N by omega, Nat.add_mod_right, Nat.mod_eq_of_lt (by omega)]
  · refine sumZ_congr _ fun k hk => ?_
    rw [show k + d = d + k by omega, Nat.mod_eq_of_lt (by omega)]
end Num
end Go.Proofs.Ytkhcjkmifddlbaa

/- Place -/
namespace Go.Proofs.Ytkhcjkmifddlbaa
open Go.RowKit

theorem ret_int {k : IntKind} {a b : Int} (h : a = b) : Ending.returned (.int k a) = .returned (.int k b) := by rw [h]
theorem hide {p : Prop} (h : p) : Hid p := h
theorem ret_bool {a b : Bool} (h : a = b) : Ending.returned (.bool a) = .returned (.bool b) := by rw [h]

set_option maxHeartbeats 400000 in
theorem within_any (n m : Int) (w : World) (h0 : 0 ≤ m) (h1 : m ≤ 1000000) :
    Calls Try.prog 122 #[.int .i64 n, .int .i64 m] w fun e w' => e = .returned (.bool (Num.wi n m)) ∧ w' = w := by
  by_cases a : -m ≤ n
  · by_cases b : n ≤ m
    · go_enter Try.func122, Try.ntmps122
      go_wp2
      go_ret
      exact ⟨ret_bool (by simp [Num.wi, a, b]), rfl⟩
    · go_enter Try.func122, Try.ntmps122
      go_wp2
      go_ret
      exact ⟨ret_bool (by simp [Num.wi, a, b]), rfl⟩
  · go_enter Try.func122, Try.ntmps122
    go_wp2
    go_ret
    exact ⟨ret_bool (by simp [Num.wi]; omega), rfl⟩

set_option maxHeartbeats 400000 in
theorem halfUp_any (n d : Int) (w : World) (hd1 : 1 ≤ d) (hd2 : d ≤ 1000000000000) (hn1 : -1000000000000000 ≤ n) (hn2 : n ≤ 1000000000000000) :
    Calls Try.prog 148 #[.int .i64 n, .int .i64 d] w fun e w' => e = .returned (.int .i64 (Num.hu n d)) ∧ w' = w := by
  obtain ⟨f0, f1, f2, f3, f4⟩ := Num.tdiv_facts n d (by omega)
  obtain ⟨g1, g2⟩ := Num.tdiv_le n d (by omega) 1000000000000000 hn1 hn2
  obtain ⟨u1, u2, u3, u4⟩ := Num.hu_tdiv n d (by omega)
  have U1 := hide u1
  have U2 := hide u2
  have U3 := hide u3
  have U4 := hide u4
  clear u1 u2 u3 u4 f0 f3 f4
  have hd0 : ¬ d = 0 := by omega
  have hd3 : ¬ d < 1 := by omega
  by_cases a : n.tmod d < 0
  · by_cases b : d - (n.tmod d + d) ≤ n.tmod d + d
    · go_enter Try.func148, Try.ntmps148
      go_wp2
      go_ret
      exact ⟨ret_int (by have := U2.out a b; omega), rfl⟩
    · go_enter Try.func148, Try.ntmps148
      go_wp2
      go_ret
      exact ⟨ret_int (by have := U1.out a b; omega), rfl⟩
  · by_cases b : d - n.tmod d ≤ n.tmod d
    · go_enter Try.func148, Try.ntmps148
      go_wp2
      go_ret
      exact ⟨ret_int (by have := U4.out a b; omega), rfl⟩
    · go_enter Try.func148, Try.ntmps148
      go_wp2
      go_ret
      exact ⟨ret_int (by have := U3.out a b; omega), rfl⟩

set_option maxHeartbeats 400000 in
theorem scaled_any (n : Int) (w : World) (hn1 : -1000000000000 ≤ n) (hn2 : n ≤ 1000000000000) :
    Calls Try.prog 124 #[.int .i64 n] w fun e w' => e = .returned (.int .i64 (Num.hu n 2048)) ∧ w' = w := by
  go_enter Try.func124, Try.ntmps124
  go_wp2_with (go_at_call 148; refine (halfUp_any _ _ _ (by omega) (by omega) (by omega) (by omega)).mono ?_; rintro e w' ⟨rfl, rfl⟩)
  have := Num.hu_le n 2048 1000000000000 (by omega) (by omega) hn1 hn2
  go_wp2
  go_ret
  exact ⟨rfl, rfl⟩

set_option maxHeartbeats 400000 in
theorem half_any (n d : Int) (w : World) (hd1 : 1 ≤ d) (hd2 : d ≤ 1000000000000) (hn1 : -1000000000000000 ≤ n) (hn2 : n ≤ 1000000000000000) :
    Calls Try.prog 94 #[.int .i64 n, .int .i64 d] w fun e w' => e = .returned (.int .i64 (Num.hu n d)) ∧ w' = w := by
  obtain ⟨f1, f2⟩ := Num.hu_facts n d (by omega)
  have hq0 := Num.hu_first n d (by omega)
  obtain ⟨g1, g2⟩ := Num.hu_le n d 1000000000000000 (by omega) (by omega) hn1 hn2
  have hd0 : ¬ 2 * d = 0 := by omega
  have e2 : Hid (2 * d * (Num.hu n d + 1) = 2 * d * Num.hu n d + 2 * d) := by unfold Hid; rw [Int.mul_add]; omega
  have hb : -9000000000000000 ≤ (2 * n + d).tdiv (2 * d) ∧ (2 * n + d).tdiv (2 * d) ≤ 9000000000000000 := by omega
  obtain ⟨b1, b2⟩ := hb
  have HQ := hide hq0
  clear hq0
  go_enter Try.func94, Try.ntmps94
  go_wp2
  go_loop [5] (fun t => ∃ q : Int, (q = Num.hu n d ∨ q = Num.hu n d + 1) ∧ t = .int .i64 q) (fun t => (intOf t - Num.hu n d).toNat)
  case atStart => exact ⟨_, HQ.out, rfl⟩
  case round =>
    obtain ⟨q, hq, rfl⟩ := hrel
    rcases hq with hq | hq
    · have c1 : 2 * d * q ≤ 2 * n + d := by rw [hq]; omega
      have c2 : -9000000000000000 ≤ 2 * d * q := by rw [hq]; omega
      have c3 : -9000000000000000 ≤ q := by omega
      have c4 : q ≤ 9000000000000000 := by omega
      have HE := hide hq
      clear hq f1 f2
      go_wp2
      go_ret
      exact ⟨ret_int HE.out, rfl⟩
    · have c1 : 2 * n + d < 2 * d * q := by rw [hq, e2.out]; omega
      have c2 : 2 * d * q ≤ 9000000000000000 := by rw [hq, e2.out]; omega
      have c3 : -9000000000000000 ≤ q := by omega
      have c4 : q ≤ 9000000000000000 := by omega
      have HE := hide hq
      clear hq f1 f2
      go_wp2
      go_round
      case rel => exact ⟨q - 1, Or.inl (by have := HE.out; omega), rfl⟩
      case measure => have := HE.out; simp [intOf]; omega

set_option maxHeartbeats 400000 in
theorem fair_any (a b c d x y : Int) (w : World) :
    Calls Try.prog 123 #[.agg #[.int .i64 a, .int .i64 b, .int .i64 c, .int .i64 d, .int .i64 x, .int .i64 y]] w fun e w' => e = .returned (.bool (Num.fairB a b c d x y)) ∧ Below w.heap.size w w' := by
  go_enter Try.func123, Try.ntmps123
  go_wp2_with (go_at_call 122; refine (within_any _ _ _ (by omega) (by omega)).mono ?_; rintro e w' ⟨rfl, rfl⟩)
  all_goals
    go_ret
    exact ⟨ret_bool (by simp [Num.fairB, *]), (Below.refl _ _).alloc (Nat.le_refl _) _⟩

set_option maxHeartbeats 400000 in
theorem inRange_any (x y : Int) (w : World) :
    Calls Try.prog 125 #[.agg #[.int .i64 x, .int .i64 y]] w fun e w' => e = .returned (.bool (Num.inB x y)) ∧ Below w.heap.size w w' := by
  go_enter Try.func125, Try.ntmps125
  go_wp2_with (go_at_call 122; refine (within_any _ _ _ (by omega) (by omega)).mono ?_; rintro e w' ⟨rfl, rfl⟩)
  all_goals
    go_ret
    exact ⟨ret_bool (by simp [Num.inB, *]), (Below.refl _ _).alloc (Nat.le_refl _) _⟩

set_option maxHeartbeats 400000 in
theorem refInRange_any (x y : Int) (w : World) :
    Calls Try.prog 95 #[.agg #[.int .i64 x, .int .i64 y]] w fun e w' => e = .returned (.bool (Num.inB x y)) ∧ Below w.heap.size w w' := by
  go_enter Try.func95, Try.ntmps95
  go_wp2
  all_goals
    go_ret
    refine ⟨ret_bool ?_, (Below.refl _ _).alloc (Nat.le_refl _) _⟩
    simp only [Num.inB, Num.wi]
    simp [*]
    try omega

theorem wrap_ok (z : Int) (h1 : -9000000000000000000 ≤ z) (h2 : z ≤ 9000000000000000000) : IntKind.i64.wrap z = z := by
  rw [IntKind.wrap_i64]
  omega

theorem bcell {W w1 : World} (hb : Below W.heap.size W w1) : (∀ b o, b < W.heap.size → w1.cell? ⟨b, o, none⟩ = W.cell? ⟨b, o, none⟩) ∧ (∀ b o, b < W.heap.size → w1.frozen? ⟨b, o, none⟩ = W.frozen? ⟨b, o, none⟩) :=
  ⟨fun b o h => hb.cell (p := ⟨b, o, none⟩) h, fun b o h => hb.frozen (p := ⟨b, o, none⟩) h⟩

set_option maxHeartbeats 1000000 in
theorem place_any (a b c d x y s t : Int) (w : World) :
    Calls Try.prog 92 #[.agg #[.int .i64 a, .int .i64 b, .int .i64 c, .int .i64 d, .int .i64 x, .int .i64 y], .agg #[.int .i64 s, .int .i64 t]] w fun e w' =>
      e = .returned (.tuple #[.agg #[.int .i64 (Num.placeV a b c d x y s t).1, .int .i64 (Num.placeV a b c d x y s t).2.1], .int .i64 (Num.placeV a b c d x y s t).2.2]) ∧ Below w.heap.size w w' := by
  cases hs : Num.wi s 8192
  · have hV : Num.placeV a b c d x y s t = (0, 0, 4) := by unfold Num.placeV; rw [hs]; rfl
    rw [hV]
    clear hV
    go_enter Try.func92, Try.ntmps92
    go_wp2_with (go_at_call 122; refine (within_any _ _ _ (by omega) (by omega)).mono ?_; rintro e w' ⟨rfl, rfl⟩)
    refine bodyPost_ret (v := .tuple #[.agg #[.int .i64 0, .int .i64 0], .int .i64 4]) (by simp [results, Try.results92, go_sem]) rfl ⟨rfl, ?_⟩
    (repeat (any_goals (first | exact Below.refl _ _ | assumption | refine Below.drew ?_ | refine below_drewN ?_ _ | refine Below.setCell ?_ ?_ _ | refine Below.alloc ?_ ?_ _ | omega | (simp; done) | (simp; omega))))
  cases ht : Num.wi t 8192
  · have hV : Num.placeV a b c d x y s t = (0, 0, 4) := by unfold Num.placeV; rw [hs, ht]; rfl
    rw [hV]
    clear hV
    go_enter Try.func92, Try.ntmps92
    go_wp2_with (go_at_call 122; refine (within_any _ _ _ (by omega) (by omega)).mono ?_; rintro e w' ⟨rfl, rfl⟩)
    refine bodyPost_ret (v := .tuple #[.agg #[.int .i64 0, .int .i64 0], .int .i64 4]) (by simp [results, Try.results92, go_sem]) rfl ⟨rfl, ?_⟩
    (repeat (any_goals (first | exact Below.refl _ _ | assumption | refine Below.drew ?_ | refine below_drewN ?_ _ | refine Below.setCell ?_ ?_ _ | refine Below.alloc ?_ ?_ _ | omega | (simp; done) | (simp; omega))))
  cases hf : Num.fairB a b c d x y
  · have hV : Num.placeV a b c d x y s t = (0, 0, 5) := by unfold Num.placeV; rw [hs, ht, hf]; rfl
    rw [hV]
    clear hV
    go_enter Try.func92, Try.ntmps92
    go_wp2_with (first | (go_at_call 122; refine (within_any _ _ _ (by omega) (by omega)).mono ?_; rintro e w' ⟨rfl, rfl⟩) | (go_at_call 123; refine (fair_any _ _ _ _ _ _ _).mono ?_; rintro e w1 ⟨rfl, hb⟩; obtain ⟨hc, hfz⟩ := bcell hb; have hz : w.heap.size + 1 + 1 < w1.heap.size := by have := hb.size; simp at this; omega))
    have hb0 : Below w.heap.size w w1 := Below.trans (by (repeat (any_goals (first | exact Below.refl _ _ | assumption | refine Below.drew ?_ | refine below_drewN ?_ _ | refine Below.setCell ?_ ?_ _ | refine Below.alloc ?_ ?_ _ | omega | (simp; done) | (simp; omega))))) (hb.mono (by simp; omega))
    refine bodyPost_ret (v := .tuple #[.agg #[.int .i64 0, .int .i64 0], .int .i64 5]) (by simp [results, Try.results92, go_sem, hc]) rfl ⟨rfl, ?_⟩
    clear hb
    (repeat (any_goals (first | exact Below.refl _ _ | assumption | refine Below.drew ?_ | refine below_drewN ?_ _ | refine Below.setCell ?_ ?_ _ | refine Below.alloc ?_ ?_ _ | omega | (simp; done) | (simp; omega))))
  have k := Num.wi_yes hs
  have k2 := Num.wi_yes ht
  have kf : Num.wi a 65536 = true ∧ Num.wi b 65536 = true ∧ Num.wi c 65536 = true ∧ Num.wi d 65536 = true ∧ Num.wi x 16384 = true ∧ Num.wi y 16384 = true := by
    simp [Num.fairB] at hf; simp [hf]
  obtain ⟨f1, f2, f3, f4, f5, f6⟩ := kf
  have f1 := Num.wi_yes f1; have f2 := Num.wi_yes f2; have f3 := Num.wi_yes f3; have f4 := Num.wi_yes f4; have f5 := Num.wi_yes f5; have f6 := Num.wi_yes f6
  have m1 := Num.mul_bd a s _ _ f1 k
  have m2 := Num.mul_bd b t _ _ f2 k2
  have m3 := Num.mul_bd c s _ _ f3 k
  have m4 := Num.mul_bd d t _ _ f4 k2
  have n1 := Num.hu_le (a * s + b * t) 2048 10000000000 (by omega) (by omega) (by omega) (by omega)
  have n2 := Num.hu_le (c * s + d * t) 2048 10000000000 (by omega) (by omega) (by omega) (by omega)
  go_enter Try.func92, Try.ntmps92
  go_wp2_with (first | (go_at_call 122; refine (within_any _ _ _ (by omega) (by omega)).mono ?_; rintro e w' ⟨rfl, rfl⟩) | (go_at_call 123; refine (fair_any _ _ _ _ _ _ _).mono ?_; rintro e w1 ⟨rfl, hb⟩; obtain ⟨hc, hfz⟩ := bcell hb; have hz : w.heap.size + 1 + 1 < w1.heap.size := by have := hb.size; simp at this; omega))
  have hb0 : Below w.heap.size w w1 := Below.trans (by (repeat (any_goals (first | exact Below.refl _ _ | assumption | refine Below.drew ?_ | refine below_drewN ?_ _ | refine Below.setCell ?_ ?_ _ | refine Below.alloc ?_ ?_ _ | omega | (simp; done) | (simp; omega))))) (hb.mono (by simp; omega))
  clear hb
  have c0 : w1.cell? ⟨w.heap.size, 0, none⟩ = some (.int .i64 a) := by rw [hc _ _ (by simp; omega)]; go_simp
  have c1 : w1.cell? ⟨w.heap.size, 1, none⟩ = some (.int .i64 b) := by rw [hc _ _ (by simp; omega)]; go_simp
  have c2 : w1.cell? ⟨w.heap.size, 2, none⟩ = some (.int .i64 c) := by rw [hc _ _ (by simp; omega)]; go_simp
  have c3 : w1.cell? ⟨w.heap.size, 3, none⟩ = some (.int .i64 d) := by rw [hc _ _ (by simp; omega)]; go_simp
  have c4 : w1.cell? ⟨w.heap.size, 4, none⟩ = some (.int .i64 x) := by rw [hc _ _ (by simp; omega)]; go_simp
  have c5 : w1.cell? ⟨w.heap.size, 5, none⟩ = some (.int .i64 y) := by rw [hc _ _ (by simp; omega)]; go_simp
  have e0 : w1.cell? ⟨w.heap.size + 1, 0, none⟩ = some (.int .i64 s) := by rw [hc _ _ (by simp)]; go_simp
  have e1 : w1.cell? ⟨w.heap.size + 1, 1, none⟩ = some (.int .i64 t) := by rw [hc _ _ (by simp)]; go_simp
  have q0 : w1.cell? ⟨w.heap.size + 1 + 1, 0, none⟩ = some (.int .i64 0) := by rw [hc _ _ (by simp)]; go_simp
  have q1 : w1.cell? ⟨w.heap.size + 1 + 1, 1, none⟩ = some (.int .i64 0) := by rw [hc _ _ (by simp)]; go_simp
  have z0 : w1.frozen? ⟨w.heap.size + 1 + 1, 0, none⟩ = false := by rw [hfz _ _ (by simp)]; go_simp
  have z1 : w1.frozen? ⟨w.heap.size + 1 + 1, 1, none⟩ = false := by rw [hfz _ _ (by simp)]; go_simp
  have hz1 : w.heap.size + 1 < w1.heap.size := by omega
  have hz2 : w.heap.size < w1.heap.size := by omega
  have HB := hide hb0
  clear hb0
  clear hc hfz
  have p1 := wrap_ok (a * s) (by omega) (by omega)
  have p2 := wrap_ok (b * t) (by omega) (by omega)
  have p3 := wrap_ok (a * s + b * t) (by omega) (by omega)
  have p4 := wrap_ok (c * s) (by omega) (by omega)
  have p5 := wrap_ok (d * t) (by omega) (by omega)
  have p6 := wrap_ok (c * s + d * t) (by omega) (by omega)
  have p7 := wrap_ok (x + Num.hu (a * s + b * t) 2048) (by omega) (by omega)
  have p8 := wrap_ok (y + Num.hu (c * s + d * t) 2048) (by omega) (by omega)
  go_region_held3 (fun w' => w'.cell? ⟨w.heap.size, 0, none⟩ = some (.int .i64 a) ∧ w'.cell? ⟨w.heap.size, 1, none⟩ = some (.int .i64 b) ∧ w'.cell? ⟨w.heap.size, 2, none⟩ = some (.int .i64 c) ∧ w'.cell? ⟨w.heap.size, 3, none⟩ = some (.int .i64 d) ∧ w'.cell? ⟨w.heap.size, 4, none⟩ = some (.int .i64 x) ∧ w'.cell? ⟨w.heap.size, 5, none⟩ = some (.int .i64 y) ∧ w'.cell? ⟨w.heap.size + 1, 0, none⟩ = some (.int .i64 s) ∧ w'.cell? ⟨w.heap.size + 1, 1, none⟩ = some (.int .i64 t)) (go_keep) ((go_at_call 124; refine (scaled_any _ _ (by omega) (by omega)).mono ?_; rintro e w' ⟨rfl, rfl⟩))
  go_wp2
  go_region_held3 (fun w' => w'.cell? ⟨w.heap.size, 0, none⟩ = some (.int .i64 a) ∧ w'.cell? ⟨w.heap.size, 1, none⟩ = some (.int .i64 b) ∧ w'.cell? ⟨w.heap.size, 2, none⟩ = some (.int .i64 c) ∧ w'.cell? ⟨w.heap.size, 3, none⟩ = some (.int .i64 d) ∧ w'.cell? ⟨w.heap.size, 4, none⟩ = some (.int .i64 x) ∧ w'.cell? ⟨w.heap.size, 5, none⟩ = some (.int .i64 y) ∧ w'.cell? ⟨w.heap.size + 1, 0, none⟩ = some (.int .i64 s) ∧ w'.cell? ⟨w.heap.size + 1, 1, none⟩ = some (.int .i64 t)) (go_keep) ((go_at_call 124; refine (scaled_any _ _ (by omega) (by omega)).mono ?_; rintro e w' ⟨rfl, rfl⟩))
  go_wp2_with fail
  refine (inRange_any _ _ _).mono ?_
  rintro e w2 ⟨rfl, hb2⟩
  obtain ⟨hc2, hfz2⟩ := bcell hb2
  have hz2' : w1.heap.size < w2.heap.size := by have := hb2.size; simp at this; omega
  have hb3 : Below w.heap.size w w2 := Below.trans (by have := HB.out; (repeat (any_goals (first | exact Below.refl _ _ | assumption | refine Below.drew ?_ | refine below_drewN ?_ _ | refine Below.setCell ?_ ?_ _ | refine Below.alloc ?_ ?_ _ | omega | (simp; done) | (simp; omega))))) (hb2.mono (by simp; omega))
  clear hb2
  have HB3 := hide hb3
  clear hb3
  have q20 : w2.cell? ⟨w.heap.size + 1 + 1, 0, none⟩ = some (.int .i64 0) := by rw [hc2 _ _ (by simp; omega)]; go_simp
  have q21 : w2.cell? ⟨w.heap.size + 1 + 1, 1, none⟩ = some (.int .i64 0) := by rw [hc2 _ _ (by simp; omega)]; go_simp
  have z20 : w2.frozen? ⟨w.heap.size + 1 + 1, 0, none⟩ = false := by rw [hfz2 _ _ (by simp; omega)]; go_simp
  have z21 : w2.frozen? ⟨w.heap.size + 1 + 1, 1, none⟩ = false := by rw [hfz2 _ _ (by simp; omega)]; go_simp
  have u20 : w2.cell? ⟨w1.heap.size, 0, none⟩ = some (.int .i64 (x + Num.hu (a * s + b * t) 2048)) := by rw [hc2 _ _ (by simp)]; go_simp
  have u21 : w2.cell? ⟨w1.heap.size, 1, none⟩ = some (.int .i64 (y + Num.hu (c * s + d * t) 2048)) := by rw [hc2 _ _ (by simp)]; go_simp
  have hz3 : w.heap.size + 1 + 1 < w2.heap.size := by omega
  clear hc2 hfz2 q0 q1 z0 z1 c0 c1 c2 c3 c4 c5 e0 e1 p1 p2 p3 p4 p5 p6 p7 p8
  cases hi : Num.inB (x + Num.hu (a * s + b * t) 2048) (y + Num.hu (c * s + d * t) 2048)
  · have hV : Num.placeV a b c d x y s t = (0, 0, 6) := by unfold Num.placeV; rw [hs, ht, hf, hi]; rfl
    have HV := hide hV
    clear hV
    go_wp2
    refine bodyPost_ret (v := .tuple #[.agg #[.int .i64 0, .int .i64 0], .int .i64 6]) (by simp [results, Try.results92, go_sem, q20, q21]) rfl ⟨by rw [HV.out], ?_⟩
    have := HB3.out
    (repeat (any_goals (first | exact Below.refl _ _ | assumption | refine Below.drew ?_ | refine below_drewN ?_ _ | refine Below.setCell ?_ ?_ _ | refine Below.alloc ?_ ?_ _ | omega | (simp; done) | (simp; omega))))
  · have hV : Num.placeV a b c d x y s t = (x + Num.hu (a * s + b * t) 2048, y + Num.hu (c * s + d * t) 2048, 0) := by unfold Num.placeV; rw [hs, ht, hf, hi]; rfl
    have HV := hide hV
    clear hV
    go_wp2
    refine bodyPost_ret (v := .tuple #[.agg #[.int .i64 (x + Num.hu (a * s + b * t) 2048), .int .i64 (y + Num.hu (c * s + d * t) 2048)], .int .i64 0]) (by simp [results, Try.results92, go_sem, q20, q21]) rfl ⟨by rw [HV.out], ?_⟩
    have := HB3.out
    (repeat (any_goals (first | exact Below.refl _ _ | assumption | refine Below.drew ?_ | refine below_drewN ?_ _ | refine Below.setCell ?_ ?_ _ | refine Below.alloc ?_ ?_ _ | omega | (simp; done) | (simp; omega))))
end Go.Proofs.Ytkhcjkmifddlbaa

/- Crv -/
namespace Go.Proofs.Ytkhcjkmifddlbaa
open Go.RowKit

set_option maxHeartbeats 400000 in
theorem size_any (n : Int) (w : World) (h1 : -1000000 ≤ n) (h2 : n ≤ 1000000) :
    Calls Try.prog 153 #[.int .i64 n] w fun e w' => e = .returned (.int .i64 (Num.sz n)) ∧ w' = w := by
  by_cases a : n < 0
  · go_enter Try.func153, Try.ntmps153
    go_wp2
    go_ret
    exact ⟨ret_int (by unfold Num.sz; rw [if_pos (by omega)]), rfl⟩
  · go_enter Try.func153, Try.ntmps153
    go_wp2
    go_ret
    exact ⟨ret_int (by unfold Num.sz; rw [if_neg (by omega)]), rfl⟩

set_option maxHeartbeats 400000 in
theorem greater_any (a b : Int) (w : World) :
    Calls Try.prog 134 #[.int .i64 a, .int .i64 b] w fun e w' => e = .returned (.int .i64 (Num.gr a b)) ∧ w' = w := by
  by_cases h : b < a
  · go_enter Try.func134, Try.ntmps134
    go_wp2
    go_ret
    exact ⟨ret_int (by unfold Num.gr; rw [if_pos (by omega)]), rfl⟩
  · go_enter Try.func134, Try.ntmps134
    go_wp2
    go_ret
    exact ⟨ret_int (by unfold Num.gr; rw [if_neg (by omega)]), rfl⟩

set_option maxHeartbeats 400000 in
theorem bend_any (ax ay bx b2 cx cy : Int) (w : World) (h1 : -16384 ≤ ax ∧ ax ≤ 16384) (h2 : -16384 ≤ ay ∧ ay ≤ 16384) (h3 : -16384 ≤ bx ∧ bx ≤ 16384) (h4 : -16384 ≤ b2 ∧ b2 ≤ 16384) (h5 : -16384 ≤ cx ∧ cx ≤ 16384) (h6 : -16384 ≤ cy ∧ cy ≤ 16384) :
    Calls Try.prog 133 #[.agg #[.int .i64 ax, .int .i64 ay], .agg #[.int .i64 bx, .int .i64 b2], .agg #[.int .i64 cx, .int .i64 cy]] w fun e w' => e = .returned (.int .i64 (Num.bendV ax ay bx b2 cx cy)) ∧ Below w.heap.size w w' := by
  go_enter Try.func133, Try.ntmps133
  go_wp2_with (first | (go_at_call 153; refine (size_any _ _ (by omega) (by omega)).mono ?_; rintro e w' ⟨rfl, rfl⟩) | (go_at_call 134; refine (greater_any _ _ _).mono ?_; rintro e w' ⟨rfl, rfl⟩))
  go_ret
  exact ⟨rfl, by (repeat (any_goals (first | exact Below.refl _ _ | assumption | refine Below.drew ?_ | refine below_drewN ?_ _ | refine Below.setCell ?_ ?_ _ | refine Below.alloc ?_ ?_ _ | omega | (simp; done) | (simp; omega))))⟩

set_option maxHeartbeats 400000 in
theorem inRange_exact (x y : Int) (w : World) :
    Calls Try.prog 125 #[.agg #[.int .i64 x, .int .i64 y]] w fun e w' => e = .returned (.bool (Num.inB x y)) ∧ w' = w.alloc (.cells #[.int .i64 x, .int .i64 y] 41) := by
  go_enter Try.func125, Try.ntmps125
  go_wp2_with (go_at_call 122; refine (within_any _ _ _ (by omega) (by omega)).mono ?_; rintro e w' ⟨rfl, rfl⟩)
  all_goals
    go_ret
    exact ⟨ret_bool (by simp [Num.inB, *]), rfl⟩

set_option maxHeartbeats 1000000 in
theorem segRange_any (k x0 y0 x1 y1 x2 y2 x3 y3 : Int) (w : World) :
    Calls Try.prog 106 #[.agg #[.int .i64 k, .int .i64 x0, .int .i64 y0, .int .i64 x1, .int .i64 y1, .int .i64 x2, .int .i64 y2, .int .i64 x3, .int .i64 y3]] w fun e w' => e = .returned (.bool (Num.rangeB ⟨k, x0, y0, x1, y1, x2, y2, x3, y3⟩)) ∧ Below w.heap.size w w' := by
  by_cases h1 : k = 1
  · subst h1
    go_enter Try.func106, Try.ntmps106
    go_wp2_with (go_at_call 125; refine (inRange_exact _ _ _).mono ?_; rintro e w' ⟨rfl, rfl⟩)
    all_goals
      go_ret
      exact ⟨ret_bool (by simp [Num.rangeB, *]), by (repeat (any_goals (first | exact Below.refl _ _ | assumption | refine Below.drew ?_ | refine below_drewN ?_ _ | refine Below.setCell ?_ ?_ _ | refine Below.alloc ?_ ?_ _ | omega | (simp; done) | (simp; omega))))⟩
  · by_cases h2 : k = 2
    · subst h2
      go_enter Try.func106, Try.ntmps106
      go_wp2_with (go_at_call 125; refine (inRange_exact _ _ _).mono ?_; rintro e w' ⟨rfl, rfl⟩)
      all_goals
        go_ret
        exact ⟨ret_bool (by simp [Num.rangeB, *]), by (repeat (any_goals (first | exact Below.refl _ _ | assumption | refine Below.drew ?_ | refine below_drewN ?_ _ | refine Below.setCell ?_ ?_ _ | refine Below.alloc ?_ ?_ _ | omega | (simp; done) | (simp; omega))))⟩
    · have b1 : (k == 1) = false := by simpa using h1
      have b2 : (k == 2) = false := by simpa using h2
      go_enter Try.func106, Try.ntmps106
      go_wp2_with (go_at_call 125; refine (inRange_exact _ _ _).mono ?_; rintro e w' ⟨rfl, rfl⟩)
      all_goals
        go_ret
        exact ⟨ret_bool (by simp [Num.rangeB, *]), by (repeat (any_goals (first | exact Below.refl _ _ | assumption | refine Below.drew ?_ | refine below_drewN ?_ _ | refine Below.setCell ?_ ?_ _ | refine Below.alloc ?_ ?_ _ | omega | (simp; done) | (simp; omega))))⟩

set_option maxHeartbeats 400000 in
theorem quadAt_any (a b c i n : Int) (w : World) (ha : -16384 ≤ a ∧ a ≤ 16384) (hb : -16384 ≤ b ∧ b ≤ 16384) (hc : -16384 ≤ c ∧ c ≤ 16384) (hi : 0 ≤ i) (hin : i ≤ n) (h1 : 1 ≤ n) (hn : n ≤ 111) :
    Calls Try.prog 135 #[.int .i64 a, .int .i64 b, .int .i64 c, .int .i64 i, .int .i64 n] w fun e w' => e = .returned (.int .i64 (Num.hu (Num.qSum (n - i) i a b c) (n * n))) ∧ w' = w := by
  have k0 : -111 ≤ n - i ∧ n - i ≤ 111 := by omega
  have i0 : -111 ≤ i ∧ i ≤ 111 := by omega
  have n0 : -111 ≤ n ∧ n ≤ 111 := by omega
  have m1 := Num.mul_bd (n - i) (n - i) _ _ k0 k0
  have m2 := Num.mul3_bd k0 k0 ha
  have m3 := Num.mul3_bd (a := 2 * i) (A := 222) (by omega) k0 hb
  have m4 := Num.mul_bd (2 * i) (n - i) 222 _ (by omega) k0
  have m5 := Num.mul_bd i i _ _ i0 i0
  have m6 := Num.mul3_bd i0 i0 hc
  have m7 := Num.mul_bd n n _ _ n0 n0
  have m8 : 1 ≤ n * n := by have := Int.mul_le_mul h1 h1 (by omega) (by omega); omega
  clear k0 i0 n0
  go_enter Try.func135, Try.ntmps135
  go_wp2_with (go_at_call 148; refine (halfUp_any _ _ _ (by omega) (by omega) (by omega) (by omega)).mono ?_; rintro e w' ⟨rfl, rfl⟩)
  go_ret
  exact ⟨rfl, rfl⟩

set_option maxHeartbeats 400000 in
theorem cubicAt_any (a b c d i n : Int) (w : World) (ha : -16384 ≤ a ∧ a ≤ 16384) (hb : -16384 ≤ b ∧ b ≤ 16384) (hc : -16384 ≤ c ∧ c ≤ 16384) (hd : -16384 ≤ d ∧ d ≤ 16384) (hi : 0 ≤ i) (hin : i ≤ n) (h1 : 1 ≤ n) (hn : n ≤ 111) :
    Calls Try.prog 136 #[.int .i64 a, .int .i64 b, .int .i64 c, .int .i64 d, .int .i64 i, .int .i64 n] w fun e w' => e = .returned (.int .i64 (Num.hu (Num.cSum (n - i) i a b c d) (n * n * n))) ∧ w' = w := by
  have k0 : -111 ≤ n - i ∧ n - i ≤ 111 := by omega
  have i0 : -111 ≤ i ∧ i ≤ 111 := by omega
  have n0 : -111 ≤ n ∧ n ≤ 111 := by omega
  have j0 : -333 ≤ 3 * i ∧ 3 * i ≤ 333 := by omega
  have m1 := Num.mul_bd (n - i) (n - i) _ _ k0 k0
  have m2 := Num.mul3_bd k0 k0 k0
  have m3 := Num.mul4_bd k0 k0 k0 ha
  have m4 := Num.mul_bd (3 * i) (n - i) _ _ j0 k0
  have m5 := Num.mul3_bd j0 k0 k0
  have m6 := Num.mul4_bd j0 k0 k0 hb
  have m7 := Num.mul_bd (3 * i) i _ _ j0 i0
  have m8 := Num.mul3_bd j0 i0 k0
  have m9 := Num.mul4_bd j0 i0 k0 hc
  have p1 := Num.mul_bd i i _ _ i0 i0
  have p2 := Num.mul3_bd i0 i0 i0
  have p3 := Num.mul4_bd i0 i0 i0 hd
  have p4 := Num.mul_bd n n _ _ n0 n0
  have p5 := Num.mul3_bd n0 n0 n0
  have p6 : 1 ≤ n * n := by have := Int.mul_le_mul h1 h1 (by omega) (by omega); omega
  have p7 : 1 ≤ n * n * n := by have := Int.mul_le_mul p6 h1 (by omega) (by omega); omega
  have HS : Hid ((n - i) * (n - i) * (n - i) * a + 3 * i * (n - i) * (n - i) * b + (3 * i * i * (n - i) * c + i * i * i * d) = Num.cSum (n - i) i a b c d) := by unfold Hid Num.cSum; omega
  clear k0 i0 n0 j0
  go_enter Try.func136, Try.ntmps136
  go_wp2_with (go_at_call 148; refine (halfUp_any _ _ _ (by omega) (by omega) (by omega) (by omega)).mono ?_; rintro e w' ⟨rfl, rfl⟩)
  go_ret
  exact ⟨ret_int (by rw [HS.out]), rfl⟩

/-- The loop of chords. -/
theorem steps_round {d q S : Int} (h : Num.IsSteps d S) (h1 : 1 ≤ q) (h2 : q ≤ S) : (16 * q * q < d → q + 1 ≤ S) ∧ (¬ 16 * q * q < d → q = S) := by
  constructor
  · intro h3
    rcases Int.lt_or_le q S with h4 | h4
    · omega
    · have : q = S := by omega
      subst this
      have := h.2.1
      omega
  · intro h3
    rcases Int.lt_or_le q S with h4 | h4
    · have := h.2.2 q h1 h4; omega
    · omega
end Go.Proofs.Ytkhcjkmifddlbaa

/- Lists -/
namespace Go.Proofs.Ytkhcjkmifddlbaa
open Go.RowKit Go.Deep

/-- The cells of a row of points. -/
def pc (X Y K : Nat → Int) (q : Nat) : Value := .int .i64 (if q % 3 = 0 then X (q / 3) else if q % 3 = 1 then Y (q / 3) else K (q / 3))
theorem pc0 (X Y K : Nat → Int) (k : Nat) : pc X Y K (k * 3) = .int .i64 (X k) := by
  unfold pc; rw [if_pos (by omega), show k * 3 / 3 = k by omega]
theorem pc1 (X Y K : Nat → Int) (k : Nat) : pc X Y K (k * 3 + 1) = .int .i64 (Y k) := by
  unfold pc; rw [if_neg (by omega), if_pos (by omega), show (k * 3 + 1) / 3 = k by omega]
theorem pc2 (X Y K : Nat → Int) (k : Nat) : pc X Y K (k * 3 + 2) = .int .i64 (K k) := by
  unfold pc; rw [if_neg (by omega), if_neg (by omega), show (k * 3 + 2) / 3 = k by omega]
theorem pc_congr {X Y K X' Y' K' : Nat → Int} {m : Nat} (h : ∀ k, k < m → X k = X' k ∧ Y k = Y' k ∧ K k = K' k) (q : Nat) (hq : q < m * 3) : pc X Y K q = pc X' Y' K' q := by
  obtain ⟨a, b, c⟩ := h (q / 3) (by omega)
  unfold pc
  rw [a, b, c]

/-- Three stores: point k of a row of points. -/
theorem row_setPt {w : World} {b : Nat} {t : TypeId} {m : Nat} {X Y K : Nat → Int} (h : w.rowIs b t (m * 3) (pc X Y K)) (k : Nat) (x y z : Int) :
    (((w.setCell ⟨b, k * 3, none⟩ (.int .i64 x)).setCell ⟨b, k * 3 + 1, none⟩ (.int .i64 y)).setCell ⟨b, k * 3 + 2, none⟩ (.int .i64 z)).rowIs b t (m * 3) (pc (fun j => if j = k then x else X j) (fun j => if j = k then y else Y j) (fun j => if j = k then z else K j)) := by
  refine (((h.set (k * 3) _).set (k * 3 + 1) _).set (k * 3 + 2) _).congr fun q hq => ?_
  by_cases e2 : q = k * 3 + 2
  · subst e2; rw [if_pos rfl, pc2, if_pos rfl]
  rw [if_neg e2]
  by_cases e1 : q = k * 3 + 1
  · subst e1; rw [if_pos rfl, pc1, if_pos rfl]
  rw [if_neg e1]
  by_cases e0 : q = k * 3
  · subst e0; rw [if_pos rfl, pc0, if_pos rfl]
  rw [if_neg e0]
  have e3 : ¬ q / 3 = k := by omega
  simp only [pc, if_neg e3]

theorem row_below {w w' : World} {B b : Nat} {t : TypeId} {n : Nat} {f : Nat → Value} (h : w.rowIs b t n f) (hb : Below B w w') (hlt : b < B) : w'.rowIs b t n f :=
  h.of_block (hb.block b hlt)

theorem row_cells {w : World} {b : Nat} {t : TypeId} {m : Nat} {X Y K : Nat → Int} (h : w.rowIs b t (m * 3) (pc X Y K)) (k : Nat) (hk : k < m) :
    w.cell? ⟨b, k * 3, none⟩ = some (.int .i64 (X k)) ∧ w.cell? ⟨b, k * 3 + 1, none⟩ = some (.int .i64 (Y k)) ∧ w.cell? ⟨b, k * 3 + 2, none⟩ = some (.int .i64 (K k)) := by
  refine ⟨?_, ?_, ?_⟩
  · rw [h.cell (by omega), pc0]
  · rw [h.cell (by omega), pc1]
  · rw [h.cell (by omega), pc2]

/-- Two rows of different element types lie in different blocks. -/
theorem row_ne {w : World} {b b' : Nat} {t t' : TypeId} {n n' : Nat} {f f' : Nat → Value} (h : w.rowIs b t n f) (h' : w.rowIs b' t' n' f') (ht : t ≠ t') : b ≠ b' := by
  intro e
  subst e
  obtain ⟨c, hb, _⟩ := h
  obtain ⟨c', hb', _⟩ := h'
  rw [hb] at hb'
  simp at hb'
  exact ht hb'.2

/-- What make lays for points. -/
theorem row_made3 (w : World) (m : Nat) (t : TypeId) : (w.alloc (.cells (madeCells #[.int .i64 0, .int .i64 0, .int .i64 0] (m * 3)) t)).rowIs w.heap.size t (m * 3) (pc (fun _ => 0) (fun _ => 0) (fun _ => 0)) := by
  refine ⟨_, blk_alloc_new _ _, size_madeCells _ _, fun i hi => ?_⟩
  have e : pc (fun _ => 0) (fun _ => 0) (fun _ => 0) i = .int .i64 0 := by unfold pc; split <;> (try split) <;> rfl
  rw [e]
  rcases (show i % 3 = 0 ∨ i % 3 = 1 ∨ i % 3 = 2 by omega) with h | h | h <;> simp [madeCells, hi, h]

/-- The length of list i, among N lists and two more that are empty. -/
def ln (N : Nat) (n : Nat → Nat) (i : Nat) : Nat := if i < N then n i else 0
/-- What lies in the lists: the points, and ink behind them. -/
def lx (l : Nat) (X : Nat → Int) (k : Nat) : Int := if k < l then X k else 1099511627776
def ly (l : Nat) (X : Nat → Int) (k : Nat) : Int := if k < l then X k else -7
def lk (l : Nat) (X : Nat → Int) (k : Nat) : Int := if k < l then X k else 9

/-- An outline that was lent: its outer list at block ob, list i at block B i. -/
structure Lent (w : World) (base ob N : Nat) (B n : Nat → Nat) (X Y K : Nat → Nat → Int) : Prop where
  outer : w.rowIs ob 62 (N + 2) (fun i => .slice (some ⟨B i, 0, none⟩) (ln N n i) (ln N n i + 2))
  ge : base ≤ ob
  geB : ∀ i, i < N + 2 → base ≤ B i
  inj : ∀ i j, i < N + 2 → j < N + 2 → B i = B j → i = j
  inner : ∀ i, i < N + 2 → w.rowIs (B i) 133 ((ln N n i + 2) * 3) (pc (lx (ln N n i) (X i)) (ly (ln N n i) (Y i)) (lk (ln N n i) (K i)))

theorem Lent.below {w w' : World} {base ob N : Nat} {B n : Nat → Nat} {X Y K : Nat → Nat → Int} (h : Lent w base ob N B n X Y K) (hb : Below w.heap.size w w') : Lent w' base ob N B n X Y K :=
  ⟨row_below h.outer hb h.outer.lt, h.ge, h.geB, h.inj, fun i hi => row_below (h.inner i hi) hb (h.inner i hi).lt⟩

/-- What was lent reads as the outline. -/
theorem Lent.out {w : World} {base ob N : Nat} {B n : Nat → Nat} {X Y K : Nat → Nat → Int} (h : Lent w base ob N B n X Y K) :
    OutAt w (some ⟨ob, 0, none⟩) N (fun i => some ⟨B i, 0, none⟩) (fun i => n i + 2) n X Y K := by
  refine ⟨Or.inr ⟨ob, 0, rfl, fun i hi => ?_⟩, fun i hi => Or.inr ⟨B i, 0, rfl, fun k hk => ?_⟩⟩
  · have := h.outer.cell (i := i) (by omega)
    simp only [ln, if_pos hi] at this
    simpa using this
  · have := row_cells (h.inner i (by omega)) k (by simp [ln, hi]; omega)
    simp only [ln, if_pos hi, lx, ly, lk, if_pos hk] at this
    simpa using this
end Go.Proofs.Ytkhcjkmifddlbaa

/- Held -/
namespace Go.Proofs.Ytkhcjkmifddlbaa
open Go.RowKit Go.Deep

/-- The cells of a list of points, all marks. -/
def mkP (k : Int) (q : Nat) : Value := pc (fun _ => 2199023255552 + k) (fun _ => -7) (fun _ => 9) q
/-- The cells of a list of segments, all marks. -/
def mkS (k : Int) (q : Nat) : Value := .int .i64 (if q % 9 = 0 then 9 else if q % 9 % 2 = 1 then 2199023255552 + k else -7)

/-- The cells of a list of spots, all marks. -/
def mkT (k : Int) (q : Nat) : Value := .int .i64 (if q % 2 = 0 then 2199023255552 + k else -7)

/-- The number that stands at place q of bytes that are all marks. -/
def mkB (k : Int) (q : Nat) : Value := .int .u8 (IntKind.u8.wrap (k + (q : Int) * (1 + k / 256)))

/-- What is held. -/
structure HS where
  n : Int
  cs : Value
  rs : Value
  vP : Value
  vO : Value
  vS : Value
  vT : Value
  vR : Value
  vB : Value
  P : List (Nat × Nat × Int)
  O : List (Nat × Nat × (Nat → Nat) × Int)
  S : List (Option Nat × Nat × Int)
  T : List (Option Nat × Nat × Int)
  R : List (Option Nat × Nat × (Nat → Nat) × Int)
  B : List (Option Nat × Nat × Int)

/-- The cells of the caller's world. -/
def wc (s : HS) (q : Nat) : Value :=
  if q = 0 then s.cs else if q = 1 then s.rs else if q = 2 then .int .i64 s.n else if q = 3 then s.vP else if q = 4 then s.vO else if q = 5 then s.vS else if q = 6 then s.vT else if q = 7 then s.vR else s.vB

def peC (e : Nat × Nat × Int) : List Value := [.slice (some ⟨e.1, 0, none⟩) e.2.1 e.2.1, .int .i64 e.2.2]
def oeC (e : Nat × Nat × (Nat → Nat) × Int) : List Value := [.slice (some ⟨e.1, 0, none⟩) e.2.1 e.2.1, .int .i64 e.2.2.2]
def seC (e : Option Nat × Nat × Int) : List Value := [.slice (e.1.map fun b => ⟨b, 0, none⟩) e.2.1 e.2.1, .int .i64 e.2.2]

def reC (e : Option Nat × Nat × (Nat → Nat) × Int) : List Value := [.slice (e.1.map fun b => ⟨b, 0, none⟩) e.2.1 e.2.1, .int .i64 e.2.2.2]

/-- All that is held reads as its mark. -/
structure HeldInv (w : World) (h : Nat) (s : HS) : Prop where
  wd : w.rowIs h 35 9 (wc s)
  oP : w.ownsRow h 158 2 s.vP s.P.length (s.P.flatMap peC)
  oO : w.ownsRow h 160 2 s.vO s.O.length (s.O.flatMap oeC)
  oS : w.ownsRow h 111 2 s.vS s.S.length (s.S.flatMap seC)
  eP : ∀ e ∈ s.P, w.rowIs e.1 133 (e.2.1 * 3) (mkP e.2.2)
  eO : ∀ e ∈ s.O, w.rowIs e.1 62 e.2.1 (fun i => .slice (some ⟨e.2.2.1 i, 0, none⟩) 1 1)
  eI : ∀ e ∈ s.O, ∀ i, i < e.2.1 → w.rowIs (e.2.2.1 i) 133 3 (mkP e.2.2.2)
  eS : ∀ e ∈ s.S, ∀ b, e.1 = some b → w.rowIs b 44 (e.2.1 * 9) (mkS e.2.2)
  eN : ∀ e ∈ s.S, e.1 = none → e.2.1 = 0
  lo : (s.P.length : Int) + (s.O.length : Int) + (s.S.length : Int) + (s.T.length : Int) + (s.R.length : Int) + (s.B.length : Int) ≤ s.n
  hi : s.n ≤ 1099511627776
  mP : ∀ e ∈ s.P, 0 ≤ e.2.2 ∧ e.2.2 ≤ 1099511627776 ∧ e.2.1 ≤ 1099511627776
  mO : ∀ e ∈ s.O, 0 ≤ e.2.2.2 ∧ e.2.2.2 ≤ 1099511627776 ∧ e.2.1 ≤ 1099511627776
  mS : ∀ e ∈ s.S, 0 ≤ e.2.2 ∧ e.2.2 ≤ 1099511627776 ∧ (e.2.1 : Int) ≤ 9223372036854775807
  oT : w.ownsRow h 164 2 s.vT s.T.length (s.T.flatMap seC)
  oR : w.ownsRow h 166 2 s.vR s.R.length (s.R.flatMap reC)
  eT : ∀ e ∈ s.T, ∀ b, e.1 = some b → w.rowIs b 41 (e.2.1 * 2) (mkT e.2.2)
  eU : ∀ e ∈ s.T, e.1 = none → e.2.1 = 0
  eR : ∀ e ∈ s.R, ∀ b, e.1 = some b → w.rowIs b 48 e.2.1 (fun i => .slice (some ⟨e.2.2.1 i, 0, none⟩) 1 1)
  eJ : ∀ e ∈ s.R, ∀ i, i < e.2.1 → w.rowIs (e.2.2.1 i) 41 2 (mkT e.2.2.2)
  eM : ∀ e ∈ s.R, e.1 = none → e.2.1 = 0
  mT : ∀ e ∈ s.T, 0 ≤ e.2.2 ∧ e.2.2 ≤ 1099511627776 ∧ (e.2.1 : Int) ≤ 9223372036854775807
  mR : ∀ e ∈ s.R, 0 ≤ e.2.2.2 ∧ e.2.2.2 ≤ 1099511627776 ∧ (e.2.1 : Int) ≤ 9223372036854775807
  oB : w.ownsRow h 114 2 s.vB s.B.length (s.B.flatMap seC)
  eB : ∀ e ∈ s.B, ∀ b, e.1 = some b → w.rowIs b 5 e.2.1 (mkB e.2.2)
  eV : ∀ e ∈ s.B, e.1 = none → e.2.1 = 0
  mB : ∀ e ∈ s.B, 0 ≤ e.2.2 ∧ e.2.2 ≤ 1099511627776 ∧ (e.2.1 : Int) ≤ 9223372036854775807

/-- The blocks in which it lies. -/
def Used (h : Nat) (s : HS) (b : Nat) : Prop :=
  b = h ∨ s.vP.ownBlock = some b ∨ s.vO.ownBlock = some b ∨ s.vS.ownBlock = some b ∨ (∃ e ∈ s.P, e.1 = b) ∨ (∃ e ∈ s.O, e.1 = b) ∨ (∃ e ∈ s.O, ∃ i, i < e.2.1 ∧ e.2.2.1 i = b) ∨ (∃ e ∈ s.S, e.1 = some b) ∨
  s.vT.ownBlock = some b ∨ s.vR.ownBlock = some b ∨ (∃ e ∈ s.T, e.1 = some b) ∨ (∃ e ∈ s.R, e.1 = some b) ∨ (∃ e ∈ s.R, ∃ i, i < e.2.1 ∧ e.2.2.1 i = b) ∨ s.vB.ownBlock = some b ∨ (∃ e ∈ s.B, e.1 = some b)

theorem owns_of_block {w w' : World} {base : Nat} {t : TypeId} {sz : Nat} {v : Value} {n : Nat} {xs : List Value} (h : w.ownsRow base t sz v n xs) (e : ∀ b, v.ownBlock = some b → w'.heap[b]? = w.heap[b]?) : w'.ownsRow base t sz v n xs := by
  refine ⟨h.1, ?_⟩
  rcases h.2 with hn | ⟨g, cap, cur, rfl, hb, hg, rest⟩
  · exact .inl hn
  · exact .inr ⟨g, cap, cur, rfl, hb, (e g rfl).trans hg, rest⟩

theorem HeldInv.of_blocks {w w' : World} {h : Nat} {s : HS} (H : HeldInv w h s) (e : ∀ b, Used h s b → w'.heap[b]? = w.heap[b]?) : HeldInv w' h s where
  wd := H.wd.of_block (e h (.inl rfl))
  oP := owns_of_block H.oP fun b hb => e b (by unfold Used; simp [hb])
  oO := owns_of_block H.oO fun b hb => e b (by unfold Used; simp [hb])
  oS := owns_of_block H.oS fun b hb => e b (by unfold Used; simp [hb])
  eP x hx := (H.eP x hx).of_block (e _ (.inr (.inr (.inr (.inr (.inl ⟨x, hx, rfl⟩))))))
  eO x hx := (H.eO x hx).of_block (e _ (.inr (.inr (.inr (.inr (.inr (.inl ⟨x, hx, rfl⟩)))))))
  eI x hx i hi := (H.eI x hx i hi).of_block (e _ (.inr (.inr (.inr (.inr (.inr (.inr (.inl ⟨x, hx, i, hi, rfl⟩))))))))
  eS x hx b hb := (H.eS x hx b hb).of_block (e _ (.inr (.inr (.inr (.inr (.inr (.inr (.inr (.inl ⟨x, hx, hb⟩)))))))))
  eN := H.eN
  lo := H.lo
  hi := H.hi
  mP := H.mP
  mO := H.mO
  mS := H.mS
  oT := owns_of_block H.oT fun b hb => e b (by unfold Used; simp [hb])
  oR := owns_of_block H.oR fun b hb => e b (by unfold Used; simp [hb])
  eT x hx b hb := (H.eT x hx b hb).of_block (e _ (.inr (.inr (.inr (.inr (.inr (.inr (.inr (.inr (.inr (.inr (.inl ⟨x, hx, hb⟩))))))))))))
  eU := H.eU
  eR x hx b hb := (H.eR x hx b hb).of_block (e _ (.inr (.inr (.inr (.inr (.inr (.inr (.inr (.inr (.inr (.inr (.inr (.inl ⟨x, hx, hb⟩)))))))))))))
  eJ x hx i hi := (H.eJ x hx i hi).of_block (e _ (.inr (.inr (.inr (.inr (.inr (.inr (.inr (.inr (.inr (.inr (.inr (.inr (.inl ⟨x, hx, i, hi, rfl⟩))))))))))))))
  eM := H.eM
  mT := H.mT
  mR := H.mR
  oB := owns_of_block H.oB fun b hb => e b (by unfold Used; simp [hb])
  eB x hx b hb := (H.eB x hx b hb).of_block (e _ (.inr (.inr (.inr (.inr (.inr (.inr (.inr (.inr (.inr (.inr (.inr (.inr (.inr (.inr ⟨x, hx, hb⟩)))))))))))))))
  eV := H.eV
  mB := H.mB

theorem HeldInv.used_lt {w : World} {h : Nat} {s : HS} (H : HeldInv w h s) {b : Nat} (u : Used h s b) : b < w.heap.size := by
  rcases u with rfl | u | u | u | ⟨x, hx, rfl⟩ | ⟨x, hx, rfl⟩ | ⟨x, hx, i, hi, rfl⟩ | ⟨x, hx, hb⟩ | u | u | ⟨x, hx, hb⟩ | ⟨x, hx, hb⟩ | ⟨x, hx, i, hi, rfl⟩ | u | ⟨x, hx, hb⟩
  · exact H.wd.lt
  · exact (H.oP.lt b u).2
  · exact (H.oO.lt b u).2
  · exact (H.oS.lt b u).2
  · exact (H.eP x hx).lt
  · exact (H.eO x hx).lt
  · exact (H.eI x hx i hi).lt
  · exact (H.eS x hx b hb).lt
  · exact (H.oT.lt b u).2
  · exact (H.oR.lt b u).2
  · exact (H.eT x hx b hb).lt
  · exact (H.eR x hx b hb).lt
  · exact (H.eJ x hx i hi).lt
  · exact (H.oB.lt b u).2
  · exact (H.eB x hx b hb).lt

theorem HeldInv.below {w w' : World} {h : Nat} {s : HS} (H : HeldInv w h s) (hb : Below w.heap.size w w') : HeldInv w' h s :=
  H.of_blocks fun b u => hb.block b (H.used_lt u)

/-- The element type of a block. -/
def tyOf (w : World) (b : Nat) : Option TypeId := match w.heap[b]? with
  | some (.cells _ t _) => some t
  | _ => none
theorem row_ty {w : World} {b : Nat} {t : TypeId} {n : Nat} {f : Nat → Value} (h : w.rowIs b t n f) : tyOf w b = some t := by
  obtain ⟨c, hb, _⟩ := h
  simp [tyOf, hb]
theorem owns_ty {w : World} {base : Nat} {t : TypeId} {sz : Nat} {v : Value} {n : Nat} {xs : List Value} (h : w.ownsRow base t sz v n xs) {b : Nat} (hb : v.ownBlock = some b) : tyOf w b = some t := by
  rcases h.2 with ⟨rfl, _⟩ | ⟨g, cap, cur, rfl, _, hg, _⟩
  · simp [Value.ownBlock] at hb
  · simp [Value.ownBlock] at hb
    subst hb
    simp [tyOf, hg]

/-- What is used is of these types, and where it is of a list's type it is one of the lists. -/
theorem HeldInv.used_pt {w : World} {h : Nat} {s : HS} (H : HeldInv w h s) {b : Nat} (u : Used h s b) (ht : tyOf w b = some 133) : (∃ e ∈ s.P, e.1 = b) ∨ ∃ e ∈ s.O, ∃ i, i < e.2.1 ∧ e.2.2.1 i = b := by
  rcases u with rfl | u | u | u | u | ⟨x, hx, rfl⟩ | u | ⟨x, hx, hb⟩ | u | u | ⟨x, hx, hb⟩ | ⟨x, hx, hb⟩ | ⟨x, hx, i, hi, rfl⟩ | u | ⟨x, hx, hb⟩
  · rw [row_ty H.wd] at ht; simp at ht
  · rw [owns_ty H.oP u] at ht; simp at ht
  · rw [owns_ty H.oO u] at ht; simp at ht
  · rw [owns_ty H.oS u] at ht; simp at ht
  · exact .inl u
  · rw [row_ty (H.eO x hx)] at ht; simp at ht
  · exact .inr u
  · rw [row_ty (H.eS x hx b hb)] at ht; simp at ht
  · rw [owns_ty H.oT u] at ht; simp at ht
  · rw [owns_ty H.oR u] at ht; simp at ht
  · rw [row_ty (H.eT x hx b hb)] at ht; simp at ht
  · rw [row_ty (H.eR x hx b hb)] at ht; simp at ht
  · rw [row_ty (H.eJ x hx i hi)] at ht; simp at ht
  · rw [owns_ty H.oB u] at ht; simp at ht
  · rw [row_ty (H.eB x hx b hb)] at ht; simp at ht
theorem HeldInv.used_pts {w : World} {h : Nat} {s : HS} (H : HeldInv w h s) {b : Nat} (u : Used h s b) (ht : tyOf w b = some 62) : ∃ e ∈ s.O, e.1 = b := by
  rcases u with rfl | u | u | u | ⟨x, hx, rfl⟩ | u | ⟨x, hx, i, hi, rfl⟩ | ⟨x, hx, hb⟩ | u | u | ⟨x, hx, hb⟩ | ⟨x, hx, hb⟩ | ⟨x, hx, i, hi, rfl⟩ | u | ⟨x, hx, hb⟩
  · rw [row_ty H.wd] at ht; simp at ht
  · rw [owns_ty H.oP u] at ht; simp at ht
  · rw [owns_ty H.oO u] at ht; simp at ht
  · rw [owns_ty H.oS u] at ht; simp at ht
  · rw [row_ty (H.eP x hx)] at ht; simp at ht
  · exact u
  · rw [row_ty (H.eI x hx i hi)] at ht; simp at ht
  · rw [row_ty (H.eS x hx b hb)] at ht; simp at ht
  · rw [owns_ty H.oT u] at ht; simp at ht
  · rw [owns_ty H.oR u] at ht; simp at ht
  · rw [row_ty (H.eT x hx b hb)] at ht; simp at ht
  · rw [row_ty (H.eR x hx b hb)] at ht; simp at ht
  · rw [row_ty (H.eJ x hx i hi)] at ht; simp at ht
  · rw [owns_ty H.oB u] at ht; simp at ht
  · rw [row_ty (H.eB x hx b hb)] at ht; simp at ht
theorem HeldInv.used_seg {w : World} {h : Nat} {s : HS} (H : HeldInv w h s) {b : Nat} (u : Used h s b) (ht : tyOf w b = some 44) : ∃ e ∈ s.S, e.1 = some b := by
  rcases u with rfl | u | u | u | ⟨x, hx, rfl⟩ | ⟨x, hx, rfl⟩ | ⟨x, hx, i, hi, rfl⟩ | u | u | u | ⟨x, hx, hb⟩ | ⟨x, hx, hb⟩ | ⟨x, hx, i, hi, rfl⟩ | u | ⟨x, hx, hb⟩
  · rw [row_ty H.wd] at ht; simp at ht
  · rw [owns_ty H.oP u] at ht; simp at ht
  · rw [owns_ty H.oO u] at ht; simp at ht
  · rw [owns_ty H.oS u] at ht; simp at ht
  · rw [row_ty (H.eP x hx)] at ht; simp at ht
  · rw [row_ty (H.eO x hx)] at ht; simp at ht
  · rw [row_ty (H.eI x hx i hi)] at ht; simp at ht
  · exact u
  · rw [owns_ty H.oT u] at ht; simp at ht
  · rw [owns_ty H.oR u] at ht; simp at ht
  · rw [row_ty (H.eT x hx b hb)] at ht; simp at ht
  · rw [row_ty (H.eR x hx b hb)] at ht; simp at ht
  · rw [row_ty (H.eJ x hx i hi)] at ht; simp at ht
  · rw [owns_ty H.oB u] at ht; simp at ht
  · rw [row_ty (H.eB x hx b hb)] at ht; simp at ht
theorem HeldInv.used_spot {w : World} {h : Nat} {s : HS} (H : HeldInv w h s) {b : Nat} (u : Used h s b) (ht : tyOf w b = some 41) : (∃ e ∈ s.T, e.1 = some b) ∨ ∃ e ∈ s.R, ∃ i, i < e.2.1 ∧ e.2.2.1 i = b := by
  rcases u with rfl | u | u | u | ⟨x, hx, rfl⟩ | ⟨x, hx, rfl⟩ | ⟨x, hx, i, hi, rfl⟩ | ⟨x, hx, hb⟩ | u | u | u | ⟨x, hx, hb⟩ | u | u | ⟨x, hx, hb⟩
  · rw [row_ty H.wd] at ht; simp at ht
  · rw [owns_ty H.oP u] at ht; simp at ht
  · rw [owns_ty H.oO u] at ht; simp at ht
  · rw [owns_ty H.oS u] at ht; simp at ht
  · rw [row_ty (H.eP x hx)] at ht; simp at ht
  · rw [row_ty (H.eO x hx)] at ht; simp at ht
  · rw [row_ty (H.eI x hx i hi)] at ht; simp at ht
  · rw [row_ty (H.eS x hx b hb)] at ht; simp at ht
  · rw [owns_ty H.oT u] at ht; simp at ht
  · rw [owns_ty H.oR u] at ht; simp at ht
  · exact .inl u
  · rw [row_ty (H.eR x hx b hb)] at ht; simp at ht
  · exact .inr u
  · rw [owns_ty H.oB u] at ht; simp at ht
  · rw [row_ty (H.eB x hx b hb)] at ht; simp at ht
theorem HeldInv.used_ring {w : World} {h : Nat} {s : HS} (H : HeldInv w h s) {b : Nat} (u : Used h s b) (ht : tyOf w b = some 48) : ∃ e ∈ s.R, e.1 = some b := by
  rcases u with rfl | u | u | u | ⟨x, hx, rfl⟩ | ⟨x, hx, rfl⟩ | ⟨x, hx, i, hi, rfl⟩ | ⟨x, hx, hb⟩ | u | u | ⟨x, hx, hb⟩ | u | ⟨x, hx, i, hi, rfl⟩ | u | ⟨x, hx, hb⟩
  · rw [row_ty H.wd] at ht; simp at ht
  · rw [owns_ty H.oP u] at ht; simp at ht
  · rw [owns_ty H.oO u] at ht; simp at ht
  · rw [owns_ty H.oS u] at ht; simp at ht
  · rw [row_ty (H.eP x hx)] at ht; simp at ht
  · rw [row_ty (H.eO x hx)] at ht; simp at ht
  · rw [row_ty (H.eI x hx i hi)] at ht; simp at ht
  · rw [row_ty (H.eS x hx b hb)] at ht; simp at ht
  · rw [owns_ty H.oT u] at ht; simp at ht
  · rw [owns_ty H.oR u] at ht; simp at ht
  · rw [row_ty (H.eT x hx b hb)] at ht; simp at ht
  · exact u
  · rw [row_ty (H.eJ x hx i hi)] at ht; simp at ht
  · rw [owns_ty H.oB u] at ht; simp at ht
  · rw [row_ty (H.eB x hx b hb)] at ht; simp at ht

theorem HeldInv.used_byte {w : World} {h : Nat} {s : HS} (H : HeldInv w h s) {b : Nat} (u : Used h s b) (ht : tyOf w b = some 5) : ∃ e ∈ s.B, e.1 = some b := by
  rcases u with rfl | u | u | u | ⟨x, hx, rfl⟩ | ⟨x, hx, rfl⟩ | ⟨x, hx, i, hi, rfl⟩ | ⟨x, hx, hb⟩ | u | u | ⟨x, hx, hb⟩ | ⟨x, hx, hb⟩ | ⟨x, hx, i, hi, rfl⟩ | u | u
  · rw [row_ty H.wd] at ht; simp at ht
  · rw [owns_ty H.oP u] at ht; simp at ht
  · rw [owns_ty H.oO u] at ht; simp at ht
  · rw [owns_ty H.oS u] at ht; simp at ht
  · rw [row_ty (H.eP x hx)] at ht; simp at ht
  · rw [row_ty (H.eO x hx)] at ht; simp at ht
  · rw [row_ty (H.eI x hx i hi)] at ht; simp at ht
  · rw [row_ty (H.eS x hx b hb)] at ht; simp at ht
  · rw [owns_ty H.oT u] at ht; simp at ht
  · rw [owns_ty H.oR u] at ht; simp at ht
  · rw [row_ty (H.eT x hx b hb)] at ht; simp at ht
  · rw [row_ty (H.eR x hx b hb)] at ht; simp at ht
  · rw [row_ty (H.eJ x hx i hi)] at ht; simp at ht
  · rw [owns_ty H.oB u] at ht; simp at ht
  · exact u

/-- All lists that are held lie below block T. -/
def HS.Under (s : HS) (T : Nat) : Prop := (∀ e ∈ s.P, e.1 < T) ∧ (∀ e ∈ s.O, e.1 < T ∧ ∀ i, i < e.2.1 → e.2.2.1 i < T) ∧ ∀ e ∈ s.S, ∀ b, e.1 = some b → b < T

theorem HeldInv.under {w : World} {h : Nat} {s : HS} (H : HeldInv w h s) : s.Under w.heap.size :=
  ⟨fun e he => (H.eP e he).lt, fun e he => ⟨(H.eO e he).lt, fun i hi => (H.eI e he i hi).lt⟩, fun e he b hb => (H.eS e he b hb).lt⟩

/-- A new mark's number. -/
theorem HeldInv.marked {w : World} {h : Nat} {s : HS} (H : HeldInv w h s) (hn : s.n + 1 ≤ 1099511627776) : HeldInv (w.setCell ⟨h, 2, none⟩ (.int .i64 (s.n + 1))) h { s with n := s.n + 1 } := by
  have hne : ∀ b, b ≠ h → (w.setCell ⟨h, 2, none⟩ (.int .i64 (s.n + 1))).heap[b]? = w.heap[b]? := fun b hb => blk_setCell_other _ _ _ _ (by simpa using hb)
  have ty := row_ty H.wd
  have P1 : ∀ b, tyOf w b ≠ some 35 → (w.setCell ⟨h, 2, none⟩ (.int .i64 (s.n + 1))).heap[b]? = w.heap[b]? := fun b hb => hne b (fun e => by rw [e] at hb; exact hb ty)
  refine { wd := ?_, oP := (owns_of_block H.oP fun b hb => P1 b (by rw [owns_ty H.oP hb]; decide)), oO := (owns_of_block H.oO fun b hb => P1 b (by rw [owns_ty H.oO hb]; decide)), oS := (owns_of_block H.oS fun b hb => P1 b (by rw [owns_ty H.oS hb]; decide)), oT := (owns_of_block H.oT fun b hb => P1 b (by rw [owns_ty H.oT hb]; decide)), oR := (owns_of_block H.oR fun b hb => P1 b (by rw [owns_ty H.oR hb]; decide)), eP := (fun x hx => (H.eP x hx).of_block (P1 _ (by rw [row_ty (H.eP x hx)]; decide))), eO := (fun x hx => (H.eO x hx).of_block (P1 _ (by rw [row_ty (H.eO x hx)]; decide))), eI := (fun x hx i hi => (H.eI x hx i hi).of_block (P1 _ (by rw [row_ty (H.eI x hx i hi)]; decide))), eS := (fun x hx b hb => (H.eS x hx b hb).of_block (P1 _ (by rw [row_ty (H.eS x hx b hb)]; decide))), eN := H.eN, lo := ?_, hi := hn, mP := H.mP, mO := H.mO, mS := H.mS, eT := (fun x hx b hb => (H.eT x hx b hb).of_block (P1 _ (by rw [row_ty (H.eT x hx b hb)]; decide))), eU := H.eU, eR := (fun x hx b hb => (H.eR x hx b hb).of_block (P1 _ (by rw [row_ty (H.eR x hx b hb)]; decide))), eJ := (fun x hx i hi => (H.eJ x hx i hi).of_block (P1 _ (by rw [row_ty (H.eJ x hx i hi)]; decide))), eM := H.eM, mT := H.mT, mR := H.mR, oB := (owns_of_block H.oB fun b hb => P1 b (by rw [owns_ty H.oB hb]; decide)), eB := (fun x hx b hb => (H.eB x hx b hb).of_block (P1 _ (by rw [row_ty (H.eB x hx b hb)]; decide))), eV := H.eV, mB := H.mB }
  · refine (H.wd.set 2 _).congr fun q hq => ?_
    by_cases e : q = 2
    · subst e; simp [wc]
    · simp only [if_neg e, wc]
  · have := H.lo; show (s.P.length : Int) + s.O.length + s.S.length + s.T.length + s.R.length + s.B.length ≤ s.n + 1; omega

/-- Nothing but blocks of S has been written. -/
structure Touch (S : Nat → Prop) (w w' : World) : Prop where
  os : w'.os = w.os
  tape : w'.tape = w.tape
  output : w'.output = w.output
  size : w.heap.size ≤ w'.heap.size
  block : ∀ b, b < w.heap.size → ¬ S b → w'.heap[b]? = w.heap[b]?
theorem Touch.refl (S : Nat → Prop) (w : World) : Touch S w w := ⟨rfl, rfl, rfl, Nat.le_refl _, fun _ _ _ => rfl⟩
theorem Touch.trans {S : Nat → Prop} {a b c : World} (h : Touch S a b) (k : Touch S b c) : Touch S a c :=
  ⟨k.os.trans h.os, k.tape.trans h.tape, k.output.trans h.output, Nat.le_trans h.size k.size, fun x hx hS => (k.block x (Nat.lt_of_lt_of_le hx h.size) hS).trans (h.block x hx hS)⟩
/-- New blocks may be written freely. -/
theorem Touch.trans' {S S' : Nat → Prop} {a b c : World} (h : Touch S a b) (k : Touch S' b c) (hS : ∀ x, S' x → S x ∨ a.heap.size ≤ x) : Touch S a c :=
  ⟨k.os.trans h.os, k.tape.trans h.tape, k.output.trans h.output, Nat.le_trans h.size k.size, fun x hx hn => (k.block x (Nat.lt_of_lt_of_le hx h.size) (fun e => by rcases hS x e with e | e; exact hn e; omega)).trans (h.block x hx hn)⟩
theorem Touch.setCell {S : Nat → Prop} {w w' : World} (h : Touch S w w') {p : Addr} (hp : S p.block ∨ w.heap.size ≤ p.block) (u : Value) : Touch S w (w'.setCell p u) :=
  ⟨h.os, h.tape, h.output, by rw [nblk_setCell]; exact h.size, fun x hx hS => by
    rw [blk_setCell_other _ _ _ _ (fun e => by rcases hp with hp | hp; exact hS (by rw [e]; exact hp); omega)]; exact h.block x hx hS⟩
theorem Touch.alloc {S : Nat → Prop} {w w' : World} (h : Touch S w w') (o : Obj) : Touch S w (w'.alloc o) :=
  ⟨h.os, h.tape, h.output, by rw [nblk_alloc]; have := h.size; omega, fun x hx hS => by rw [blk_alloc_lt _ _ _ (by have := h.size; omega)]; exact h.block x hx hS⟩
theorem Touch.drew {S : Nat → Prop} {w w' : World} (h : Touch S w w') : Touch S w w'.drew := ⟨h.os, h.tape, h.output, h.size, h.block⟩
theorem Touch.drewN {S : Nat → Prop} {w w' : World} (h : Touch S w w') (n : Nat) : Touch S w (w'.drewN n) := ⟨h.os, h.tape, h.output, h.size, h.block⟩
theorem Touch.grown {S : Nat → Prop} {w w' w'' : World} {row : Option Nat} (h : Touch S w w') (hg : w'.grownBy w'' row) (hr : ∀ b, row = some b → S b ∨ w.heap.size ≤ b) : Touch S w w'' :=
  ⟨hg.os.trans h.os, hg.tape.trans h.tape, hg.output.trans h.output, Nat.le_trans h.size hg.size, fun x hx hS => by
    rw [hg.block x (Nat.lt_of_lt_of_le hx h.size) (fun e => by rcases hr x e.symm with e | e; exact hS e; omega)]; exact h.block x hx hS⟩
theorem Touch.below {S : Nat → Prop} {w w' : World} (h : Touch S w w') {B : Nat} (hB : B ≤ w.heap.size) (hS : ∀ b, S b → B ≤ b) : Below B w w' :=
  ⟨h.os, h.tape, h.output, h.size, fun x hx => h.block x (by omega) (fun e => by have := hS x e; omega)⟩
theorem Touch.of_below {S : Nat → Prop} {w w' w'' : World} (h : Touch S w w') (hb : Below w'.heap.size w' w'') : Touch S w w'' :=
  h.trans' (S' := fun _ => False) ⟨hb.os, hb.tape, hb.output, hb.size, fun x hx _ => hb.block x hx⟩ (fun _ e => e.elim)
theorem Touch.row {S : Nat → Prop} {w w' : World} (h : Touch S w w') {b : Nat} {t : TypeId} {n : Nat} {f : Nat → Value} (hr : w.rowIs b t n f) (hS : ¬ S b) : w'.rowIs b t n f :=
  hr.of_block (h.block b hr.lt hS)
end Go.Proofs.Ytkhcjkmifddlbaa
