/- The document's cursor: plain, and its small steps. -/
import Derived.Test.YtkhcjkmifddlbabDoorDecR
namespace Go.Proofs.YtkhcjkmifddlbabDoor
open Go.RowKit Go.Deep

/-- What is left of a text. -/
def tl (s : ByteArray) (p : Nat) : ByteArray := s.extract p s.size
theorem tl_size (s : ByteArray) (p : Nat) : (tl s p).size = s.size - p := by unfold tl; simp [ByteArray.size_extract]
theorem tl_zero (s : ByteArray) : tl s 0 = s := by unfold tl; simp
theorem tl_ix {s : ByteArray} {p k : Nat} (h : k < (tl s p).size) : ((tl s p)[k].toNat : Int) = (Num.byt s (p + k) : Int) := by
  have h2 : p + k < s.size := by rw [tl_size] at h; omega
  rw [Num.byt_lt h2]
  simp [tl, ByteArray.getElem_extract]
theorem tl_take {s : ByteArray} {p k : Nat} (h : p + k ≤ s.size) : (tl s p).extract 0 k = s.extract p (p + k) := by
  unfold tl; rw [ByteArray.extract_extract]; congr 1 <;> omega
theorem tl_drop {s : ByteArray} {p k : Nat} (_h : p + k ≤ s.size) : (tl s p).extract k (tl s p).size = tl s (p + k) := by
  rw [tl_size]; unfold tl; rw [ByteArray.extract_extract]; congr 1; omega
theorem tl_drop' {s : ByteArray} {p k : Nat} (h : p + k ≤ s.size) : (tl s p).extract k (s.size - p) = tl s (p + k) := by rw [← tl_drop h, tl_size]
theorem tl_nil {s : ByteArray} {p : Nat} (h : p ≤ s.size) : (tl s p).toList.isEmpty = decide (p = s.size) := by
  have hz : (tl s p).toList.length = s.size - p := by rw [ByteArray.toList_eq]; exact tl_size s p
  by_cases hp : p = s.size
  · rw [List.eq_nil_of_length_eq_zero (by omega : (tl s p).toList.length = 0)]; simp [hp]
  · have : (tl s p).toList ≠ [] := fun e => by rw [e] at hz; simp at hz; omega
    simp [this, hp]
/-- The cells of a cursor. -/
def cu2 (s : ByteArray) (p : Nat) (b : Bool) (q : Nat) : Value := if q = 0 then .string (tl s p) else .bool b
def CuTo (w w' : World) (cb : Nat) (s : ByteArray) (b : Bool) (o : Option Nat) : Prop := Touch (fun q => q = cb) w w' ∧ ∃ p', w'.rowIs cb 76 2 (cu2 s p' (b || o.isNone)) ∧ p' ≤ s.size ∧ ∀ q, b = false → o = some q → p' = q
theorem cu_cells {w : World} {cb : Nat} {t : TypeId} {s : ByteArray} {p : Nat} {b : Bool} (h : w.rowIs cb t 2 (cu2 s p b)) : w.cell? ⟨cb, 0, none⟩ = some (.string (tl s p)) ∧ w.cell? ⟨cb, 1, none⟩ = some (.bool b) ∧ w.frozen? ⟨cb, 0, none⟩ = false ∧ w.frozen? ⟨cb, 1, none⟩ = false :=
  ⟨h.cell (i := 0) (by omega), h.cell (i := 1) (by omega), h.frozen 0, h.frozen 1⟩
theorem cu_at {w : World} {cb : Nat} {t : TypeId} {s : ByteArray} {p : Nat} {b : Bool} (h : w.rowIs cb t 2 (cu2 s p b)) (q : Nat) : (w.setCell ⟨cb, 0, none⟩ (.string (tl s q))).rowIs cb t 2 (cu2 s q b) := by
  refine (h.set 0 _).congr fun i hi => ?_
  rcases (show i = 0 ∨ i = 1 by omega) with rfl | rfl <;> rfl
theorem cu_bad {w : World} {cb : Nat} {t : TypeId} {s : ByteArray} {p : Nat} {b : Bool} (h : w.rowIs cb t 2 (cu2 s p b)) : (w.setCell ⟨cb, 1, none⟩ (.bool true)).rowIs cb t 2 (cu2 s p true) := by
  refine (h.set 1 _).congr fun i hi => ?_
  rcases (show i = 0 ∨ i = 1 by omega) with rfl | rfl <;> rfl
theorem CuTo.go {w wx : World} {cb : Nat} {s : ByteArray} {p : Nat} {b : Bool} {o : Option Nat} (q : Nat) (hT : Touch (fun q => q = cb) w wx) (h : wx.rowIs cb 76 2 (cu2 s p b)) (hq : q ≤ s.size) (ho : o = some q) : CuTo w (wx.setCell ⟨cb, 0, none⟩ (.string (tl s q))) cb s b o := by
  refine ⟨hT.setCell (p := ⟨cb, 0, none⟩) (.inl rfl) _, q, ?_, hq, fun r _ hr => by rw [ho] at hr; simp at hr; exact hr⟩
  rw [ho]
  simp only [Option.isNone_some, Bool.or_false]
  exact cu_at h q
theorem CuTo.bad {w wx : World} {cb : Nat} {s : ByteArray} {p : Nat} {b b' : Bool} {o : Option Nat} (hT : Touch (fun q => q = cb) w wx) (h : wx.rowIs cb 76 2 (cu2 s p b')) (hp : p ≤ s.size) (ho : o = none ∨ b = true) : CuTo w (wx.setCell ⟨cb, 1, none⟩ (.bool true)) cb s b o := by
  refine ⟨hT.setCell (p := ⟨cb, 1, none⟩) (.inl rfl) _, p, ?_, hp, fun r hb hr => by rcases ho with e | e <;> simp_all⟩
  have e : (b || o.isNone) = true := by rcases ho with e | e <;> simp [e]
  rw [e]
  exact cu_bad h

set_option maxHeartbeats 400000 in
theorem white_any (c : Nat) (w : World) :
    Calls Tryd.prog 47 #[.int .u8 c] w fun e w' => e = .returned (.bool (Num.isSp c)) ∧ w' = w := by
  go_enter Tryd.func47, Tryd.ntmps47
  by_cases h1 : (c : Int) = 32
  · go_wp2
    go_ret
    exact ⟨ret_bool (by simp [Num.isSp]; omega), rfl⟩
  by_cases h2 : (c : Int) = 9
  · go_wp2
    go_ret
    exact ⟨ret_bool (by simp [Num.isSp]; omega), rfl⟩
  by_cases h3 : (c : Int) = 10
  · go_wp2
    go_ret
    exact ⟨ret_bool (by simp [Num.isSp]; omega), rfl⟩
  by_cases h4 : (c : Int) = 13
  · go_wp2
    go_ret
    exact ⟨ret_bool (by simp [Num.isSp]; omega), rfl⟩
  · have e : Num.isSp c = false := by simp [Num.isSp]; omega
    have a1 : ((c : Int) == 32) = false := by simp; omega
    have a2 : ((c : Int) == 9) = false := by simp; omega
    have a3 : ((c : Int) == 10) = false := by simp; omega
    have a4 : ((c : Int) == 13) = false := by simp; omega
    go_wp2
    go_ret
    exact ⟨ret_bool (by rw [e]), rfl⟩

set_option maxRecDepth 100000 in
set_option maxHeartbeats 1000000 in
theorem cuWord_any (cb : Nat) (s t : ByteArray) (p : Nat) (b : Bool) (w : World) (_hs : s.size ≤ 8192) (ht : t.size ≤ 10) (hp : p ≤ s.size) (h : w.rowIs cb 76 2 (cu2 s p b)) :
    Calls Tryd.prog 33 #[.pointer (some ⟨cb, 0, none⟩), .string t] w fun e w' => e = .returned (.tuple #[]) ∧ CuTo w w' cb s b (Num.wordV s t.toList p) := by
  obtain ⟨c0, c1, z0, z1⟩ := cu_cells h
  have hrl := h.lt
  have HTl := hide (show t.toList.length = t.size by rw [ByteArray.toList_eq]; rfl)
  have HH := hide h
  clear h
  cases b
  · have hts := tl_size s p
    by_cases h1 : p + t.size ≤ s.size
    · have hd : decide (((tl s p).size : Int) < (t.size : Int)) = false := by simp; omega
      have hd2 : decide ((t.size : Int) ≤ ((tl s p).size : Int)) = true := by simp; omega
      have g1 : (0 : Int) ≤ (t.size : Int) := by omega
      have g2 : (t.size : Int) ≤ ((tl s p).size : Int) := by omega
      have htk := tl_take h1
      have htd := tl_drop' h1
      cases hq : ((s.extract p (p + t.size)).toList == t.toList)
      · have HV : Hid (Num.wordV s t.toList p = none) := by unfold Hid Num.wordV; rw [HTl.out, if_neg (by simp at hq; intro e; exact hq e.2)]
        go_enter Tryd.func33, Tryd.ntmps33
        go_wp2
        exact bodyPost_ret (results_none rfl _ _ _) rfl ⟨rfl, CuTo.bad (Touch.refl _ _) HH.out hp (.inl HV.out)⟩
      · have HV : Hid (Num.wordV s t.toList p = some (p + t.size)) := by unfold Hid Num.wordV; rw [HTl.out, if_pos ⟨h1, by simpa using hq⟩]
        go_enter Tryd.func33, Tryd.ntmps33
        go_wp2
        go_end0
        exact ⟨rfl, CuTo.go _ (Touch.refl _ _) HH.out h1 HV.out⟩
    · have hd : decide (((tl s p).size : Int) < (t.size : Int)) = true := by simp; omega
      have HV : Hid (Num.wordV s t.toList p = none) := by unfold Hid Num.wordV; rw [HTl.out, if_neg (by omega)]
      go_enter Tryd.func33, Tryd.ntmps33
      go_wp2
      exact bodyPost_ret (results_none rfl _ _ _) rfl ⟨rfl, CuTo.bad (Touch.refl _ _) HH.out hp (.inl HV.out)⟩
  · go_enter Tryd.func33, Tryd.ntmps33
    go_wp2
    exact bodyPost_ret (results_none rfl _ _ _) rfl ⟨rfl, CuTo.bad (Touch.refl _ _) HH.out hp (.inr rfl)⟩

set_option maxRecDepth 100000 in
set_option maxHeartbeats 1000000 in
theorem cuBlank_any (cb : Nat) (s : ByteArray) (p : Nat) (b : Bool) (w : World) (_hs : s.size ≤ 8192) (hp : p ≤ s.size) (h : w.rowIs cb 76 2 (cu2 s p b)) :
    Calls Tryd.prog 36 #[.pointer (some ⟨cb, 0, none⟩)] w fun e w' => e = .returned (.tuple #[]) ∧ CuTo w w' cb s b (Num.spV s p) := by
  obtain ⟨c0, c1, z0, z1⟩ := cu_cells h
  have hrl := h.lt
  have HH := hide h
  have hnl := tl_nil hp
  clear h
  cases b
  · have hts := tl_size s p
    by_cases h1 : p < s.size
    · rw [show decide (p = s.size) = false by simp; omega] at hnl
      have g2 : (1 : Int) ≤ ((tl s p).size : Int) := by omega
      have g3 : 0 < (tl s p).size := by omega
      have htd := tl_drop' (s := s) (p := p) (k := 1) (by omega)
      have hix := tl_ix (s := s) (p := p) (k := 0) g3
      rw [Nat.add_zero] at hix
      have HSp := hide (fun w' => white_any (Num.byt s p) w')
      cases hsp : Num.isSp (Num.byt s p)
      · have HV : Hid (Num.spV s p = none) := by unfold Hid Num.spV; rw [if_neg (by simp [hsp])]
        rw [hsp] at HSp
        go_enter Tryd.func36, Tryd.ntmps36
        go_wp2_with (go_at_call 47; refine (HSp.out _).mono ?_; rintro e w' ⟨rfl, hw'⟩; rw [hw']; clear hw')
        exact bodyPost_ret (results_none rfl _ _ _) rfl ⟨rfl, CuTo.bad (Touch.refl _ _) HH.out hp (.inl HV.out)⟩
      · have HV : Hid (Num.spV s p = some (p + 1)) := by unfold Hid Num.spV; rw [if_pos ⟨h1, hsp⟩]
        rw [hsp] at HSp
        go_enter Tryd.func36, Tryd.ntmps36
        go_wp2_with (go_at_call 47; refine (HSp.out _).mono ?_; rintro e w' ⟨rfl, hw'⟩; rw [hw']; clear hw')
        go_end0
        exact ⟨rfl, CuTo.go _ (Touch.refl _ _) HH.out (by omega) HV.out⟩
    · rw [show decide (p = s.size) = true by simp; omega] at hnl
      have HV : Hid (Num.spV s p = none) := by unfold Hid Num.spV; rw [if_neg (by omega)]
      go_enter Tryd.func36, Tryd.ntmps36
      go_wp2
      exact bodyPost_ret (results_none rfl _ _ _) rfl ⟨rfl, CuTo.bad (Touch.refl _ _) HH.out hp (.inl HV.out)⟩
  · go_enter Tryd.func36, Tryd.ntmps36
    go_wp2
    exact bodyPost_ret (results_none rfl _ _ _) rfl ⟨rfl, CuTo.bad (Touch.refl _ _) HH.out hp (.inr rfl)⟩
end Go.Proofs.YtkhcjkmifddlbabDoor
