/- Encode: the program's and the document's. -/
import Derived.Test.YtkhcjkmifddlbabDoorEncP
import Derived.Test.YtkhcjkmifddlbabDoorLy
import Derived.Test.YtkhcjkmifddlbabDoorRefLy
namespace Go.Proofs.YtkhcjkmifddlbabDoor
open Go.RowKit Go.Deep

/-- The bytes of a picture. -/
def bytL (n : Nat) (X : Nat → Int) : List UInt8 := (List.range n).map fun k => UInt8.ofNat (X k).toNat
theorem bytL_len (n : Nat) (X : Nat → Int) : (bytL n X).length = n := by simp [bytL]
theorem bytL_at {n : Nat} {X : Nat → Int} (hX : ∀ k, k < n → 0 ≤ X k ∧ X k ≤ 255) {k : Nat} (hk : k < (bytL n X).length) : (((bytL n X)[k]).toNat : Int) = X k := by
  have hk2 : k < n := by rw [bytL_len] at hk; exact hk
  have := hX k hk2
  have e : (bytL n X)[k] = UInt8.ofNat (X k).toNat := by simp [bytL]
  rw [e, u8_nat (by omega)]
  omega
def encT (W H : Int) (n : Nat) (X : Nat → Int) : ByteArray := if Num.picB W H n = true then ByteArray.mk #[80, 53, 10] ++ digS W.toNat ++ ByteArray.mk #[32] ++ digS H.toNat ++ ByteArray.mk #[10, 50, 53, 53, 10] ++ ByteArray.mk (bytL n X).toArray else ByteArray.mk #[]
theorem digS_size (v : Nat) : (digS v).size ≤ 2 := by
  show (digL v).toArray.size ≤ 2
  unfold digL
  split <;> simp
def encE (W H : Int) (n : Nat) : Int := if Num.picB W H n = true then 0 else 8
set_option maxRecDepth 100000 in
theorem by_string {w : World} {a : Option Addr} {n c : Nat} {X : Nat → Int} (h : ByAt w a n X) (hn : 0 < n) (hX : ∀ k, k < n → 0 ≤ X k ∧ X k ≤ 255) : (convert 22 9 (.slice a n c)).run Tryd.prog w = .ok (.string ⟨(bytL n X).toArray⟩) w := by
  rcases h with h | ⟨b, off, rfl, h⟩
  · omega
  · have := run_convert_bytes_back (P := Tryd.prog) w 22 9 5 ⟨b, off, none⟩ c (bytL n X) rfl rfl rfl (fun j hj => by
      have hj2 : j < n := by rw [bytL_len] at hj; exact hj
      rw [bytL_at hX hj, show ((⟨b, off, none⟩ : Addr).add j) = ⟨b, off + j, none⟩ by unfold Addr.add; split <;> simp_all]
      exact h j hj2)
    rw [bytL_len] at this
    exact this
theorem nl255 (a : ByteArray) : a ++ ByteArray.mk #[10] ++ ByteArray.mk #[50, 53, 53] ++ ByteArray.mk #[10] = a ++ ByteArray.mk #[10, 50, 53, 53, 10] := by
  rw [ByteArray.append_assoc, ByteArray.append_assoc]
  congr 1

set_option maxRecDepth 100000 in
set_option maxHeartbeats 2000000 in
theorem encode_any (a : Option Addr) (n c : Nat) (W H : Int) (X : Nat → Int) (w : World) (h : ByAt w a n X) (hX : ∀ k, k < n → 0 ≤ X k ∧ X k ≤ 255) :
    Calls Tryd.prog 27 #[.agg #[.int .i64 W, .int .i64 H, .slice a n c]] w fun e w' => e = .returned (.tuple #[.string (encT W H n X), .int .i64 (encE W H n)]) ∧ Below w.heap.size w w' := by
  obtain ⟨W1, hW1⟩ : ∃ W1, W1 = w.alloc (.cells #[.int .i64 W, .int .i64 H, .slice a n c] 24) := ⟨_, rfl⟩
  have hs1 : W1.heap.size = w.heap.size + 1 := by rw [hW1]; simp
  have hb1 : Below w.heap.size w W1 := by rw [hW1]; exact (Below.refl _ _).alloc (Nat.le_refl _) _
  have hr1 : W1.rowIs w.heap.size 24 3 (gz W H (.slice a n c)) := by rw [hW1]; exact gz_row _ _ _ _ _
  obtain ⟨gb, hgb⟩ : ∃ gb, gb = w.heap.size := ⟨_, rfl⟩
  rw [← hgb] at hr1
  have HB1 := hide hb1
  have HR1 := hide hr1
  have HBy := hide (h.below hb1)
  have HP := hide (isPicture_any a n c W H W1)
  obtain ⟨q0, q1, q2⟩ := gz_cells hr1
  have hgl := hr1.lt
  obtain ⟨W2, hW2⟩ : ∃ W2, W2 = W1.alloc (.cells #[.int .i64 W, .int .i64 H, .slice a n c] 24) := ⟨_, rfl⟩
  have hb2 : Below W1.heap.size W1 W2 := by rw [hW2]; exact (Below.refl _ _).alloc (Nat.le_refl _) _
  rw [← hW2] at HP
  have HB2 := hide hb2
  have hwl : w.heap.size ≤ W1.heap.size := by omega
  clear hb1 hr1 h hW2
  cases hp : Num.picB W H n
  · have HT : Hid (encT W H n X = ByteArray.mk #[] ∧ encE W H n = 8) := by unfold Hid encT encE; rw [hp]; exact ⟨rfl, rfl⟩
    rw [hp] at HP
    clear hp
    go_enter Tryd.func27, Tryd.ntmps27
    go_wp2_with fail
    rw [← hW1]
    rw [← hgb]
    refine HP.out.mono ?_
    rintro e w2 ⟨rfl, hw2⟩
    rw [hw2]
    clear hw2
    go_wp2_with fail
    go_ret2
    exact ⟨by rw [HT.out.1, HT.out.2]; rfl, HB1.out.trans (HB2.out.mono hwl)⟩
  · have hpp := hp
    simp [Num.picB] at hpp
    obtain ⟨wn, rfl⟩ : ∃ wn : Nat, W = (wn : Int) := ⟨W.toNat, by omega⟩
    obtain ⟨hn, rfl⟩ : ∃ hn : Nat, H = (hn : Int) := ⟨H.toNat, by omega⟩
    have hn1 : 0 < n := by
      have h3 := hpp.2.2.2.2
      rw [← Int.natCast_mul] at h3
      have : 1 * 1 ≤ wn * hn := Nat.mul_le_mul (by omega) (by omega)
      omega
    have HT : Hid (encT wn hn n X = ByteArray.mk #[80, 53, 10] ++ digS wn ++ ByteArray.mk #[32] ++ digS hn ++ ByteArray.mk #[10, 50, 53, 53, 10] ++ ByteArray.mk (bytL n X).toArray ∧ encE wn hn n = 0) := by unfold Hid encT encE; rw [hp]; exact ⟨rfl, rfl⟩
    rw [hp] at HP
    have HC1 := hide (fun w' => itoa_any wn w' (by omega))
    have HC2 := hide (fun w' => itoa_any hn w' (by omega))
    have hn2 : n ≤ 4096 := by
      have h3 := hpp.2.2.2.2
      rw [← Int.natCast_mul] at h3
      have : wn * hn ≤ 64 * 64 := Nat.mul_le_mul (by omega) (by omega)
      omega
    clear hp hpp
    have hr2 := row_below HR1.out HB2.out hgl
    have HR2 := hide hr2
    have HBy2 := hide (HBy.out.below HB2.out)
    go_enter Tryd.func27, Tryd.ntmps27
    go_wp2_with fail
    rw [← hW1]
    rw [← hgb]
    have HGb := hide hgb
    clear hgb hW1
    refine HP.out.mono ?_
    rintro e w2 ⟨rfl, hw2⟩
    rw [hw2]
    clear hw2 q0 q1 q2
    obtain ⟨q0, q1, q2⟩ := gz_cells hr2
    have hgl2 := hr2.lt
    clear hr2
    go_wp2_with fail
    go_at_call 41
    refine (HC1.out _).mono ?_
    rintro e w3 ⟨rfl, hw3⟩
    rw [hw3]
    clear hw3
    go_wp2_with fail
    go_at_call 41
    refine (HC2.out _).mono ?_
    rintro e w3 ⟨rfl, hw3⟩
    rw [hw3]
    clear hw3
    have hrun := by_string (c := c) HBy2.out hn1 hX
    obtain ⟨P, hP⟩ : ∃ P, P = ByteArray.mk (bytL n X).toArray := ⟨_, rfl⟩
    have hPs : P.size = n := by rw [hP]; show (bytL n X).toArray.size = n; simp [bytL]
    rw [← hP] at hrun HT
    have s1 := digS_size wn
    have s2 := digS_size hn
    have k0 : ¬ 9223372036854775807 < 3 + (digS wn).size := by omega
    have k1 : ¬ 9223372036854775807 < 3 + (digS wn).size + 1 := by omega
    have k2 : ¬ 9223372036854775807 < 3 + (digS wn).size + 1 + (digS hn).size := by omega
    have k3 : ¬ 9223372036854775807 < 3 + (digS wn).size + 1 + (digS hn).size + 1 := by omega
    have k4 : ¬ 9223372036854775807 < 3 + (digS wn).size + 1 + (digS hn).size + 1 + 3 := by omega
    have k5 : ¬ 9223372036854775807 < 3 + (digS wn).size + 1 + (digS hn).size + 1 + 3 + 1 := by omega
    have k6 : ¬ 9223372036854775807 < 3 + (digS wn).size + 1 + (digS hn).size + 1 + 3 + 1 + n := by omega
    clear hP s1 s2
    go_wp2_with fail
    go_ret2
    exact ⟨by rw [HT.out.1, HT.out.2, ← nl255]; rfl, HB1.out.trans (HB2.out.mono hwl)⟩
set_option maxRecDepth 100000 in
set_option maxHeartbeats 2000000 in
theorem refEncode_any (a : Option Addr) (n c : Nat) (W H : Int) (X : Nat → Int) (w : World) (h : ByAt w a n X) (hX : ∀ k, k < n → 0 ≤ X k ∧ X k ≤ 255) :
    Calls Tryd.prog 16 #[.agg #[.int .i64 W, .int .i64 H, .slice a n c]] w fun e w' => e = .returned (.tuple #[.string (encT W H n X), .int .i64 (encE W H n)]) ∧ Below w.heap.size w w' := by
  obtain ⟨W1, hW1⟩ : ∃ W1, W1 = w.alloc (.cells #[.int .i64 W, .int .i64 H, .slice a n c] 24) := ⟨_, rfl⟩
  have hs1 : W1.heap.size = w.heap.size + 1 := by rw [hW1]; simp
  have hb1 : Below w.heap.size w W1 := by rw [hW1]; exact (Below.refl _ _).alloc (Nat.le_refl _) _
  have hr1 : W1.rowIs w.heap.size 24 3 (gz W H (.slice a n c)) := by rw [hW1]; exact gz_row _ _ _ _ _
  obtain ⟨gb, hgb⟩ : ∃ gb, gb = w.heap.size := ⟨_, rfl⟩
  rw [← hgb] at hr1
  have HB1 := hide hb1
  have HR1 := hide hr1
  have HBy := hide (h.below hb1)
  have HP := hide (isGray_any a n c W H W1)
  obtain ⟨q0, q1, q2⟩ := gz_cells hr1
  have hgl := hr1.lt
  obtain ⟨W2, hW2⟩ : ∃ W2, W2 = W1.alloc (.cells #[.int .i64 W, .int .i64 H, .slice a n c] 24) := ⟨_, rfl⟩
  have hb2 : Below W1.heap.size W1 W2 := by rw [hW2]; exact (Below.refl _ _).alloc (Nat.le_refl _) _
  rw [← hW2] at HP
  have HB2 := hide hb2
  have hwl : w.heap.size ≤ W1.heap.size := by omega
  clear hb1 hr1 h hW2
  cases hp : Num.picB W H n
  · have HT : Hid (encT W H n X = ByteArray.mk #[] ∧ encE W H n = 8) := by unfold Hid encT encE; rw [hp]; exact ⟨rfl, rfl⟩
    rw [hp] at HP
    clear hp
    go_enter Tryd.func16, Tryd.ntmps16
    go_wp2_with fail
    rw [← hW1]
    rw [← hgb]
    refine HP.out.mono ?_
    rintro e w2 ⟨rfl, hw2⟩
    rw [hw2]
    clear hw2
    go_wp2_with fail
    go_ret2
    exact ⟨by rw [HT.out.1, HT.out.2]; rfl, HB1.out.trans (HB2.out.mono hwl)⟩
  · have hpp := hp
    simp [Num.picB] at hpp
    obtain ⟨wn, rfl⟩ : ∃ wn : Nat, W = (wn : Int) := ⟨W.toNat, by omega⟩
    obtain ⟨hn, rfl⟩ : ∃ hn : Nat, H = (hn : Int) := ⟨H.toNat, by omega⟩
    have hn1 : 0 < n := by
      have h3 := hpp.2.2.2.2
      rw [← Int.natCast_mul] at h3
      have : 1 * 1 ≤ wn * hn := Nat.mul_le_mul (by omega) (by omega)
      omega
    have HT : Hid (encT wn hn n X = ByteArray.mk #[80, 53, 10] ++ digS wn ++ ByteArray.mk #[32] ++ digS hn ++ ByteArray.mk #[10, 50, 53, 53, 10] ++ ByteArray.mk (bytL n X).toArray ∧ encE wn hn n = 0) := by unfold Hid encT encE; rw [hp]; exact ⟨rfl, rfl⟩
    rw [hp] at HP
    have HC1 := hide (fun w' => digits_any wn w' (by omega))
    have HC2 := hide (fun w' => digits_any hn w' (by omega))
    have hn2 : n ≤ 4096 := by
      have h3 := hpp.2.2.2.2
      rw [← Int.natCast_mul] at h3
      have : wn * hn ≤ 64 * 64 := Nat.mul_le_mul (by omega) (by omega)
      omega
    clear hp hpp
    have hr2 := row_below HR1.out HB2.out hgl
    have HR2 := hide hr2
    have HBy2 := hide (HBy.out.below HB2.out)
    go_enter Tryd.func16, Tryd.ntmps16
    go_wp2_with fail
    rw [← hW1]
    rw [← hgb]
    have HGb := hide hgb
    clear hgb hW1
    refine HP.out.mono ?_
    rintro e w2 ⟨rfl, hw2⟩
    rw [hw2]
    clear hw2 q0 q1 q2
    obtain ⟨q0, q1, q2⟩ := gz_cells hr2
    have hgl2 := hr2.lt
    clear hr2
    go_wp2_with fail
    go_at_call 30
    refine (HC1.out _).mono ?_
    rintro e w3 ⟨rfl, hb3⟩
    have hr3 := row_below HR2.out hb3 hgl2
    have HBy3 := hide (HBy2.out.below hb3)
    have HB3 := hide (HB2.out.trans (hb3.mono HB2.out.size))
    clear q0 q1 q2 hb3
    obtain ⟨q0, q1, q2⟩ := gz_cells hr3
    have hgl3 := hr3.lt
    have HR3 := hide hr3
    clear hr3
    go_wp2_with fail
    go_at_call 30
    refine (HC2.out _).mono ?_
    rintro e w4 ⟨rfl, hb4⟩
    have hr4 := row_below HR3.out hb4 hgl3
    have HBy4 := hide (HBy3.out.below hb4)
    have HB4 := hide (HB3.out.trans (hb4.mono HB3.out.size))
    clear q0 q1 q2 hb4
    obtain ⟨q0, q1, q2⟩ := gz_cells hr4
    have hgl4 := hr4.lt
    clear hr4
    have hrun := by_string (c := c) HBy4.out hn1 hX
    obtain ⟨P, hP⟩ : ∃ P, P = ByteArray.mk (bytL n X).toArray := ⟨_, rfl⟩
    have hPs : P.size = n := by rw [hP]; show (bytL n X).toArray.size = n; simp [bytL]
    rw [← hP] at hrun HT
    have s1 := digS_size wn
    have s2 := digS_size hn
    have k0 : ¬ 9223372036854775807 < 3 + (digS wn).size := by omega
    have k1 : ¬ 9223372036854775807 < 3 + (digS wn).size + 1 := by omega
    have k2 : ¬ 9223372036854775807 < 3 + (digS wn).size + 1 + (digS hn).size := by omega
    have k3 : ¬ 9223372036854775807 < 3 + (digS wn).size + 1 + (digS hn).size + 5 := by omega
    have k4 : ¬ 9223372036854775807 < 3 + (digS wn).size + 1 + (digS hn).size + 5 + n := by omega
    clear hP s1 s2
    go_wp2_with fail
    go_ret2
    exact ⟨by rw [HT.out.1, HT.out.2]; rfl, HB1.out.trans (HB4.out.mono hwl)⟩

set_option maxRecDepth 100000 in
set_option maxHeartbeats 2000000 in
theorem glyphEncode_any (a : Option Addr) (n c : Nat) (W H : Int) (X : Nat → Int) (w : World) (h : ByAt w a n X) (hX : ∀ k, k < n → 0 ≤ X k ∧ X k ≤ 255) :
    Calls Tryd.prog 9 #[.agg #[.int .i64 W, .int .i64 H, .slice a n c]] w fun e w' => e = .returned (.tuple #[.string (encT W H n X), .int .i64 (encE W H n)]) ∧ Below w.heap.size w w' := by
  obtain ⟨W1, hW1⟩ : ∃ W1, W1 = w.alloc (.cells #[.int .i64 W, .int .i64 H, .slice a n c] 24) := ⟨_, rfl⟩
  have hb1 : Below w.heap.size w W1 := by rw [hW1]; exact (Below.refl _ _).alloc (Nat.le_refl _) _
  have hwl : w.heap.size ≤ W1.heap.size := hb1.size
  have HB1 := hide hb1
  have HC := hide (encode_any a n c W H X W1 (h.below hb1) hX)
  obtain ⟨T, hT⟩ : ∃ T, T = encT W H n X := ⟨_, rfl⟩
  obtain ⟨E, hE⟩ : ∃ E, E = encE W H n := ⟨_, rfl⟩
  rw [← hT, ← hE] at HC ⊢
  clear hb1 h hT hE
  go_enter Tryd.func9, Tryd.ntmps9
  go_wp2_with fail
  rw [← hW1]
  refine HC.out.mono ?_
  rintro e w2 ⟨rfl, hb2⟩
  have HB2 := hide hb2
  clear hb2
  go_wp2_with fail
  go_ret2
  exact ⟨rfl, HB1.out.trans (HB2.out.mono hwl)⟩
end Go.Proofs.YtkhcjkmifddlbabDoor
