/- Joined: ClsX, WhlV, WhlW, WhlX, FlV, FlB, FlC, TrnY, ShfV, ShfA. -/
import Derived.Test.YtkhcjkmifddlbabPart9
import Derived.Test.YtkhcjkmifddlbabPart2
import Derived.Test.YtkhcjkmifddlbabPart3
/- ClsX -/
namespace Go.Proofs.Ytkhcjkmifddlbab
namespace Num

theorem lin_id (d e R p q B s k : Int) : d * (e * (R - p) - k * (q - p)) - e * (d * R - B * (s + k)) = -((e - k) * (d * p - B * s)) - k * (d * q - B * (s + e)) := by
  simp only [Int.mul_add, Int.mul_sub, Int.mul_comm, Int.mul_left_comm]
  omega
theorem strip_near {ax ay bx b2 i t u : Int} {k : Nat} (h : ay < b2) (htu : t < u) (hk : (k : Int) ≤ u - t) :
    2 * ((b2 - ay) * cS (u - t) (64 * i + 64) (atV ax bx ay b2 t) (atV ax bx ay b2 u) k) ≤ 2 * ((u - t) * leftV ax ay bx b2 i (t + k)) + (b2 - ay) * (u - t) ∧
    2 * ((u - t) * leftV ax ay bx b2 i (t + k)) ≤ 2 * ((b2 - ay) * cS (u - t) (64 * i + 64) (atV ax bx ay b2 t) (atV ax bx ay b2 u) k) + (b2 - ay) * (u - t) := by
  have hx := atV_half (a := ax) (b := bx) (n := t) h
  have hy := atV_half (a := ax) (b := bx) (n := u) h
  obtain ⟨x, hx'⟩ : ∃ x, x = atV ax bx ay b2 t := ⟨_, rfl⟩
  obtain ⟨y, hy'⟩ : ∃ y, y = atV ax bx ay b2 u := ⟨_, rfl⟩
  rw [← hx'] at hx ⊢
  rw [← hy'] at hy ⊢
  obtain ⟨d, hd⟩ : ∃ d, d = b2 - ay := ⟨_, rfl⟩
  obtain ⟨e, he⟩ : ∃ e, e = u - t := ⟨_, rfl⟩
  rw [left_turn]
  unfold turnV
  rw [← hd] at hx hy ⊢
  rw [← he]
  have hd0 : 0 < d := by omega
  have he0 : 0 < e := by omega
  have I := lin_id d e (64 * i + 64 - ax) (x - ax) (y - ax) (bx - ax) (t - ay) k
  rw [show 64 * i + 64 - ax - (x - ax) = 64 * i + 64 - x by omega, show y - ax - (x - ax) = y - x by omega, show t - ay + (k : Int) = t + k - ay by omega, show t - ay + e = u - ay by omega] at I
  obtain ⟨gx, hgx⟩ : ∃ g, g = d * (x - ax) - (bx - ax) * (t - ay) := ⟨_, rfl⟩
  obtain ⟨gy, hgy⟩ : ∃ g, g = d * (y - ax) - (bx - ax) * (u - ay) := ⟨_, rfl⟩
  rw [← hgx] at hx I
  rw [← hgy] at hy I
  have m1 := mul_ge (a := 2 * gx) (t := e - k) (B := d) (by omega) (by omega)
  have m2 := mul_ge (a := 2 * gy) (t := (k : Int)) (B := d) (by omega) (by omega)
  rw [Int.mul_assoc] at m1 m2
  rw [Int.mul_sub d] at m1
  rw [Int.mul_comm gx] at m1
  rw [Int.mul_comm gy] at m2
  have hde : 0 ≤ d * e := Int.mul_nonneg (by omega) (by omega)
  unfold cS
  have c1 := clp_scale d (e * (64 * i + 64 - x) - (k : Int) * (y - x)) (64 * e) hd0
  have c2 := clp_scale e (d * (64 * i + 64 - ax) - (bx - ax) * (t + k - ay)) (64 * d) he0
  have c3 := clp_scale 2 (d * (e * (64 * i + 64 - x) - (k : Int) * (y - x))) (d * (64 * e)) (by omega)
  have c4 := clp_scale 2 (e * (d * (64 * i + 64 - ax) - (bx - ax) * (t + k - ay))) (e * (64 * d)) (by omega)
  have eM : e * (64 * d) = d * (64 * e) := by rw [Int.mul_left_comm, Int.mul_comm e d, Int.mul_left_comm]
  have hM : 0 ≤ 2 * (d * (64 * e)) := by rw [Int.mul_left_comm d 64]; omega
  rw [← c1, ← c2, eM]
  rw [eM] at c4
  rw [← c3, ← c4]
  exact ⟨clp_lip hM (by omega) hde, clp_lip hM (by omega) hde⟩
theorem sumZ_lin {f g : Nat → Int} {p q c : Int} : ∀ n : Nat, (∀ k, k < n → p * f k ≤ q * g k + c) → p * sumZ f n ≤ q * sumZ g n + n * c := by
  intro n
  induction n with
  | zero => intro _; simp [sumZ]
  | succ n ih =>
    intro h
    have h1 := ih (fun k hk => h k (by omega))
    have h2 := h n (by omega)
    simp only [sumZ, Int.mul_add]
    rw [show ((n + 1 : Nat) : Int) = (n : Int) + 1 by omega, Int.add_mul]
    omega
theorem sumZ_lin2 {f g : Nat → Int} {p q c : Int} : ∀ n : Nat, (∀ k, k < n → q * g k ≤ p * f k + c) → q * sumZ g n ≤ p * sumZ f n + n * c := fun n h => sumZ_lin n h

/-- The part of a chord in a row, against the strips. -/
theorem down_strips {ax ay bx b2 i t u : Int} (h : ay < b2) (htu : t < u) (h64 : u - t ≤ 64) :
    (b2 - ay) * partV (atV ax bx ay b2 t) t (atV ax bx ay b2 u) u i ≤ 2 * sumZ (stripH ax ay bx b2 i t) (u - t).toNat + 128 * (b2 - ay) ∧
    2 * sumZ (stripL ax ay bx b2 i t) (u - t).toNat ≤ (b2 - ay) * partV (atV ax bx ay b2 t) t (atV ax bx ay b2 u) u i + 128 * (b2 - ay) := by
  obtain ⟨P1, P2⟩ := part_strips (x := atV ax bx ay b2 t) (y := atV ax bx ay b2 u) i htu
  obtain ⟨n, hn⟩ : ∃ n, n = (u - t).toNat := ⟨_, rfl⟩
  have hn2 : (n : Int) = u - t := by omega
  rw [← hn] at P1 P2 ⊢
  have N : ∀ k : Nat, k ≤ n → _ := fun k hk => strip_near (ax := ax) (bx := bx) (i := i) (k := k) h htu (by omega)
  obtain ⟨d, hd⟩ : ∃ d, d = b2 - ay := ⟨_, rfl⟩
  obtain ⟨e, he⟩ : ∃ e, e = u - t := ⟨_, rfl⟩
  obtain ⟨V, hV⟩ : ∃ V, V = partV (atV ax bx ay b2 t) t (atV ax bx ay b2 u) u i := ⟨_, rfl⟩
  obtain ⟨cS', hcS⟩ : ∃ c : Nat → Int, c = cS e (64 * i + 64) (atV ax bx ay b2 t) (atV ax bx ay b2 u) := ⟨_, rfl⟩
  rw [← he] at P1 P2 N hn2 h64
  rw [← hd] at N ⊢
  rw [← hV] at P1 P2 ⊢
  rw [← hcS] at P1 P2 N
  have hd0 : 0 < d := by omega
  have he0 : 0 < e := by omega
  have S1 := sumZ_lin (f := fun k => gr (cS' k) (cS' (k + 1))) (g := stripH ax ay bx b2 i t) (p := 2 * d) (q := 2 * e) (c := d * e) n (fun k hk => by
    have n1 := N k (by omega)
    have n2 := N (k + 1) (by omega)
    rw [show t + ((k + 1 : Nat) : Int) = t + k + 1 by omega] at n2
    have g1 := gr_ge (leftV ax ay bx b2 i (t + k)) (leftV ax ay bx b2 i (t + k + 1))
    have m1 := Int.mul_le_mul_of_nonneg_left g1.1 (show 0 ≤ e by omega)
    have m2 := Int.mul_le_mul_of_nonneg_left g1.2 (show 0 ≤ e by omega)
    unfold stripH
    rw [Int.mul_assoc, Int.mul_assoc]
    rcases gr_or (cS' k) (cS' (k + 1)) with c | c <;> simp only [c] <;> omega)
  have S2 := sumZ_lin (f := stripL ax ay bx b2 i t) (g := fun k => lsV (cS' k) (cS' (k + 1))) (p := 2 * e) (q := 2 * d) (c := d * e) n (fun k hk => by
    have n1 := N k (by omega)
    have n2 := N (k + 1) (by omega)
    rw [show t + ((k + 1 : Nat) : Int) = t + k + 1 by omega] at n2
    have g1 := ls_le (leftV ax ay bx b2 i (t + k)) (leftV ax ay bx b2 i (t + k + 1))
    have m1 := Int.mul_le_mul_of_nonneg_left g1.1 (show 0 ≤ e by omega)
    have m2 := Int.mul_le_mul_of_nonneg_left g1.2 (show 0 ≤ e by omega)
    unfold stripL
    rw [Int.mul_assoc, Int.mul_assoc]
    rcases ls_or (cS' k) (cS' (k + 1)) with c | c <;> simp only [c] <;> omega)
  rw [hn2] at S1 S2
  have q1 := Int.mul_le_mul_of_nonneg_left P1 (show 0 ≤ d by omega)
  have q2 := Int.mul_le_mul_of_nonneg_left P2 (show 0 ≤ d by omega)
  have hde : 0 ≤ d * e := Int.mul_nonneg (by omega) (by omega)
  have q3 := Int.mul_le_mul_of_nonneg_right h64 hde
  rw [Int.mul_assoc, Int.mul_assoc] at S1 S2
  rw [Int.mul_sub, Int.mul_left_comm d 2, Int.mul_left_comm d 64, Int.mul_left_comm d e] at q1
  rw [Int.mul_add, Int.mul_left_comm d 2, Int.mul_left_comm d 64, Int.mul_left_comm d e] at q2
  have z : e * (128 * d) = 128 * (d * e) := by rw [Int.mul_left_comm, Int.mul_comm e d]
  constructor
  · refine cancel_le he0 ?_
    rw [Int.mul_add, Int.mul_left_comm e 2, z]
    omega
  · refine cancel_le he0 ?_
    rw [Int.mul_add, Int.mul_left_comm e 2, z]
    omega
theorem sumZ_nn {f : Nat → Int} : ∀ n, (∀ k, k < n → 0 ≤ f k) → 0 ≤ sumZ f n := by
  intro n
  induction n with
  | zero => intro _; exact Int.le_refl _
  | succ n ih => intro h; have := ih (fun k hk => h k (by omega)); have := h n (by omega); simp only [sumZ]; omega
theorem sumZ_const (z : Int) (n : Nat) : sumZ (fun _ => z) n = n * z := by
  induction n with
  | zero => simp [sumZ]
  | succ n ih => simp only [sumZ, ih]; rw [show ((n + 1 : Nat) : Int) = (n : Int) + 1 by omega, Int.add_mul]; omega
theorem left_nn {ax ay bx b2 i y : Int} (h : ay < b2) : 0 ≤ leftV ax ay bx b2 i y := (clp_rng (by omega)).1
/-- A chord that does not meet the pixel, in the pixel's row: all to the left, or all to the right. -/
theorem un_sides {ax ay bx b2 i j : Int} (hu : UnV ax ay bx b2 i j) (htu : topV ay j < botV b2 j) :
    (∀ y, topV ay j ≤ y → y ≤ botV b2 j → 0 ≤ turnV ax ay bx b2 (64 * i) y) ∨ (∀ y, topV ay j ≤ y → y ≤ botV b2 j → turnV ax ay bx b2 (64 * i + 64) y ≤ 0) := by
  have g := gr_ge ay (64 * j)
  have l := ls_le b2 (64 * j + 64)
  unfold topV botV at *
  rcases hu with c | c | c | c | c | c
  · refine .inl (fun y h1 h2 => ?_)
    rw [turn_split]
    have m1 := Int.mul_nonneg (show 0 ≤ b2 - y by omega) (show 0 ≤ 64 * i - ax by omega)
    have m2 := Int.mul_nonneg (show 0 ≤ y - ay by omega) (show 0 ≤ 64 * i - bx by omega)
    omega
  · refine .inr (fun y h1 h2 => ?_)
    rw [turn_split]
    have m1 := Int.mul_nonneg (show 0 ≤ b2 - y by omega) (show 0 ≤ -(64 * i + 64 - ax) by omega)
    have m2 := Int.mul_nonneg (show 0 ≤ y - ay by omega) (show 0 ≤ -(64 * i + 64 - bx) by omega)
    rw [Int.mul_neg] at m1 m2
    omega
  · omega
  · omega
  · exact .inl (fun y h1 h2 => by have := (turn_mid (x := 64 * i) (t := 64 * j) (y := y) (by omega) (by omega)).1 c.1 c.2.2.1; omega)
  · exact .inr (fun y h1 h2 => by have := (turn_mid (x := 64 * i + 64) (t := 64 * j) (y := y) (by omega) (by omega)).2 c.2.1 c.2.2.2; omega)
theorem at_left' {ax ay bx b2 x y : Int} (h : ay < b2) (ht : 0 ≤ turnV ax ay bx b2 x y) : atV ax bx ay b2 y ≤ x := by
  rw [atV_eq (by omega), if_neg (by omega)]
  unfold turnV at ht
  have := hu_le_of (n := (bx - ax) * (y - ay)) (d := b2 - ay) (B := x - ax) (by omega) (by rw [Int.mul_comm (x - ax)]; omega)
  omega
theorem at_right' {ax ay bx b2 x y : Int} (h : ay < b2) (ht : turnV ax ay bx b2 x y ≤ 0) : x ≤ atV ax bx ay b2 y := by
  rw [atV_eq (by omega), if_neg (by omega)]
  unfold turnV at ht
  have := hu_ge_of (n := (bx - ax) * (y - ay)) (d := b2 - ay) (B := x - ax) (by omega) (by rw [Int.mul_comm (x - ax)]; omega)
  omega
/-- Of one that goes down. -/
theorem close_down {ax ay bx b2 : Int} (i j : Int) (h : ay < b2) :
    2 * (lowV ax ay bx b2 i j - offV ax ay bx b2 i j) ≤ downV ax ay bx b2 i j ∧ downV ax ay bx b2 i j ≤ 2 * (highV ax ay bx b2 i j + offV ax ay bx b2 i j) := by
  have g := gr_ge ay (64 * j)
  have l := ls_le b2 (64 * j + 64)
  have hd0 : 0 < b2 - ay := by omega
  have ho : 0 ≤ offV ax ay bx b2 i j := by
    unfold offV
    repeat' split
    all_goals omega
  unfold lowV highV
  rw [if_neg (by omega), if_neg (by omega)]
  have nnL : 0 ≤ sumZ (stripL ax ay bx b2 i (topV ay j)) (botV b2 j - topV ay j).toNat := sumZ_nn _ (fun k _ => by
    unfold stripL; rcases ls_or (leftV ax ay bx b2 i (topV ay j + k)) (leftV ax ay bx b2 i (topV ay j + k + 1)) with c | c <;> rw [c] <;> exact left_nn h)
  have nnH : 0 ≤ sumZ (stripH ax ay bx b2 i (topV ay j)) (botV b2 j - topV ay j).toNat := sumZ_nn _ (fun k _ => by
    unfold stripH; rcases gr_or (leftV ax ay bx b2 i (topV ay j + k)) (leftV ax ay bx b2 i (topV ay j + k + 1)) with c | c <;> rw [c] <;> exact left_nn h)
  by_cases htu : topV ay j < botV b2 j
  · have hdn : downV ax ay bx b2 i j = partV (atV ax bx ay b2 (topV ay j)) (topV ay j) (atV ax bx ay b2 (botV b2 j)) (botV b2 j) i := by
      unfold downV
      rw [if_neg (by unfold topV botV at htu; omega)]; rfl
    have h64 : botV b2 j - topV ay j ≤ 64 := by unfold topV botV; omega
    cases hm : meetsV ax ay bx b2 i j
    · have off0 : offV ax ay bx b2 i j = 0 := by unfold offV; rw [hm, if_neg (by omega)]; rfl
      rw [off0]
      have hen : (((botV b2 j - topV ay j).toNat : Nat) : Int) = botV b2 j - topV ay j := by omega
      rcases un_sides (un_of hm) htu with c | c
      · have v : downV ax ay bx b2 i j = 128 * (botV b2 j - topV ay j) := by
          rw [hdn]
          exact partV_left2 (at_left' h (c _ (Int.le_refl _) (by omega))) (at_left' h (c _ (by omega) (Int.le_refl _))) (by omega)
        have lf : ∀ y, topV ay j ≤ y → y ≤ botV b2 j → leftV ax ay bx b2 i y = 64 * (b2 - ay) := by
          intro y h1 h2
          have := c y h1 h2
          rw [left_turn, turn_x, Int.mul_comm (b2 - ay) 64]
          unfold clp
          repeat' split
          all_goals omega
        have sL : sumZ (stripL ax ay bx b2 i (topV ay j)) (botV b2 j - topV ay j).toNat = (botV b2 j - topV ay j) * (64 * (b2 - ay)) := by
          rw [sumZ_congr (g := fun _ => 64 * (b2 - ay)) _ (fun k hk => by unfold stripL; rw [lf _ (by omega) (by omega), lf _ (by omega) (by omega)]; unfold lsV; split <;> rfl), sumZ_const, hen]
        have sH : sumZ (stripH ax ay bx b2 i (topV ay j)) (botV b2 j - topV ay j).toNat = (botV b2 j - topV ay j) * (64 * (b2 - ay)) := by
          rw [sumZ_congr (g := fun _ => 64 * (b2 - ay)) _ (fun k hk => by unfold stripH; rw [lf _ (by omega) (by omega), lf _ (by omega) (by omega)]; unfold gr; split <;> rfl), sumZ_const, hen]
        rw [sL, sH, v]
        have e1 : (botV b2 j - topV ay j) * (64 * (b2 - ay)) = (b2 - ay) * (64 * (botV b2 j - topV ay j)) := by rw [Int.mul_comm, Int.mul_assoc, Int.mul_left_comm]
        rw [e1]
        have pos : 0 ≤ (b2 - ay) * (64 * (botV b2 j - topV ay j)) := Int.mul_nonneg (by omega) (by omega)
        rw [Int.tdiv_eq_ediv_of_nonneg pos, Int.tdiv_eq_ediv_of_nonneg (by omega), Int.mul_ediv_cancel_left _ (by omega)]
        have e2 : ((b2 - ay) * (64 * (botV b2 j - topV ay j)) + (b2 - ay) - 1) / (b2 - ay) = 64 * (botV b2 j - topV ay j) := by
          rw [show (b2 - ay) * (64 * (botV b2 j - topV ay j)) + (b2 - ay) - 1 = (b2 - ay - 1) + (b2 - ay) * (64 * (botV b2 j - topV ay j)) by omega, Int.add_mul_ediv_left _ _ (by omega), Int.ediv_eq_zero_of_lt (by omega) (by omega)]
          omega
        rw [e2]
        omega
      · have v : downV ax ay bx b2 i j = 0 := by
          rw [hdn]
          exact partV_right (at_right' h (c _ (Int.le_refl _) (by omega))) (at_right' h (c _ (by omega) (Int.le_refl _)))
        have lf : ∀ y, topV ay j ≤ y → y ≤ botV b2 j → leftV ax ay bx b2 i y = 0 := by
          intro y h1 h2
          have := c y h1 h2
          rw [left_turn]
          unfold clp
          repeat' split
          all_goals omega
        have sL : sumZ (stripL ax ay bx b2 i (topV ay j)) (botV b2 j - topV ay j).toNat = 0 := by
          rw [sumZ_congr (g := fun _ => 0) _ (fun k hk => by unfold stripL; rw [lf _ (by omega) (by omega), lf _ (by omega) (by omega)]; rfl), sumZ_const, Int.mul_zero]
        have sH : sumZ (stripH ax ay bx b2 i (topV ay j)) (botV b2 j - topV ay j).toNat = 0 := by
          rw [sumZ_congr (g := fun _ => 0) _ (fun k hk => by unfold stripH; rw [lf _ (by omega) (by omega), lf _ (by omega) (by omega)]; rfl), sumZ_const, Int.mul_zero]
        rw [sL, sH, v, Int.zero_tdiv, Int.tdiv_eq_ediv_of_nonneg (by omega), Int.ediv_eq_zero_of_lt (by omega) (by omega)]
        omega
    · have off1 : offV ax ay bx b2 i j = 64 := by unfold offV; rw [hm, if_neg (by omega)]; rfl
      rw [off1, hdn]
      obtain ⟨D1, D2⟩ := down_strips (ax := ax) (bx := bx) (i := i) h htu h64
      obtain ⟨V, hV⟩ : ∃ V, V = partV (atV ax bx ay b2 (topV ay j)) (topV ay j) (atV ax bx ay b2 (botV b2 j)) (botV b2 j) i := ⟨_, rfl⟩
      obtain ⟨d, hd⟩ : ∃ d, d = b2 - ay := ⟨_, rfl⟩
      obtain ⟨SL, hSL⟩ : ∃ SL, SL = sumZ (stripL ax ay bx b2 i (topV ay j)) (botV b2 j - topV ay j).toNat := ⟨_, rfl⟩
      obtain ⟨SH, hSH⟩ : ∃ SH, SH = sumZ (stripH ax ay bx b2 i (topV ay j)) (botV b2 j - topV ay j).toNat := ⟨_, rfl⟩
      rw [← hV, ← hd] at D1 D2
      rw [← hV, ← hd]
      rw [← hSH] at D1 nnH ⊢
      rw [← hSL] at D2 nnL ⊢
      rw [Int.tdiv_eq_ediv_of_nonneg nnL, Int.tdiv_eq_ediv_of_nonneg (by omega)]
      have a1 := Int.mul_ediv_add_emod SL d
      have a2 := Int.emod_nonneg SL (show d ≠ 0 by omega)
      have b1 := Int.mul_ediv_add_emod (SH + d - 1) d
      have b2' := Int.emod_lt_of_pos (SH + d - 1) (show 0 < d by omega)
      constructor
      · refine cancel_le (w := d) (by omega) ?_
        rw [Int.mul_left_comm, Int.mul_sub]
        omega
      · refine cancel_le (w := d) (by omega) ?_
        rw [Int.mul_left_comm, Int.mul_add]
        omega
  · have v : downV ax ay bx b2 i j = 0 := by
      unfold downV
      rw [if_pos (by unfold topV botV at htu; omega)]
    have z : (botV b2 j - topV ay j).toNat = 0 := by omega
    rw [v, z]
    simp only [sumZ]
    rw [Int.zero_tdiv, Int.tdiv_eq_ediv_of_nonneg (by omega), Int.ediv_eq_zero_of_lt (by omega) (by omega)]
    omega
/-- Of any chord: what it may count at least, and at most. -/
def loC (ax ay bx b2 i j : Int) : Int := lowV ax ay bx b2 i j - highV bx b2 ax ay i j - offV ax ay bx b2 i j - offV bx b2 ax ay i j
def hiC (ax ay bx b2 i j : Int) : Int := highV ax ay bx b2 i j - lowV bx b2 ax ay i j + offV ax ay bx b2 i j + offV bx b2 ax ay i j
theorem close_none {ax ay bx b2 : Int} (i j : Int) (h : b2 ≤ ay) : lowV ax ay bx b2 i j = 0 ∧ highV ax ay bx b2 i j = 0 ∧ offV ax ay bx b2 i j = 0 := by
  unfold lowV highV offV
  rw [if_pos (by omega), if_pos (by omega), if_pos (by omega)]; exact ⟨rfl, rfl, rfl⟩
theorem close_chord (ax ay bx b2 i j : Int) : 2 * loC ax ay bx b2 i j ≤ chordV ax ay bx b2 i j ∧ chordV ax ay bx b2 i j ≤ 2 * hiC ax ay bx b2 i j := by
  unfold loC hiC
  rcases Int.lt_trichotomy ay b2 with c | c | c
  · have n := close_none (ax := bx) (bx := ax) i j (show ay ≤ b2 by omega)
    have d := close_down (ax := ax) (bx := bx) i j c
    unfold chordV
    rw [if_neg (by omega)]
    omega
  · subst c
    have n := close_none (ax := bx) (bx := ax) i j (Int.le_refl ay)
    have m := close_none (ax := ax) (bx := bx) i j (Int.le_refl ay)
    rw [chordV_flat]
    omega
  · have n := close_none (ax := ax) (bx := bx) i j (show b2 ≤ ay by omega)
    have d := close_down (ax := bx) (bx := ax) i j c
    unfold chordV
    rw [if_pos c]
    omega
/-- Of all rings. -/
theorem close_out (L : Nat → List (Int × Int)) (N : Nat) (i j : Int) : 2 * outF (fun ax ay bx b2 => loC ax ay bx b2 i j) L N ≤ areaV L N i j ∧ areaV L N i j ≤ 2 * outF (fun ax ay bx b2 => hiC ax ay bx b2 i j) L N := by
  unfold areaV outF
  rw [← sumZ_mul, ← sumZ_mul]
  constructor
  · refine sumZ_le _ (fun r _ => ?_)
    unfold ringF
    rw [← sumZ_mul]
    exact sumZ_le _ (fun k _ => (close_chord _ _ _ _ i j).1)
  · refine sumZ_le _ (fun r _ => ?_)
    unfold ringF
    rw [← sumZ_mul]
    exact sumZ_le _ (fun k _ => (close_chord _ _ _ _ i j).2)
end Num
end Go.Proofs.Ytkhcjkmifddlbab

/- WhlV -/
namespace Go.Proofs.Ytkhcjkmifddlbab
namespace Num

/-- Twice what lies to the left of the pieces. -/
def trap : Int → Int → List (Int × Int) → Int
  | _, _, [] => 0
  | x, y, t :: r => (t.2 - y) * (x + t.1) + trap t.1 t.2 r
theorem trap_append (l r : List (Int × Int)) : ∀ x y, trap x y (l ++ r) = trap x y l + trap (lastS x y l).1 (lastS x y l).2 r := by
  induction l with
  | nil => intro x y; simp [trap, lastS]
  | cons t l ih => intro x y; simp only [List.cons_append, trap, lastS, ih]; omega
def trU (f : Int → Int) : Int → List Int → Int
  | _, [] => 0
  | u, v :: r => (v - u) * (f u + f v) + trU f v r
theorem trap_rows (f : Int → Int) : ∀ (l : List Int) (u : Int), trap (f u) u (l.map fun v => (f v, v)) = trU f u l := by
  intro l
  induction l with
  | nil => intro u; rfl
  | cons v r ih => intro u; simp only [List.map_cons, trap, trU, ih]
theorem trap_cols (f : Int → Int) : ∀ (l : List Int) (u : Int), trap u (f u) (l.map fun v => (v, f v)) = 2 * (lastI u l * f (lastI u l) - u * f u) - trU f u l := by
  intro l
  induction l with
  | nil => intro u; simp only [List.map_nil, trap, trU, lastI]; omega
  | cons v r ih =>
    intro u
    simp only [List.map_cons, trap, trU, lastI, ih]
    have e1 : (f v - f u) * (u + v) = f v * u + f v * v - f u * u - f u * v := by rw [Int.sub_mul, Int.mul_add, Int.mul_add]; omega
    have e2 : (v - u) * (f u + f v) = v * f u + v * f v - u * f u - u * f v := by rw [Int.sub_mul, Int.mul_add, Int.mul_add]; omega
    have c1 := Int.mul_comm (f v) u
    have c2 := Int.mul_comm (f v) v
    have c3 := Int.mul_comm (f u) u
    have c4 := Int.mul_comm (f u) v
    omega
theorem tr_step (D a c p u v fu fv : Int) : D * ((v - u) * (fu + fv)) = (v - u) * ((D * (fu - a) - c * (u - p)) + (D * (fv - a) - c * (v - p))) + 2 * (a * D) * (v - u) + c * ((v - p) * (v - p) - (u - p) * (u - p)) := by
  have e : (v - p) * (v - p) - (u - p) * (u - p) = (v - u) * ((u - p) + (v - p)) := by
    have := Int.mul_comm u v
    have := Int.mul_comm p u
    have := Int.mul_comm p v
    simp only [Int.mul_sub, Int.sub_mul, Int.mul_add]
    omega
  rw [e]
  have x1 : D * ((v - u) * (fu + fv)) = (v - u) * (D * fu) + (v - u) * (D * fv) := by
    rw [Int.mul_left_comm, Int.mul_add, Int.mul_add]
  have x2 : c * ((v - u) * ((u - p) + (v - p))) = (v - u) * (c * (u - p)) + (v - u) * (c * (v - p)) := by
    rw [Int.mul_left_comm, Int.mul_add, Int.mul_add]
  have x3 : 2 * (a * D) * (v - u) = (v - u) * (D * a) + (v - u) * (D * a) := by
    rw [Int.mul_assoc, Int.mul_comm a D, Int.mul_comm (D * a)]; omega
  rw [x1, x2, x3]
  simp only [Int.mul_add, Int.mul_sub (v - u), Int.mul_sub D]
  omega
theorem tr_err (f : Int → Int) (D a c p : Int) : ∀ (l : List Int) (u : Int), D * trU f u l = trU (fun v => D * (f v - a) - c * (v - p)) u l + 2 * (a * D) * (lastI u l - u) + c * ((lastI u l - p) * (lastI u l - p) - (u - p) * (u - p)) := by
  intro l
  induction l with
  | nil => intro u; simp only [trU, lastI, Int.sub_self, Int.mul_zero]; omega
  | cons v r ih =>
    intro u
    simp only [trU, lastI]
    rw [Int.mul_add, ih v, tr_step D a c p u v (f u) (f v)]
    simp only [Int.mul_sub]
    omega
theorem tr_bdU {E : Int → Int} {D : Int} : ∀ (l : List Int) (u : Int), StepsU u l → (∀ v ∈ u :: l, -D ≤ 2 * E v ∧ 2 * E v ≤ D) → -((lastI u l - u) * D) ≤ trU E u l ∧ trU E u l ≤ (lastI u l - u) * D := by
  intro l
  induction l with
  | nil => intro u _ _; simp [trU, lastI]
  | cons v r ih =>
    intro u h hE
    have h1 := ih v h.2.2.2 (fun w hw => hE w (List.mem_cons_of_mem _ hw))
    have h2 := hE u (by simp)
    have h3 := hE v (by simp)
    have h4 := h.1
    have m := mul_ge (a := E u + E v) (t := v - u) (B := D) (by omega) (by omega)
    rw [Int.mul_comm (E u + E v), Int.mul_comm D] at m
    simp only [trU, lastI]
    have e : (lastI v r - u) * D = (lastI v r - v) * D + (v - u) * D := by rw [← Int.add_mul]; congr 1; omega
    omega
theorem tr_bdD {E : Int → Int} {D : Int} : ∀ (l : List Int) (u : Int), StepsD u l → (∀ v ∈ u :: l, -D ≤ 2 * E v ∧ 2 * E v ≤ D) → -((u - lastI u l) * D) ≤ trU E u l ∧ trU E u l ≤ (u - lastI u l) * D := by
  intro l
  induction l with
  | nil => intro u _ _; simp [trU, lastI]
  | cons v r ih =>
    intro u h hE
    have h1 := ih v h.2.2.2 (fun w hw => hE w (List.mem_cons_of_mem _ hw))
    have h2 := hE u (by simp)
    have h3 := hE v (by simp)
    have h4 := h.1
    have m := mul_ge (a := E u + E v) (t := u - v) (B := D) (by omega) (by omega)
    rw [Int.mul_comm (E u + E v), Int.mul_comm D] at m
    simp only [trU, lastI]
    have e : (u - lastI v r) * D = (v - lastI v r) * D + (u - v) * D := by rw [← Int.add_mul]; congr 1; omega
    have e2 : (v - u) * (E u + E v) = -((u - v) * (E u + E v)) := by rw [← Int.neg_mul]; congr 1; omega
    omega
theorem tr_zero {E : Int → Int} : ∀ (l : List Int) (u : Int), (∀ v ∈ u :: l, E v = 0) → trU E u l = 0 := by
  intro l
  induction l with
  | nil => intro u _; rfl
  | cons v r ih =>
    intro u hE
    simp only [trU]
    rw [ih v (fun w hw => hE w (List.mem_cons_of_mem _ hw)), hE u (by simp), hE v (by simp)]; simp
/-- A line's rounded heights add up to the line's own, but for its length at most. -/
theorem tr_near {a b p q : Int} {l : List Int} (hp : -16384 ≤ p ∧ p ≤ 16384) (hq : -16384 ≤ q ∧ q ≤ 16384) (hne : p ≠ q) (hl : l = linesV p q ++ [q]) :
    sz (trU (atV a b p q) p l - (q - p) * (a + b)) ≤ sz (q - p) ∧ ((a = b ∨ sz (b - a) = sz (q - p)) → trU (atV a b p q) p l = (q - p) * (a + b)) := by
  obtain ⟨D, hD⟩ : ∃ D, D = sz (q - p) := ⟨_, rfl⟩
  obtain ⟨s, hs⟩ : ∃ s : Int, (s = 1 ∧ p < q) ∨ (s = -1 ∧ q < p) := by
    rcases Int.lt_or_le p q with c | c
    · exact ⟨1, .inl ⟨rfl, c⟩⟩
    · exact ⟨-1, .inr ⟨rfl, by omega⟩⟩
  have hD0 : 0 < D ∧ q - p = s * D := by
    rw [hD]; unfold sz
    rcases hs with ⟨rfl, c⟩ | ⟨rfl, c⟩ <;> split <;> omega
  have hE : ∀ v, -D ≤ 2 * (D * (atV a b p q v - a) - s * (b - a) * (v - p)) ∧ 2 * (D * (atV a b p q v - a) - s * (b - a) * (v - p)) ≤ D := by
    intro v
    rcases hs with ⟨rfl, c⟩ | ⟨rfl, c⟩
    · have h := atV_half (a := a) (b := b) (n := v) c
      rw [Int.one_mul]
      rw [show q - p = D by omega] at h
      exact h
    · have h := atV_half (a := b) (b := a) (n := v) c
      rw [atV_symm hne]
      rw [show p - q = D by omega] at h
      have e1 : D * (atV b a q p v - b) = D * (atV b a q p v - a) + D * (a - b) := by rw [← Int.mul_add]; congr 1; omega
      have e2 : (a - b) * (v - q) = -1 * (b - a) * (v - p) + D * (a - b) := by
        rw [show v - q = (v - p) + D by omega, Int.mul_add, Int.mul_comm (a - b) D, show -1 * (b - a) = a - b by omega]
      omega
  have hz : (a = b ∨ sz (b - a) = sz (q - p)) → ∀ v, D * (atV a b p q v - a) - s * (b - a) * (v - p) = 0 := by
    intro hc v
    have key : ∃ k : Int, s * (b - a) = D * k := by
      rcases hc with hc | hc
      · exact ⟨0, by rw [hc, Int.sub_self]; simp⟩
      · rw [← hD] at hc
        have : b - a = D ∨ b - a = -D := by unfold sz at hc; split at hc <;> omega
        rcases this with h | h
        · exact ⟨s, by rw [h, Int.mul_comm]⟩
        · exact ⟨-s, by rw [h, Int.mul_comm, Int.neg_mul, Int.mul_neg]⟩
    obtain ⟨k, hk⟩ := key
    have h := hE v
    rw [hk, Int.mul_assoc, ← Int.mul_sub] at h ⊢
    have : atV a b p q v - a - k * (v - p) = 0 := by
      obtain ⟨z, hz⟩ : ∃ z, z = atV a b p q v - a - k * (v - p) := ⟨_, rfl⟩
      rw [← hz] at h ⊢
      rcases Int.lt_trichotomy z 0 with c | c | c
      · have := Int.mul_le_mul_of_nonneg_left (show 1 ≤ -z by omega) (show 0 ≤ D by omega)
        rw [Int.mul_neg] at this; omega
      · exact c
      · have := Int.mul_le_mul_of_nonneg_left (show 1 ≤ z by omega) (show 0 ≤ D by omega)
        omega
    rw [this, Int.mul_zero]
  have T := tr_err (atV a b p q) D a (s * (b - a)) p l p
  have hlast : lastI p l = q := by rw [hl, lastI_snoc]
  rw [hlast] at T
  simp only [Int.sub_self, Int.mul_zero, Int.sub_zero] at T
  have hT : 2 * (a * D) * (q - p) + s * (b - a) * ((q - p) * (q - p)) = D * ((q - p) * (a + b)) := by
    rw [hD0.2]
    rcases hs with ⟨rfl, c⟩ | ⟨rfl, c⟩
    · simp only [Int.one_mul]
      have e1 : 2 * (a * D) * D = D * (D * a) + D * (D * a) := by rw [Int.mul_assoc, Int.mul_comm (a * D) D, Int.mul_comm a D]; omega
      have e2 : (b - a) * (D * D) = D * (D * b) - D * (D * a) := by rw [Int.mul_comm, Int.mul_assoc, Int.mul_sub, Int.mul_sub]
      rw [e1, e2, Int.mul_add, Int.mul_add]; omega
    · simp only [Int.neg_mul, Int.one_mul, Int.mul_neg, Int.neg_neg]
      have e1 : 2 * (a * D) * D = D * (D * a) + D * (D * a) := by rw [Int.mul_assoc, Int.mul_comm (a * D) D, Int.mul_comm a D]; omega
      have e2 : (b - a) * (D * D) = D * (D * b) - D * (D * a) := by rw [Int.mul_comm, Int.mul_assoc, Int.mul_sub, Int.mul_sub]
      rw [e1, e2, Int.mul_add, Int.mul_add]; omega
  constructor
  · have bd : -(D * D) ≤ trU (fun v => D * (atV a b p q v - a) - s * (b - a) * (v - p)) p l ∧ trU (fun v => D * (atV a b p q v - a) - s * (b - a) * (v - p)) p l ≤ D * D := by
      rcases hs with ⟨rfl, c⟩ | ⟨rfl, c⟩
      · have h := tr_bdU (E := fun v => D * (atV a b p q v - a) - 1 * (b - a) * (v - p)) (D := D) l p (steps_up c hp.1 hq.2 hl) (fun v _ => hE v)
        rw [hlast, show q - p = D by omega] at h
        exact h
      · have h := tr_bdD (E := fun v => D * (atV a b p q v - a) - -1 * (b - a) * (v - p)) (D := D) l p (steps_dn c hp.2 hq.1 hl) (fun v _ => hE v)
        rw [hlast, show p - q = D by omega] at h
        exact h
    rw [← hD]
    have h1 : trU (atV a b p q) p l - (q - p) * (a + b) ≤ D := by
      refine cancel_le hD0.1 ?_
      rw [Int.mul_sub]; omega
    have h2 : -D ≤ trU (atV a b p q) p l - (q - p) * (a + b) := by
      refine cancel_le hD0.1 ?_
      rw [Int.mul_sub, Int.mul_neg]; omega
    exact (sz_bd h2 h1).2
  · intro hc
    have z := tr_zero (E := fun v => D * (atV a b p q v - a) - s * (b - a) * (v - p)) l p (fun v _ => hz hc v)
    rw [z] at T
    have h1 : trU (atV a b p q) p l ≤ (q - p) * (a + b) := cancel_le hD0.1 (by omega)
    have h2 : (q - p) * (a + b) ≤ trU (atV a b p q) p l := cancel_le hD0.1 (by omega)
    omega
end Num
end Go.Proofs.Ytkhcjkmifddlbab

/- WhlW -/
namespace Go.Proofs.Ytkhcjkmifddlbab
namespace Num

theorem col_near {px py qx qy : Int} (hp : -16384 ≤ px ∧ px ≤ 16384) (hq : -16384 ≤ qx ∧ qx ≤ 16384) {L : List (Int × Int)} (hL : L = colsV px py qx qy ++ [(qx, qy)]) :
    sz (trap px py L - (qy - py) * (px + qx)) ≤ sz (qx - px) ∧ ((px = qx ∨ py = qy ∨ sz (qy - py) = sz (qx - px)) → trap px py L = (qy - py) * (px + qx)) := by
  by_cases e : px = qx
  · subst e
    have e : colsV px py px qy = [] := by unfold colsV linesV; rw [upR_none _ (Int.le_refl _), dnR_none _ (Int.le_refl _)]; rfl
    rw [e, List.nil_append] at hL
    subst hL
    simp only [trap, Int.add_zero, Int.sub_self]
    exact ⟨Int.le_refl _, fun _ => trivial⟩
  · have glue : colsV px py qx qy ++ [(qx, qy)] = (linesV px qx ++ [qx]).map fun v => (v, atV py qy px qx v) := by
      rw [List.map_append, List.map_cons, List.map_nil, atV_end e]; rfl
    rw [glue] at hL
    generalize hl : linesV px qx ++ [qx] = l at hL
    obtain ⟨T1, T2⟩ := tr_near (a := py) (b := qy) hp hq e hl.symm
    have C := trap_cols (atV py qy px qx) l px
    have hlast : lastI px l = qx := by rw [← hl, lastI_snoc]
    rw [hlast, atV_begin e, atV_end e] at C
    rw [← hL] at C
    have id : 2 * (qx * qy - px * py) - (qx - px) * (py + qy) = (qy - py) * (px + qx) := by
      have c1 := Int.mul_comm qy px
      have c2 := Int.mul_comm qy qx
      have c3 := Int.mul_comm py px
      have c4 := Int.mul_comm py qx
      simp only [Int.sub_mul, Int.mul_add]
      omega
    refine ⟨?_, fun hc => ?_⟩
    · have : trap px py L - (qy - py) * (px + qx) = -(trU (atV py qy px qx) px l - (qx - px) * (py + qy)) := by omega
      rw [this]
      have : ∀ z : Int, sz (-z) = sz z := by
        intro z; unfold sz; repeat' split
        all_goals omega
      rw [this]; exact T1
    · have := T2 (by rcases hc with hc | hc | hc; exact absurd hc e; exact .inl hc; exact .inr hc)
      omega
/-- Always the same way. -/
def MonS (s : Int) (X : Int → Int) : Int → List Int → Prop
  | _, [] => True
  | u, v :: r => 0 ≤ s * (X v - X u) ∧ MonS s X v r
theorem row_near (X : Int → Int) (s : Int) (hs : s = 1 ∨ s = -1) : ∀ (l : List Int) (y : Int), MonS s X y l → (∀ v ∈ y :: l, -16384 ≤ X v ∧ X v ≤ 16384) → ∀ L, L = cutF (X y) y (l.map fun v => (X v, v)) → sz (trap (X y) y L - trU X y l) ≤ s * (X (lastI y l) - X y) := by
  intro l
  induction l with
  | nil => intro y _ _ L hL; subst hL; simp [cutF, trap, trU, lastI, sz]
  | cons v r ih =>
    intro y h hx L hL
    rw [List.map_cons, show cutF (X y) y ((X v, v) :: r.map fun v => (X v, v)) = colsV (X y) y (X v) v ++ (X v, v) :: cutF (X v) v (r.map fun v => (X v, v)) from rfl] at hL
    rw [show colsV (X y) y (X v) v ++ (X v, v) :: cutF (X v) v (r.map fun v => (X v, v)) = (colsV (X y) y (X v) v ++ [(X v, v)]) ++ cutF (X v) v (r.map fun v => (X v, v)) by simp] at hL
    generalize hc : colsV (X y) y (X v) v ++ [(X v, v)] = c at hL
    generalize hd : cutF (X v) v (r.map fun v => (X v, v)) = d at hL
    subst hL
    have h1 := (col_near (hx y (by simp)) (hx v (by simp)) hc.symm).1
    have h2 := ih v h.2 (fun u hu => hx u (List.mem_cons_of_mem _ hu)) d hd.symm
    rw [trap_append]
    have e : lastS (X y) y c = (X v, v) := by rw [← hc, lastS_snoc]
    rw [e]
    simp only [trU, lastI]
    have h3 := h.1
    have h4 : sz (X v - X y) = s * (X v - X y) := by
      rcases hs with rfl | rfl <;> unfold sz <;> split <;> omega
    have h5 := sz_add (trap (X y) y c - (v - y) * (X y + X v)) (trap (X v) v d - trU X v r)
    have h6 : trap (X y) y c - (v - y) * (X y + X v) + (trap (X v) v d - trU X v r) = trap (X y) y c + trap (X v) v d - ((v - y) * (X y + X v) + trU X v r) := by omega
    rw [h6] at h5
    have h7 : s * (X (lastI v r) - X y) = s * (X (lastI v r) - X v) + s * (X v - X y) := by rw [← Int.mul_add, show X (lastI v r) - X v + (X v - X y) = X (lastI v r) - X y by omega]
    omega
theorem row_exact (X : Int → Int) : ∀ (l : List Int) (y : Int), (∀ u v, X u = X v ∨ sz (v - u) = sz (X v - X u)) → (∀ v ∈ y :: l, -16384 ≤ X v ∧ X v ≤ 16384) → ∀ L, L = cutF (X y) y (l.map fun v => (X v, v)) → trap (X y) y L = trU X y l := by
  intro l
  induction l with
  | nil => intro y _ _ L hL; subst hL; rfl
  | cons v r ih =>
    intro y h hx L hL
    rw [List.map_cons, show cutF (X y) y ((X v, v) :: r.map fun v => (X v, v)) = colsV (X y) y (X v) v ++ (X v, v) :: cutF (X v) v (r.map fun v => (X v, v)) from rfl] at hL
    rw [show colsV (X y) y (X v) v ++ (X v, v) :: cutF (X v) v (r.map fun v => (X v, v)) = (colsV (X y) y (X v) v ++ [(X v, v)]) ++ cutF (X v) v (r.map fun v => (X v, v)) by simp] at hL
    generalize hc : colsV (X y) y (X v) v ++ [(X v, v)] = c at hL
    generalize hd : cutF (X v) v (r.map fun v => (X v, v)) = d at hL
    subst hL
    have h0 : X y = X v ∨ y = v ∨ sz (v - y) = sz (X v - X y) := by
      rcases h y v with h0 | h0
      · exact Or.inl h0
      · exact Or.inr (Or.inr h0)
    have h9 := col_near (hx y (by simp)) (hx v (by simp)) hc.symm
    have h1 := h9.2 h0
    have h2 := ih v h (fun u hu => hx u (List.mem_cons_of_mem _ hu)) d hd.symm
    rw [trap_append]
    have e : lastS (X y) y c = (X v, v) := by rw [← hc, lastS_snoc]
    rw [e]
    simp only [trU]
    rw [h1, h2]
theorem diag {a b p q : Int} (hne : p ≠ q) (h : sz (b - a) = sz (q - p)) : ∃ k : Int, (k = 1 ∨ k = -1) ∧ ∀ v, atV a b p q v = a + k * (v - p) := by
  have up : ∀ {a b p q k : Int}, p < q → b - a = k * (q - p) → ∀ v, atV a b p q v = a + k * (v - p) := by
    intro a b p q k hlt hk v
    rw [atV_eq (by omega), if_neg (by omega), hk]
    have := hu_add (k * (v - p)) 0 (q - p) (by omega)
    rw [Int.add_zero] at this
    rw [show k * (q - p) * (v - p) = k * (v - p) * (q - p) by rw [Int.mul_assoc, Int.mul_comm (q - p), Int.mul_assoc], this]
    have h0 : hu 0 (q - p) = 0 := hu_of 0 _ 0 (by omega) (by omega) (by omega)
    omega
  have hk : b - a = q - p ∨ b - a = -(q - p) := by unfold sz at h; split at h <;> split at h <;> omega
  rcases Int.lt_or_le p q with c | c
  · rcases hk with hk | hk
    · exact ⟨1, .inl rfl, up c (by omega)⟩
    · exact ⟨-1, .inr rfl, up c (by omega)⟩
  · rcases hk with hk | hk
    · refine ⟨1, .inl rfl, fun v => ?_⟩
      rw [atV_symm hne, up (k := 1) (show q < p by omega) (by omega)]; omega
    · refine ⟨-1, .inr rfl, fun v => ?_⟩
      rw [atV_symm hne, up (k := -1) (show q < p by omega) (by omega)]; omega
def offW (ax ay bx b2 : Int) : Int := if sz (bx - ax) ≠ 0 ∧ sz (b2 - ay) ≠ 0 ∧ sz (bx - ax) ≠ sz (b2 - ay) then sz (bx - ax) + sz (b2 - ay) else 0
theorem monU {X : Int → Int} {s : Int} (hX : ∀ n m, n ≤ m → 0 ≤ s * (X m - X n)) : ∀ (l : List Int) (u : Int), StepsU u l → MonS s X u l := by
  intro l
  induction l with
  | nil => intro u _; trivial
  | cons v r ih => intro u h; exact ⟨hX u v (by have := h.1; omega), ih v h.2.2.2⟩
theorem monD {X : Int → Int} {s : Int} (hX : ∀ n m, n ≤ m → 0 ≤ s * (X n - X m)) : ∀ (l : List Int) (u : Int), StepsD u l → MonS s X u l := by
  intro l
  induction l with
  | nil => intro u _; trivial
  | cons v r ih => intro u h; exact ⟨hX v u (by have := h.1; omega), ih v h.2.2.2⟩
/-- A cut chord against the chord. -/
theorem chord_whole {ax ay bx b2 : Int} (ha : inB ax ay = true) (hb : inB bx b2 = true) {L : List (Int × Int)} (hL : L = cutF ax ay (rowsV ax ay bx b2 ++ [(bx, b2)])) : sz (trap ax ay L - (b2 - ay) * (ax + bx)) ≤ offW ax ay bx b2 := by
  have a := inB_yes ha
  have b := inB_yes hb
  have s0 : sz 0 = 0 := rfl
  by_cases hne : ay = b2
  · subst hne
    have e : rowsV ax ay bx ay = [] := by unfold rowsV linesV; rw [upR_none _ (Int.le_refl _), dnR_none _ (Int.le_refl _)]; rfl
    rw [e, List.nil_append, show cutF ax ay [(bx, ay)] = colsV ax ay bx ay ++ [(bx, ay)] from rfl] at hL
    have h := (col_near a.1 b.1 hL).2 (.inr (.inl rfl))
    rw [h, Int.sub_self, s0]
    unfold offW
    split
    · rename_i c; rw [Int.sub_self, s0] at c; omega
    · omega
  · have rng : ∀ l, l = linesV ay b2 ++ [b2] → ∀ v ∈ ay :: l, -16384 ≤ atV ax bx ay b2 v ∧ atV ax bx ay b2 v ≤ 16384 := by
      intro l hl v hv
      rw [List.mem_cons, hl, List.mem_append, List.mem_singleton] at hv
      apply atV_rng _ (by omega) (by omega)
      rcases hv with hv | hv | hv
      · omega
      · have := linesV_mem hv; omega
      · omega
    have glue : rowsV ax ay bx b2 ++ [(bx, b2)] = (linesV ay b2 ++ [b2]).map fun v => (atV ax bx ay b2 v, v) := by
      rw [List.map_append, List.map_cons, List.map_nil, atV_end hne]; rfl
    rw [glue] at hL
    generalize hl : linesV ay b2 ++ [b2] = l at hL
    obtain ⟨T1, T2⟩ := tr_near (a := ax) (b := bx) a.2 b.2 hne hl.symm
    have hlast : lastI ay l = b2 := by rw [← hl, lastI_snoc]
    have b0 := atV_begin (a := ax) (b := bx) hne
    have hLs : L = cutF (atV ax bx ay b2 ay) ay (l.map fun v => (atV ax bx ay b2 v, v)) := by rw [b0]; exact hL
    unfold offW
    by_cases c : sz (bx - ax) ≠ 0 ∧ sz (b2 - ay) ≠ 0 ∧ sz (bx - ax) ≠ sz (b2 - ay)
    · rw [if_pos c]
      have hm : ∃ s : Int, (s = 1 ∨ s = -1) ∧ MonS s (atV ax bx ay b2) ay l ∧ s * (bx - ax) = sz (bx - ax) := by
        rcases Int.lt_or_le ay b2 with d | d
        · have st := steps_up d a.2.1 b.2.2 hl.symm
          rcases Int.le_total ax bx with f | f
          · exact ⟨1, .inl rfl, monU (fun n m h => by have := atV_mono (a := ax) (b := bx) d f h; omega) l ay st, by rw [sz_pos (by omega)]; omega⟩
          · exact ⟨-1, .inr rfl, monU (fun n m h => by have := atV_anti (a := ax) (b := bx) d f h; omega) l ay st, by rw [sz_neg (by omega)]; omega⟩
        · have d : b2 < ay := by omega
          have st := steps_dn d a.2.2 b.2.1 hl.symm
          have sy : atV ax bx ay b2 = atV bx ax b2 ay := by funext n; exact atV_symm hne
          rw [sy]
          rcases Int.le_total ax bx with f | f
          · exact ⟨1, .inl rfl, monD (fun n m h => by have := atV_anti (a := bx) (b := ax) d f h; omega) l ay st, by rw [sz_pos (by omega)]; omega⟩
          · exact ⟨-1, .inr rfl, monD (fun n m h => by have := atV_mono (a := bx) (b := ax) d f h; omega) l ay st, by rw [sz_neg (by omega)]; omega⟩
      obtain ⟨s, hs, hmon, hsz⟩ := hm
      have R := row_near (atV ax bx ay b2) s hs l ay hmon (rng l hl.symm) L hLs
      rw [hlast, b0, atV_end hne, hsz] at R
      have h5 := sz_add (trap ax ay L - trU (atV ax bx ay b2) ay l) (trU (atV ax bx ay b2) ay l - (b2 - ay) * (ax + bx))
      rw [show trap ax ay L - trU (atV ax bx ay b2) ay l + (trU (atV ax bx ay b2) ay l - (b2 - ay) * (ax + bx)) = trap ax ay L - (b2 - ay) * (ax + bx) by omega] at h5
      omega
    · rw [if_neg c]
      have c2 : ax = bx ∨ sz (bx - ax) = sz (b2 - ay) := by
        have y0 : sz (b2 - ay) ≠ 0 := by unfold sz; split <;> omega
        by_cases x0 : ax = bx
        · exact .inl x0
        · have x1 : sz (bx - ax) ≠ 0 := by unfold sz; split <;> omega
          right
          by_cases z : sz (bx - ax) = sz (b2 - ay)
          · exact z
          · exact absurd ⟨x1, y0, z⟩ c
      have hX : ∀ u v, atV ax bx ay b2 u = atV ax bx ay b2 v ∨ sz (v - u) = sz (atV ax bx ay b2 v - atV ax bx ay b2 u) := by
        intro u v
        rcases c2 with c2 | c2
        · left; rw [c2, atV_same hne, atV_same hne]
        · right
          obtain ⟨k, hk, hv⟩ := diag hne c2
          rw [hv, hv]
          rcases hk with rfl | rfl <;> unfold sz <;> split <;> split <;> omega
      have R := row_exact (atV ax bx ay b2) l ay hX (rng l hl.symm) L hLs
      rw [b0] at R
      rw [R, T2 c2, Int.sub_self, s0]
      exact Int.le_refl _
end Num
end Go.Proofs.Ytkhcjkmifddlbab

/- WhlX -/
namespace Go.Proofs.Ytkhcjkmifddlbab
namespace Num

theorem sumZ_split (f : Nat → Int) (m : Nat) : ∀ n, sumZ f (m + n) = sumZ f m + sumZ (fun k => f (m + k)) n := by
  intro n
  induction n with
  | zero => simp [sumZ]
  | succ n ih => rw [← Nat.add_assoc]; simp only [sumZ, ih]; omega
theorem sumZ_grid (f : Nat → Nat → Int) (W : Nat) : ∀ H, sumZ (fun k => f (k % W) (k / W)) (W * H) = sumZ (fun j => sumZ (fun i => f i j) W) H := by
  intro H
  induction H with
  | zero => simp [sumZ]
  | succ H ih =>
    rw [Nat.mul_succ, sumZ_split, ih]
    simp only [sumZ]
    congr 1
    apply sumZ_congr
    intro k hk
    rw [Nat.mul_add_mod, Nat.mod_eq_of_lt hk, Nat.mul_add_div (by omega), Nat.div_eq_of_lt hk, Nat.add_zero]
/-- All pixels of a window. -/
def winS (W H : Nat) (A : Nat → Nat → Int) : Int := sumZ (fun k => A (k % W) (k / W)) (W * H)
theorem winS_add (W H : Nat) (A B : Nat → Nat → Int) : winS W H (fun i j => A i j + B i j) = winS W H A + winS W H B := by
  unfold winS; rw [← sumZ_add]
theorem winS_congr {W H : Nat} {A B : Nat → Nat → Int} (h : ∀ i j, A i j = B i j) : winS W H A = winS W H B := by
  unfold winS; exact sumZ_congr _ (fun k _ => h _ _)
theorem winS_zero (W H : Nat) : winS W H (fun _ _ => 0) = 0 := by
  unfold winS; rw [sumZ_const, Int.mul_zero]
theorem sumZ_zero (n : Nat) : sumZ (fun _ => 0) n = 0 := by rw [sumZ_const, Int.mul_zero]
theorem winS_sum (W H : Nat) (A : Nat → Nat → Nat → Int) : ∀ n, winS W H (fun i j => sumZ (fun k => A k i j) n) = sumZ (fun k => winS W H (A k)) n := by
  intro n
  induction n with
  | zero => exact winS_zero W H
  | succ n ih => simp only [sumZ]; rw [winS_add, ih]
theorem sum_cl {x : Int} (hx : 0 ≤ x) : ∀ n : Nat, sumZ (fun i => cl (64 * (i : Int) + 64 - x)) n = if 64 * (n : Int) - x < 0 then 0 else 64 * (n : Int) - x := by
  intro n
  induction n with
  | zero => simp only [sumZ]; split <;> omega
  | succ n ih =>
    simp only [sumZ, ih]
    unfold cl
    repeat' split
    all_goals omega
theorem sumZ_single {z : Int} {r : Nat} : ∀ n : Nat, r < n → sumZ (fun j => if j = r then z else 0) n = z := by
  have none : ∀ n : Nat, n ≤ r → sumZ (fun j => if j = r then z else 0) n = 0 := by
    intro n
    induction n with
    | zero => intro _; rfl
    | succ n ih => intro h; simp only [sumZ]; rw [ih (by omega), if_neg (by omega)]; rfl
  intro n
  induction n with
  | zero => intro h; omega
  | succ n ih =>
    intro h
    simp only [sumZ]
    by_cases e : n = r
    · rw [none n (by omega), if_pos e]; omega
    · rw [ih (by omega), if_neg e]; omega
theorem sumZ_mulr (f : Nat → Int) (t : Int) (n : Nat) : sumZ (fun k => t * f k) n = t * sumZ f n := sumZ_mul t f n
theorem piece_whole {W H : Nat} {x0 y0 x1 y1 : Int} (hy : noL y0 y1) (h0 : 0 ≤ x0 ∧ x0 ≤ 64 * W) (h1 : 0 ≤ x1 ∧ x1 ≤ 64 * W) (h2 : 0 ≤ y0 ∧ y0 ≤ 64 * H) (h3 : 0 ≤ y1 ∧ y1 ≤ 64 * H) :
    winS W H (fun i j => if inRow j y0 y1 = true then pieceA i x0 y0 x1 y1 else 0) = (y1 - y0) * (128 * W - x0 - x1) := by
  by_cases e : y0 = y1
  · subst e
    rw [winS_congr (B := fun _ _ => 0) (fun i j => by unfold pieceA; rw [Int.sub_self, Int.zero_mul]; split <;> rfl), winS_zero, Int.sub_self, Int.zero_mul]
  · obtain ⟨r, r1, r2⟩ := noL_row hy
    obtain ⟨rn, hrn⟩ : ∃ rn : Nat, r = rn := ⟨r.toNat, by omega⟩
    have key : ∀ j : Nat, inRow j y0 y1 = true ↔ j = rn := by
      intro j
      unfold inRow
      simp
      omega
    unfold winS
    rw [sumZ_grid (fun i j => if inRow j y0 y1 = true then pieceA i x0 y0 x1 y1 else 0) W H]
    rw [sumZ_congr (g := fun j => if j = rn then sumZ (fun i => pieceA i x0 y0 x1 y1) W else 0) H (fun j _ => by
      by_cases c : j = rn
      · rw [if_pos c]; exact sumZ_congr _ (fun i _ => by rw [if_pos ((key j).2 c)])
      · rw [if_neg c]
        exact (sumZ_congr (g := fun _ => 0) _ (fun i _ => by rw [if_neg (fun d => c ((key j).1 d))])).trans (sumZ_zero W))]
    rw [sumZ_single H (by omega)]
    unfold pieceA
    rw [sumZ_mul, sumZ_add, sum_cl h0.1, sum_cl h1.1, if_neg (by omega), if_neg (by omega)]
    congr 1
    omega
/-- In the window. -/
def BoxP (W H : Nat) (t : Int × Int) : Prop := (0 ≤ t.1 ∧ t.1 ≤ 64 * W) ∧ 0 ≤ t.2 ∧ t.2 ≤ 64 * H
theorem list_whole {W H : Nat} : ∀ (l : List (Int × Int)) (x y : Int), PcOk x y l → BoxP W H (x, y) → (∀ t ∈ l, BoxP W H t) → winS W H (fun i j => sumP i j x y l) = 128 * W * ((lastS x y l).2 - y) - trap x y l := by
  intro l
  induction l with
  | nil => intro x y _ _ _; simp only [sumP, lastS, trap, Int.sub_self, Int.mul_zero]; exact winS_zero W H
  | cons t r ih =>
    intro x y h hb hl
    have ht := hl t (by simp)
    have I := ih t.1 t.2 h.2.2 ht (fun u hu => hl u (List.mem_cons_of_mem _ hu))
    simp only [sumP, lastS, trap]
    have Q := piece_whole (x0 := x) (y0 := y) h.2.1 hb.1 ht.1 hb.2 ht.2
    rw [winS_add W H (fun i j => if inRow j y t.2 = true then pieceA i x y t.1 t.2 else 0) (fun i j => sumP i j t.1 t.2 r), I, Q]
    have e1 : (t.2 - y) * (128 * (W : Int) - x - t.1) = 128 * (W : Int) * (t.2 - y) - (t.2 - y) * (x + t.1) := by
      rw [Int.mul_comm (128 * (W : Int)), ← Int.mul_sub]; congr 1; omega
    have e2 : 128 * (W : Int) * ((lastS t.1 t.2 r).2 - y) = 128 * (W : Int) * ((lastS t.1 t.2 r).2 - t.2) + 128 * (W : Int) * (t.2 - y) := by
      rw [← Int.mul_add]; congr 1; omega
    omega
theorem cols_box {W H : Nat} {ax ay bx b2 : Int} (ha : BoxP W H (ax, ay)) (hb : BoxP W H (bx, b2)) : ∀ t ∈ colsV ax ay bx b2, BoxP W H t := by
  intro t ht
  unfold colsV at ht
  rw [List.mem_map] at ht
  obtain ⟨x, hx, rfl⟩ := ht
  have h := linesV_mem hx
  have a1 := ha.1
  have b1 := hb.1
  simp only at a1 b1
  exact ⟨⟨by show 0 ≤ x; omega, by show x ≤ _; omega⟩, atV_rng (by omega) ha.2 hb.2⟩
theorem rows_box {W H : Nat} {ax ay bx b2 : Int} (ha : BoxP W H (ax, ay)) (hb : BoxP W H (bx, b2)) : ∀ t ∈ rowsV ax ay bx b2, BoxP W H t := by
  intro t ht
  unfold rowsV at ht
  rw [List.mem_map] at ht
  obtain ⟨y, hy, rfl⟩ := ht
  have h := linesV_mem hy
  have a1 := ha.2
  have b1 := hb.2
  simp only at a1 b1
  exact ⟨atV_rng (by omega) ha.1 hb.1, by show 0 ≤ y; omega, by show y ≤ _; omega⟩
theorem cutF_box {W H : Nat} : ∀ (r : List (Int × Int)) (x y : Int), BoxP W H (x, y) → (∀ t ∈ r, BoxP W H t) → ∀ t ∈ cutF x y r, BoxP W H t := by
  intro r
  induction r with
  | nil => intro x y _ _ t ht; cases ht
  | cons u r ih =>
    intro x y h hr t ht
    have hu := hr u (by simp)
    simp only [cutF, List.mem_append, List.mem_cons] at ht
    rcases ht with ht | ht | ht
    · exact cols_box h hu t ht
    · rw [ht]; exact hu
    · exact ih u.1 u.2 hu (fun v hv => hr v (by simp [hv])) t ht
theorem cutF_last (r : List (Int × Int)) (t : Int × Int) (x y : Int) : lastS x y (cutF x y (r ++ [t])) = t := by
  rw [cutF_snoc, lastS_snoc]
/-- One chord, all pixels: up to how much its cuts are off. -/
theorem chord_window {W H : Nat} {ax ay bx b2 : Int} (hW : W ≤ 64) (hH : H ≤ 64) (ha : BoxP W H (ax, ay)) (hb : BoxP W H (bx, b2)) :
    sz (winS W H (fun i j => chordV ax ay bx b2 i j) + (ax + bx) * (b2 - ay) - 128 * W * (b2 - ay)) ≤ offW ax ay bx b2 := by
  have a1 := ha.1
  have a2 := ha.2
  have b1 := hb.1
  have b2' := hb.2
  simp only at a1 a2 b1 b2'
  have ia : inB ax ay = true := inB_of (by omega) (by omega)
  have ib : inB bx b2 = true := inB_of (by omega) (by omega)
  generalize hL : cutF ax ay (rowsV ax ay bx b2 ++ [(bx, b2)]) = L
  have C := chord_whole ia ib hL.symm
  have P := pcOk_cut ia ib hL.symm
  have B : ∀ t ∈ L, BoxP W H t := by
    intro t ht
    rw [← hL] at ht
    refine cutF_box _ _ _ ha (fun u hu => ?_) t ht
    rw [List.mem_append, List.mem_singleton] at hu
    rcases hu with hu | hu
    · exact rows_box ha hb u hu
    · rw [hu]; exact hb
  have S := list_whole L ax ay P ha B
  have e : lastS ax ay L = (bx, b2) := by rw [← hL, cutF_last]
  rw [e] at S
  rw [winS_congr (B := fun i j => sumP i j ax ay L) (fun i j => by rw [← hL, chord_sum _ _ ia ib]), S]
  have c := Int.mul_comm (b2 - ay) (ax + bx)
  have : 128 * (W : Int) * (b2 - ay) - trap ax ay L + (ax + bx) * (b2 - ay) - 128 * (W : Int) * (b2 - ay) = -(trap ax ay L - (b2 - ay) * (ax + bx)) := by omega
  simp only
  rw [this]
  have sn : ∀ z : Int, sz (-z) = sz z := by
    intro z; unfold sz; repeat' split
    all_goals omega
  rw [sn]; exact C
theorem sumZ_tele (g : Nat → Int) : ∀ n, sumZ (fun k => g (k + 1) - g k) n = g n - g 0 := by
  intro n
  induction n with
  | zero => simp [sumZ]
  | succ n ih => simp only [sumZ, ih]; omega
theorem ring_tele (g : Nat → Int) (n : Nat) : sumZ (fun k => g (nxR n k) - g k) n = 0 := by
  cases n with
  | zero => rfl
  | succ m =>
    simp only [sumZ]
    rw [sumZ_congr (g := fun k => g (k + 1) - g k) m (fun k hk => by unfold nxR; rw [if_pos (by omega)]), sumZ_tele]
    unfold nxR
    rw [if_neg (by omega)]
    omega
theorem sumZ_sz {f g : Nat → Int} : ∀ n : Nat, (∀ k, k < n → sz (f k) ≤ g k) → sz (sumZ f n) ≤ sumZ g n := by
  intro n
  induction n with
  | zero => intro _; exact Int.le_refl _
  | succ n ih =>
    intro h
    have h1 := ih (fun k hk => h k (by omega))
    have h2 := h n (by omega)
    have h3 := sz_add (sumZ f n) (f n)
    simp only [sumZ]
    omega
def trapV (ax ay bx b2 : Int) : Int := (ax + bx) * (b2 - ay)
theorem ring_window {W H : Nat} {l : List (Int × Int)} (hW : W ≤ 64) (hH : H ≤ 64) (hl : ∀ t ∈ l, BoxP W H t) :
    sz (winS W H (fun i j => ringF (chA i j) l) + ringF trapV l) ≤ ringF offW l := by
  have hat : ∀ k, k < l.length → BoxP W H (ats l k) := fun k hk => by rw [ats_at hk]; exact hl _ (List.getElem_mem hk)
  have key := sumZ_sz (f := fun k => winS W H (fun i j => chF (chA i j) l k) + chF trapV l k - 128 * W * ((ats l (nxR l.length k)).2 - (ats l k).2)) (g := chF offW l) l.length (fun k hk =>
    chord_window hW hH (hat k hk) (hat _ (nxR_lt hk)))
  have e : sumZ (fun k => winS W H (fun i j => chF (chA i j) l k) + chF trapV l k - 128 * W * ((ats l (nxR l.length k)).2 - (ats l k).2)) l.length = winS W H (fun i j => ringF (chA i j) l) + ringF trapV l := by
    have e1 : ∀ (p q r : Nat → Int) n, sumZ (fun k => p k + q k - r k) n = sumZ p n + sumZ q n - sumZ r n := by
      intro p q r n
      induction n with
      | zero => simp [sumZ]
      | succ n ih => simp only [sumZ, ih]; omega
    rw [e1, sumZ_mul, ring_tele (fun k => (ats l k).2), Int.mul_zero, Int.sub_zero]
    unfold ringF
    rw [winS_sum W H (fun k i j => chF (chA i j) l k)]
  rw [e] at key
  exact key
/-- All rings, all pixels. -/
theorem whole_out {W H : Nat} {L : Nat → List (Int × Int)} {N : Nat} (hW : W ≤ 64) (hH : H ≤ 64) (hl : ∀ r, r < N → ∀ t ∈ L r, BoxP W H t) :
    sz (winS W H (fun i j => areaV L N i j) + outF trapV L N) ≤ outF offW L N := by
  unfold areaV outF
  rw [winS_sum W H (fun r i j => ringF (chA i j) (L r)), ← sumZ_add]
  exact sumZ_sz _ (fun r hr => ring_window hW hH (hl r hr))
end Num
end Go.Proofs.Ytkhcjkmifddlbab

/- FlV -/
namespace Go.Proofs.Ytkhcjkmifddlbab
namespace Num

/-- Chord k of a ring. -/
def chM (i j : Int) (l : List (Int × Int)) (k : Nat) : Bool := meetsV (ats l k).1 (ats l k).2 (ats l (nxR l.length k)).1 (ats l (nxR l.length k)).2 i j
def chX (i j : Int) (ax ay bx b2 : Int) : Int := crossV ax ay bx b2 i j
theorem cross_bd (ax ay bx b2 i j : Int) : -1 ≤ crossV ax ay bx b2 i j ∧ crossV ax ay bx b2 i j ≤ 1 := by
  unfold crossV; repeat' split
  all_goals omega
theorem ring_flatF {l : List (Int × Int)} {i j : Int} (h : ∀ k, k < l.length → chM i j l k = false) : ringF (chA i j) l = 8192 * ringF (chX i j) l := by
  have e : ∀ n, n ≤ l.length → sumZ (chF (chA i j) l) n = 8192 * sumZ (chF (chX i j) l) n + sumZ (fun k => spotG i j (ats l (nxR l.length k)).1 (ats l (nxR l.length k)).2 - spotG i j (ats l k).1 (ats l k).2) n := by
    intro n
    induction n with
    | zero => intro _; simp [sumZ]
    | succ n ih =>
      intro hn
      have h1 := ih (by omega)
      have h2 := flat_chord (h n (by omega))
      simp only [sumZ]
      rw [h1]
      have e1 : chF (chA i j) l n = chordV (ats l n).1 (ats l n).2 (ats l (nxR l.length n)).1 (ats l (nxR l.length n)).2 i j := rfl
      have e2 : chF (chX i j) l n = crossV (ats l n).1 (ats l n).2 (ats l (nxR l.length n)).1 (ats l (nxR l.length n)).2 i j := rfl
      rw [e1, e2, h2]
      omega
  have t := ring_tele (fun k => spotG i j (ats l k).1 (ats l k).2) l.length
  unfold ringF
  rw [e _ (Nat.le_refl _), t]
  omega
theorem flat_out {L : Nat → List (Int × Int)} {N : Nat} {i j : Int} (h : ∀ r, r < N → ∀ k, k < (L r).length → chM i j (L r) k = false) : areaV L N i j = 8192 * outF (chX i j) L N := by
  unfold areaV outF
  have e : ∀ n, n ≤ N → sumZ (fun r => ringF (chA i j) (L r)) n = 8192 * sumZ (fun r => ringF (chX i j) (L r)) n := by
    intro n
    induction n with
    | zero => intro _; simp [sumZ]
    | succ n ih =>
      intro hn
      simp only [sumZ]
      rw [ih (by omega), ring_flatF (h n (by omega))]
      omega
  exact e N (Nat.le_refl _)
end Num
end Go.Proofs.Ytkhcjkmifddlbab

/- FlB -/
namespace Go.Proofs.Ytkhcjkmifddlbab
open Go.RowKit Go.Deep

end Go.Proofs.Ytkhcjkmifddlbab

/- FlC -/
namespace Go.Proofs.Ytkhcjkmifddlbab
open Go.RowKit Go.Deep

/-- The tame outline of an argument, and its trace. -/
def tameL (n : Nat → Nat) (X Y K : Nat → Nat → Int) (N : Nat) : List (List (Int × Int × Int)) := tmO openF n X Y K N
def tameM (a b c d x y : Int) : Num.Mp := ⟨nearV a 2047, nearV b 2047, nearV c 2047, nearV d 2047, nearV x 4095, nearV y 4095⟩
def ptLen (T : List (List (Int × Int × Int))) (j : Nat) : Nat := (nth T j).length
def ptXX (T : List (List (Int × Int × Int))) (j : Nat) : Nat → Int := ptX (nth T j)
def ptYY (T : List (List (Int × Int × Int))) (j : Nat) : Nat → Int := ptY (nth T j)
def ptKK (T : List (List (Int × Int × Int))) (j : Nat) : Nat → Int := kd (nth T j)
theorem nth_mem {T : List (List (Int × Int × Int))} {j : Nat} (h : j < T.length) : nth T j ∈ T := by unfold nth; simp [h]
theorem openF_ok : openF.Ok := by unfold Fd.Ok openF; simp
/-- What a tame outline is like. -/
theorem tameL_facts (n : Nat → Nat) (X Y K : Nat → Nat → Int) (N : Nat) {j : Nat} (hj : j < (tameL n X Y K N).length) : 2 ≤ (nth (tameL n X Y K N) j).length ∧ (nth (tameL n X Y K N) j).length ≤ 48 ∧ KOk (nth (tameL n X Y K N) j) ∧ PtIn (-2047) 2047 (-2047) 2047 (nth (tameL n X Y K N) j) := by
  obtain ⟨c, hc, e⟩ := tmO_mem openF n X Y K N _ (nth_mem hj)
  have h := tmR_facts openF (by simp [openF]) (by simp [openF]) (X c) (Y c) (K c) hc
  rw [← e] at h
  exact h
theorem tame_trace (n : Nat → Nat) (X Y K : Nat → Nat → Int) (N : Nat) (a b c d x y : Int) : traceE (tameL n X Y K N).length (ptLen (tameL n X Y K N)) (ptXX (tameL n X Y K N)) (ptYY (tameL n X Y K N)) (ptKK (tameL n X Y K N)) (tameM a b c d x y) = 0 := by
  have hx := nearV_rng x 4095 (by omega)
  have hy := nearV_rng y 4095 (by omega)
  obtain ⟨hf, hm⟩ := tame_map (x := nearV x 4095) (y := nearV y 4095) (nearV_rng a 2047 (by omega)) (nearV_rng b 2047 (by omega)) (nearV_rng c 2047 (by omega)) (nearV_rng d 2047 (by omega)) (by omega) (by omega)
  exact tame_ok (B := 2047) (tmO_len _ _ _ _ _ _) (fun j hj => tameL_facts n X Y K N hj) (by omega) hf hm
theorem tame_pos (n : Nat → Nat) (X Y K : Nat → Nat → Int) (N : Nat) (a b c d x y : Int) {j : Nat} (hj : j < (tameL n X Y K N).length) : 0 < (traceL (ptLen (tameL n X Y K N)) (ptXX (tameL n X Y K N)) (ptYY (tameL n X Y K N)) (ptKK (tameL n X Y K N)) (tameM a b c d x y) j).length :=
  trace_pos (tame_trace n X Y K N a b c d x y) (fun _ hj => ⟨(tameL_facts n X Y K N hj).1, kok_bad (tameL_facts n X Y K N hj).2.2.1⟩) hj
theorem outF_one (F : Int → Int → Int → Int → Int) (R : Nat → List (Int × Int)) (r : Nat) : Num.outF F R (r + 1) = Num.outF F R r + Num.ringF F (R r) := rfl
theorem crossF_bd (l : List (Int × Int)) (i j : Int) (k : Nat) : -(k : Int) ≤ Num.sumZ (Num.chF (Num.chX i j) l) k ∧ Num.sumZ (Num.chF (Num.chX i j) l) k ≤ (k : Int) := by
  have h := Num.sumZ_bd (f := Num.chF (Num.chX i j) l) (B := 1) k (fun q _ => Num.cross_bd _ _ _ _ _ _)
  omega
theorem crossO_bd (R : Nat → List (Int × Int)) (i j : Int) {m : Nat} (h : ∀ q, q < m → (R q).length ≤ 44400) (r : Nat) (hr : r ≤ m) : -(44400 * (r : Int)) ≤ Num.outF (Num.chX i j) R r ∧ Num.outF (Num.chX i j) R r ≤ 44400 * (r : Int) :=
  Num.sumZ_bd (f := fun q => Num.ringF (Num.chX i j) (R q)) (B := 44400) r (fun q hq => by
    have h1 := crossF_bd (R q) i j (R q).length
    have h2 := h q (by omega)
    unfold Num.ringF
    omega)
theorem inS_of {R : List (Int × Int)} (h : ∀ p ∈ R, Num.inB p.1 p.2 = true) {k : Nat} (hk : k < R.length) : InS R[k].1 R[k].2 := Num.inB_yes (h _ (List.getElem_mem hk))

end Go.Proofs.Ytkhcjkmifddlbab

/- TrnY -/
namespace Go.Proofs.Ytkhcjkmifddlbab
open Go.RowKit Go.Deep

/-- The first m points of a contour, in another order. -/
def rgL (X Y K : Nat → Int) (f : Nat → Nat) (m : Nat) : List (Int × Int × Int) := (List.range m).map fun i => (X (f i), Y (f i), K (f i))
theorem rgL_succ (X Y K : Nat → Int) (f : Nat → Nat) (m : Nat) : rgL X Y K f (m + 1) = rgL X Y K f m ++ [(X (f m), Y (f m), K (f m))] := by unfold rgL; rw [List.range_succ, List.map_append]; rfl
theorem rgL_len (X Y K : Nat → Int) (f : Nat → Nat) (m : Nat) : (rgL X Y K f m).length = m := by unfold rgL; simp
theorem rgL_at (X Y K : Nat → Int) (f : Nat → Nat) {m i : Nat} (h : i < m) : ptX (rgL X Y K f m) i = X (f i) ∧ ptY (rgL X Y K f m) i = Y (f i) ∧ kd (rgL X Y K f m) i = K (f i) := by
  unfold ptX ptY kd rgL
  simp [h]
/-- An outline that no tame map makes be refused. -/
def OutOk (N : Nat) (n : Nat → Nat) (X Y K : Nat → Nat → Int) : Prop := N ≤ 4 ∧ ∀ j, j < N → 2 ≤ n j ∧ n j ≤ 48 ∧ (∀ i, i < n j → Num.badB (K j) (n j) i = false) ∧ ∀ i, i < n j → (-2047 ≤ X j i ∧ X j i ≤ 2047) ∧ -2047 ≤ Y j i ∧ Y j i ≤ 2047
theorem ok_trace {N : Nat} {n : Nat → Nat} {X Y K : Nat → Nat → Int} {m : Num.Mp} (h : OutOk N n X Y K) (hf : Num.fairB m.a m.b m.c m.d m.x m.y = true) (hm : MpOk (2 * 2047) m) : traceE N n X Y K m = 0 := by
  obtain ⟨h1, h2⟩ := h
  have hs : ∀ k, k ≤ N → Num.sumN n k ≤ 48 * k := by
    intro k
    induction k with
    | zero => intro _; simp [Num.sumN]
    | succ k ih => intro hk; have := ih (by omega); have := (h2 k (by omega)).2.1; simp only [Num.sumN]; omega
  exact trace_ok (B := 2047) (by omega) (by have := hs N (Nat.le_refl _); omega) (fun j hj => ⟨(h2 j hj).1, (h2 j hj).2.2.1⟩) (fun j hj => (h2 j hj).2.2.2) (by omega) hf hm
theorem ok_ring {N : Nat} {n : Nat → Nat} {X Y K : Nat → Nat → Int} {m : Num.Mp} (h : OutOk N n X Y K) (hm : MpOk (2 * 2047) m) {j : Nat} (hj : j < N) : Num.ringOk m (Num.refRing (X j) (Y j) (K j) (n j)) = true := by
  have h2 := h.2 j hj
  unfold Num.ringOk
  rw [List.all_eq_true]
  intro g hg
  exact put_ok hm (ring_bd (by omega) (by omega) h2.2.2.2 g hg)

def tuS (N : Nat) (k : Int) (c : Nat) : Nat := (c + (pickV k N).toNat) % N
def tuF (n : Nat) (k : Int) (i : Nat) : Nat := (i + (pickV k n).toNat) % n
/-- Contour c of the turned outline. -/
def tuL (N : Nat) (n : Nat → Nat) (X Y K : Nat → Nat → Int) (k : Int) (c : Nat) : List (Int × Int × Int) := rgL (X (tuS N k c)) (Y (tuS N k c)) (K (tuS N k c)) (tuF (n (tuS N k c)) k) (n (tuS N k c))
/-- Contour c, backwards. -/
def bkL (n : Nat → Nat) (X Y K : Nat → Nat → Int) (c : Nat) : List (Int × Int × Int) := rgL (X c) (Y c) (K c) (fun i => n c - 1 - i) (n c)
theorem tuS_lt {N : Nat} {k : Int} {c : Nat} (h : 0 < N) : tuS N k c < N := Nat.mod_lt _ h
theorem ok_turn {N : Nat} {n : Nat → Nat} {X Y K : Nat → Nat → Int} (h : OutOk N n X Y K) (k : Int) : OutOk N (fun j => (tuL N n X Y K k j).length) (fun j => ptX (tuL N n X Y K k j)) (fun j => ptY (tuL N n X Y K k j)) (fun j => kd (tuL N n X Y K k j)) := by
  refine ⟨h.1, fun j hj => ?_⟩
  have hs := tuS_lt (k := k) (c := j) (show 0 < N by omega)
  obtain ⟨h1, h2, h3, h4⟩ := h.2 _ hs
  unfold tuL
  simp only [rgL_len]
  refine ⟨h1, h2, Num.bad_rot (d := (pickV k (n (tuS N k j))).toNat) (by omega) (fun i hi => (rgL_at _ _ _ _ hi).2.2) h3, fun i hi => ?_⟩
  rw [(rgL_at _ _ _ _ hi).1, (rgL_at _ _ _ _ hi).2.1]
  exact h4 _ (Nat.mod_lt _ (by omega))
theorem ok_back {N : Nat} {n : Nat → Nat} {X Y K : Nat → Nat → Int} (h : OutOk N n X Y K) : OutOk N (fun j => (bkL n X Y K j).length) (fun j => ptX (bkL n X Y K j)) (fun j => ptY (bkL n X Y K j)) (fun j => kd (bkL n X Y K j)) := by
  refine ⟨h.1, fun j hj => ?_⟩
  obtain ⟨h1, h2, h3, h4⟩ := h.2 _ hj
  unfold bkL
  simp only [rgL_len]
  refine ⟨h1, h2, Num.bad_rev (by omega) (fun i hi => (rgL_at _ _ _ _ hi).2.2) h3, fun i hi => ?_⟩
  rw [(rgL_at _ _ _ _ hi).1, (rgL_at _ _ _ _ hi).2.1]
  exact h4 _ (by omega)
theorem area_turn {N : Nat} {n : Nat → Nat} {X Y K : Nat → Nat → Int} {m : Num.Mp} (h : OutOk N n X Y K) (hm : MpOk (2 * 2047) m) (k : Int) (i j : Int) :
    Num.areaV (traceL (fun j => (tuL N n X Y K k j).length) (fun j => ptX (tuL N n X Y K k j)) (fun j => ptY (tuL N n X Y K k j)) (fun j => kd (tuL N n X Y K k j)) m) N i j = Num.areaV (traceL n X Y K m) N i j := by
  rcases Nat.eq_zero_or_pos N with h0 | h0
  · subst h0; rfl
  have hp := pickV_rng k (N : Int) (by omega)
  unfold Num.areaV Num.outF
  rw [← Num.sumZ_rot (fun r => Num.ringF (Num.chA i j) (traceL n X Y K m r)) N (pickV k N).toNat (by omega)]
  refine Num.sumZ_congr _ fun r hr => ?_
  have hs := tuS_lt (k := k) (c := r) h0
  obtain ⟨h1, h2, h3, h4⟩ := h.2 _ hs
  unfold traceL ringL tuL
  simp only [rgL_len]
  exact Num.ring_rot _ (d := (pickV k (n (tuS N k r))).toNat) h1 h3 (fun i hi => (rgL_at _ _ _ _ hi).1) (fun i hi => (rgL_at _ _ _ _ hi).2.1) (fun i hi => (rgL_at _ _ _ _ hi).2.2) (ok_ring h hm hs)
theorem sumZ_negs {f g : Nat → Int} : ∀ n, (∀ k, k < n → f k = -g k) → Num.sumZ f n = -Num.sumZ g n := by
  intro n
  induction n with
  | zero => intro _; rfl
  | succ n ih => intro h; simp only [Num.sumZ]; rw [ih (fun k hk => h k (by omega)), h n (by omega)]; omega
theorem area_back {N : Nat} {n : Nat → Nat} {X Y K : Nat → Nat → Int} {m : Num.Mp} (h : OutOk N n X Y K) (hm : MpOk (2 * 2047) m) (i j : Int) :
    Num.areaV (traceL (fun j => (bkL n X Y K j).length) (fun j => ptX (bkL n X Y K j)) (fun j => ptY (bkL n X Y K j)) (fun j => kd (bkL n X Y K j)) m) N i j = -Num.areaV (traceL n X Y K m) N i j := by
  unfold Num.areaV Num.outF
  refine sumZ_negs _ fun r hr => ?_
  obtain ⟨h1, h2, h3, h4⟩ := h.2 _ hr
  have hok := ok_ring (ok_back h) hm hr
  unfold traceL ringL
  unfold bkL at hok ⊢
  simp only [rgL_len] at hok ⊢
  exact Num.ring_rev (fun a b c d => Num.chordV_back a b c d i j) h1 h3 (fun i hi => (rgL_at _ _ _ _ hi).1) (fun i hi => (rgL_at _ _ _ _ hi).2.1) (fun i hi => (rgL_at _ _ _ _ hi).2.2) (ok_ring h hm hr) hok
theorem byteV_neg (a : Int) : byteV (-a) = byteV a := by
  have : Num.sz (-a) = Num.sz a := by
    unfold Num.sz
    repeat' split
    all_goals omega
  unfold byteV
  rw [this]
theorem pixL_same {A B : Nat → Nat → Int} (h : ∀ i j, byteV (A i j) = byteV (B i j)) (x y a k : Nat) : pixL A x y a k = pixL B x y a k := by
  unfold pixL
  exact List.map_congr_left fun q _ => h _ _
theorem tame_okO (n : Nat → Nat) (X Y K : Nat → Nat → Int) (N : Nat) : OutOk (tameL n X Y K N).length (ptLen (tameL n X Y K N)) (ptXX (tameL n X Y K N)) (ptYY (tameL n X Y K N)) (ptKK (tameL n X Y K N)) := by
  refine ⟨tmO_len _ _ _ _ _ _, fun j hj => ?_⟩
  obtain ⟨h1, h2, h3, h4⟩ := tameL_facts n X Y K N hj
  exact ⟨h1, h2, kok_bad h3, fun i hi => pt_in h4 hi⟩
theorem tame_mapO (a b c d x y : Int) : Num.fairB (tameM a b c d x y).a (tameM a b c d x y).b (tameM a b c d x y).c (tameM a b c d x y).d (tameM a b c d x y).x (tameM a b c d x y).y = true ∧ MpOk (2 * 2047) (tameM a b c d x y) := by
  have hx := nearV_rng x 4095 (by omega)
  have hy := nearV_rng y 4095 (by omega)
  exact tame_map (x := nearV x 4095) (y := nearV y 4095) (nearV_rng a 2047 (by omega)) (nearV_rng b 2047 (by omega)) (nearV_rng c 2047 (by omega)) (nearV_rng d 2047 (by omega)) (by omega) (by omega)
end Go.Proofs.Ytkhcjkmifddlbab

/- ShfV -/
namespace Go.Proofs.Ytkhcjkmifddlbab
namespace Num

def mvM (m : Mp) (s t : Int) : Mp := ⟨m.a, m.b, m.c, m.d, m.x + s, m.y + t⟩
def mvS (s t : Int) (p : Int × Int) : Int × Int := (p.1 + s, p.2 + t)
def mvG (s t : Int) (g : Sg) : Sg := ⟨g.k, g.x0 + s, g.y0 + t, g.x1 + s, g.y1 + t, g.x2 + s, g.y2 + t, g.x3 + s, g.y3 + t⟩
theorem place_val {a b c d x y s t : Int} (h : (placeV a b c d x y s t).2.2 = 0) : (placeV a b c d x y s t).1 = x + hu (a * s + b * t) 2048 ∧ (placeV a b c d x y s t).2.1 = y + hu (c * s + d * t) 2048 := by
  unfold placeV at h ⊢
  by_cases h1 : (wi s 8192 && wi t 8192) = false
  · rw [if_pos h1] at h; simp at h
  · rw [if_neg h1] at h ⊢
    by_cases h2 : fairB a b c d x y = false
    · rw [if_pos h2] at h; simp at h
    · rw [if_neg h2] at h ⊢
      by_cases h3 : inB (x + hu (a * s + b * t) 2048) (y + hu (c * s + d * t) 2048) = false
      · rw [if_pos h3] at h; simp at h
      · rw [if_neg h3]; exact ⟨rfl, rfl⟩
theorem pl_mv {m : Mp} {s t u v : Int} (h1 : (pl m u v).2.2 = 0) (h2 : (pl (mvM m s t) u v).2.2 = 0) : (pl (mvM m s t) u v).1 = (pl m u v).1 + s ∧ (pl (mvM m s t) u v).2.1 = (pl m u v).2.1 + t := by
  have a := place_val h1
  have b := place_val h2
  unfold pl at *
  rw [a.1, a.2, b.1, b.2]
  simp only [mvM]
  omega
theorem putV_mv {m : Mp} {s t : Int} {g : Sg} (h1 : putOk m g = true) (h2 : putOk (mvM m s t) g = true) : putV (mvM m s t) g = mvG s t (putV m g) := by
  simp only [putOk, Bool.and_eq_true, beq_iff_eq] at h1 h2
  obtain ⟨⟨⟨a0, a1⟩, a2⟩, a3⟩ := h1
  obtain ⟨⟨⟨b0, b1⟩, b2⟩, b3⟩ := h2
  have c0 := pl_mv a0 b0
  have c1 := pl_mv a1 b1
  have c2 := pl_mv a2 b2
  have c3 := pl_mv a3 b3
  unfold putV mvG
  rw [c0.1, c0.2, c1.1, c1.2, c2.1, c2.2, c3.1, c3.2]
theorem bendV_mv (ax ay bx b2 cx cy s t : Int) : bendV (ax + s) (ay + t) (bx + s) (b2 + t) (cx + s) (cy + t) = bendV ax ay bx b2 cx cy := by
  unfold bendV
  rw [show ax + s - 2 * (bx + s) + (cx + s) = ax - 2 * bx + cx by omega, show ay + t - 2 * (b2 + t) + (cy + t) = ay - 2 * b2 + cy by omega]
theorem needV_mv (s t : Int) (g : Sg) : needV (mvG s t g) = needV g := by
  unfold needV mvG
  simp only [bendV_mv]
theorem mx_mv (u i a b s : Int) : mx u i (a + s) (b + s) = mx u i a b + (u + i) * s := by
  unfold mx
  rw [Int.mul_add, Int.mul_add, Int.add_mul]
  omega
theorem qSum_mv (u i a b c s : Int) : qSum u i (a + s) (b + s) (c + s) = qSum u i a b c + (u + i) * ((u + i) * s) := by
  rw [← mx_quad, ← mx_quad, mx_mv, mx_mv, mx_mv]
theorem cSum_mv (u i a b c d s : Int) : cSum u i (a + s) (b + s) (c + s) (d + s) = cSum u i a b c d + (u + i) * ((u + i) * ((u + i) * s)) := by
  rw [← mx_cubic, ← mx_cubic, mx_mv, mx_mv, mx_mv, mx_mv, mx_mv, mx_mv]
theorem quad_mv {n i a b c s : Int} (hn : 0 < n) : hu (qSum (n - i) i (a + s) (b + s) (c + s)) (n * n) = hu (qSum (n - i) i a b c) (n * n) + s := by
  rw [qSum_mv, show n - i + i = n by omega, Int.add_comm, ← Int.mul_assoc, Int.mul_comm (n * n) s, hu_add _ _ _ (Int.mul_pos hn hn)]
  omega
theorem cubic_mv {n i a b c d s : Int} (hn : 0 < n) : hu (cSum (n - i) i (a + s) (b + s) (c + s) (d + s)) (n * n * n) = hu (cSum (n - i) i a b c d) (n * n * n) + s := by
  rw [cSum_mv, show n - i + i = n by omega, Int.add_comm, ← Int.mul_assoc n n s, ← Int.mul_assoc, ← Int.mul_assoc, Int.mul_comm (n * n * n) s, hu_add _ _ _ (Int.mul_pos (Int.mul_pos hn hn) hn)]
  omega
theorem spotX_mv {g : Sg} {s t n i : Int} (hn : 0 < n) : spotX (mvG s t g) n i = spotX g n i + s := by
  unfold spotX
  have ek : (mvG s t g).k = g.k := rfl
  by_cases e1 : g.k = 1
  · rw [if_pos (ek.trans e1), if_pos e1]; exact quad_mv hn
  · rw [if_neg (fun h => e1 (ek.symm.trans h)), if_neg e1]
    by_cases e2 : g.k = 2
    · rw [if_pos (ek.trans e2), if_pos e2]; exact cubic_mv hn
    · rw [if_neg (fun h => e2 (ek.symm.trans h)), if_neg e2]; split <;> rfl
theorem spotY_mv {g : Sg} {s t n i : Int} (hn : 0 < n) : spotY (mvG s t g) n i = spotY g n i + t := by
  unfold spotY
  have ek : (mvG s t g).k = g.k := rfl
  by_cases e1 : g.k = 1
  · rw [if_pos (ek.trans e1), if_pos e1]; exact quad_mv hn
  · rw [if_neg (fun h => e1 (ek.symm.trans h)), if_neg e1]
    by_cases e2 : g.k = 2
    · rw [if_pos (ek.trans e2), if_pos e2]; exact cubic_mv hn
    · rw [if_neg (fun h => e2 (ek.symm.trans h)), if_neg e2]; split <;> rfl
theorem curveL_mv {g : Sg} {s t : Int} (h1 : curveE g = 0) (h2 : curveE (mvG s t g) = 0) : curveL (mvG s t g) = (curveL g).map (mvS s t) := by
  have hb := needV_bd (curve_ok h1).2
  have hs := stepsV_pos hb.2
  have hn : (0 : Int) < (curveN g : Int) := by unfold curveN; omega
  have eN : curveN (mvG s t g) = curveN g := by unfold curveN; rw [needV_mv]
  unfold curveL
  rw [if_pos h1, if_pos h2, eN, List.map_map]
  refine List.map_congr_left fun i _ => ?_
  simp only [Function.comp, mvS, spotX_mv hn, spotY_mv hn]
theorem segSp_mv {m : Mp} {g : Sg} {s t : Int} (hk : Kd g.k) (h1 : putOk m g = true) (h2 : putOk (mvM m s t) g = true) : segSp (mvM m s t) g = (segSp m g).map (mvS s t) := by
  have c1 := put_curve h1 hk
  have c2 := put_curve h2 hk
  unfold segSp
  rw [putV_mv h1 h2] at c2 ⊢
  rw [curveL_mv c1 c2, List.map_dropLast]
theorem ringSp_mv {m : Mp} {s t : Int} : ∀ L : List Sg, (∀ g ∈ L, Kd g.k) → ringOk m L = true → ringOk (mvM m s t) L = true → ringSp (mvM m s t) L = (ringSp m L).map (mvS s t) := by
  intro L
  induction L with
  | nil => intro _ _ _; rfl
  | cons g r ih =>
    intro hk h1 h2
    simp only [ringOk, List.all_cons, Bool.and_eq_true] at h1 h2
    have e := ih (fun u hu => hk u (by simp [hu])) h1.2 h2.2
    unfold ringSp at e ⊢
    rw [List.flatMap_cons, List.flatMap_cons, List.map_append, e, segSp_mv (hk g (by simp)) h1.1 h2.1]
theorem ats_mv (s t : Int) (l : List (Int × Int)) {k : Nat} (hk : k < l.length) : ats (l.map (mvS s t)) k = mvS s t (ats l k) := by
  unfold ats
  simp [hk]
theorem ringA_mv (l : List (Int × Int)) (i j x y : Int) : ringF (chA x y) (l.map (mvS (64 * (x - i)) (64 * (y - j)))) = ringF (chA i j) l := by
  unfold ringF
  rw [List.length_map]
  refine sumZ_congr _ fun k hk => ?_
  unfold chF
  rw [List.length_map, ats_mv _ _ _ hk, ats_mv _ _ _ (nxR_lt hk)]
  unfold chA mvS
  have := chordV_shift (ats l k).1 (ats l k).2 (ats l (nxR l.length k)).1 (ats l (nxR l.length k)).2 i j (x - i) (y - j)
  rw [show i + (x - i) = x by omega, show j + (y - j) = y by omega] at this
  exact this
theorem areaV_mv {L L' : Nat → List (Int × Int)} {N : Nat} (i j x y : Int) (h : ∀ r, r < N → L' r = (L r).map (mvS (64 * (x - i)) (64 * (y - j)))) : areaV L' N x y = areaV L N i j := by
  unfold areaV outF
  exact sumZ_congr _ fun r hr => by rw [h r hr, ringA_mv]
end Num
end Go.Proofs.Ytkhcjkmifddlbab

/- ShfA -/
namespace Go.Proofs.Ytkhcjkmifddlbab
open Go.RowKit Go.Deep

theorem shift_area {N : Nat} {n : Nat → Nat} {X Y K : Nat → Nat → Int} {m : Num.Mp} {x y i j : Int} (h : OutOk N n X Y K) (hm : MpOk (2 * 2047) m) (hm' : MpOk (2 * 2047) (Num.mvM m (64 * (x - i)) (64 * (y - j)))) :
    Num.areaV (traceL n X Y K (Num.mvM m (64 * (x - i)) (64 * (y - j)))) N x y = Num.areaV (traceL n X Y K m) N i j :=
  Num.areaV_mv i j x y (fun r hr => Num.ringSp_mv _ (ringL_kd (h.2 r hr).1 (h.2 r hr).2.2.1) (ok_ring h hm hr) (ok_ring h hm' hr))

set_option maxRecDepth 100000 in
set_option maxHeartbeats 8000000 in
theorem kshifted_any (ad : Option Addr) (N cc : Nat) (A : Nat → Option Addr) (C n : Nat → Nat) (X Y K : Nat → Nat → Int) (a b c d x y zw zh zi zj zx zy zs : Int) (w : World) (hN : (N : Int) ≤ 9223372036854775807) (ho : OutAt w ad N A C n X Y K)
    (hX : ∀ j i, -9223372036854775808 ≤ X j i ∧ X j i ≤ 9223372036854775807) (hY : ∀ j i, -9223372036854775808 ≤ Y j i ∧ Y j i ≤ 9223372036854775807) (hK : ∀ j i, -9223372036854775808 ≤ K j i ∧ K j i ≤ 9223372036854775807)
    (hw : -9223372036854775808 ≤ zw ∧ zw ≤ 9223372036854775807) (hh : -9223372036854775808 ≤ zh ∧ zh ≤ 9223372036854775807) (hi : -9223372036854775808 ≤ zi ∧ zi ≤ 9223372036854775807) (hj : -9223372036854775808 ≤ zj ∧ zj ≤ 9223372036854775807) (hzx : -9223372036854775808 ≤ zx ∧ zx ≤ 9223372036854775807) (hzy : -9223372036854775808 ≤ zy ∧ zy ≤ 9223372036854775807) (hst : -9223372036854775808 ≤ zs ∧ zs ≤ 9223372036854775807) :
    Calls Try.prog 3 #[.slice ad N cc, .agg #[.int .i64 a, .int .i64 b, .int .i64 c, .int .i64 d, .int .i64 x, .int .i64 y], .int .i64 zw, .int .i64 zh, .int .i64 zi, .int .i64 zj, .int .i64 zx, .int .i64 zy, .int .i64 zs] w fun e w' => e = .returned (.bool true) ∧ Below w.heap.size w w' := by
  obtain ⟨W, hW⟩ : ∃ W, W = windowN zw := ⟨_, rfl⟩
  obtain ⟨H, hH⟩ : ∃ H, H = windowN zh := ⟨_, rfl⟩
  have hW1 : 1 ≤ W ∧ W ≤ 64 := by rw [hW]; exact (windowN_rng zw).1
  have hH1 : 1 ≤ H ∧ H ≤ 64 := by rw [hH]; exact (windowN_rng zh).1
  have rI := pickV_rng zi (W : Int) (by omega)
  have rJ := pickV_rng zj (H : Int) (by omega)
  obtain ⟨I, hI⟩ : ∃ I : Nat, (I : Int) = pickV zi W := ⟨(pickV zi W).toNat, by omega⟩
  obtain ⟨J, hJ⟩ : ∃ J : Nat, (J : Int) = pickV zj H := ⟨(pickV zj H).toNat, by omega⟩
  have hIW : I < W := by omega
  have hJH : J < H := by omega
  have rX := pickV_rng zx 64 (by omega)
  have rY := pickV_rng zy 64 (by omega)
  obtain ⟨XX, hXX⟩ : ∃ I : Nat, (I : Int) = pickV zx 64 := ⟨(pickV zx 64).toNat, by omega⟩
  obtain ⟨YY, hYY⟩ : ∃ J : Nat, (J : Int) = pickV zy 64 := ⟨(pickV zy 64).toNat, by omega⟩
  have hXX64 : XX < 64 := by omega
  have hYY64 : YY < 64 := by omega
  have rS := pickV_rng zs 2 (by omega)
  obtain ⟨st, hstv⟩ : ∃ st, st = pickV zs 2 := ⟨_, rfl⟩
  have hst2 : st = 0 ∨ st = 1 := by omega
  obtain ⟨T, hT⟩ : ∃ T, T = tameL n X Y K N := ⟨_, rfl⟩
  have HE := hide (tame_trace n X Y K N a b c d x y)
  have HOk : Hid (OutOk T.length (ptLen T) (ptXX T) (ptYY T) (ptKK T)) := by unfold Hid; rw [hT]; exact tame_okO n X Y K N
  have HMp := hide (tame_mapO a b c d x y)
  have rDx := nearV_rng x 4095 (by omega)
  have rDy := nearV_rng y 4095 (by omega)
  have HMq := hide (tame_map (x := nearV x 4095 + 64 * ((XX : Int) - I)) (y := nearV y 4095 + 64 * ((YY : Int) - J)) (nearV_rng a 2047 (by omega)) (nearV_rng b 2047 (by omega)) (nearV_rng c 2047 (by omega)) (nearV_rng d 2047 (by omega)) (by omega) (by omega))
  rw [← hT] at HE
  have HFa := hide (trace_facts HE.out)
  have HLen : Hid (∀ j, j < T.length → ptLen T j ≤ 4294967296) := fun j hj => by rw [hT] at hj ⊢; have := (tameL_facts n X Y K N hj).2.1; unfold ptLen; omega
  have hT4 : T.length ≤ 4 := by rw [hT]; exact tmO_len _ _ _ _ _ _
  obtain ⟨R, hR⟩ : ∃ R, R = traceL (ptLen T) (ptXX T) (ptYY T) (ptKK T) (tameM a b c d x y) := ⟨_, rfl⟩
  have HR := hide hR
  rw [← hR] at HFa
  obtain ⟨ma, hma⟩ : ∃ z, z = nearV a 2047 := ⟨_, rfl⟩
  obtain ⟨mb, hmb⟩ : ∃ z, z = nearV b 2047 := ⟨_, rfl⟩
  obtain ⟨mc, hmc⟩ : ∃ z, z = nearV c 2047 := ⟨_, rfl⟩
  obtain ⟨md, hmd⟩ : ∃ z, z = nearV d 2047 := ⟨_, rfl⟩
  obtain ⟨mx, hmx⟩ : ∃ z, z = nearV x 4095 := ⟨_, rfl⟩
  obtain ⟨my, hmy⟩ : ∃ z, z = nearV y 4095 := ⟨_, rfl⟩
  have hTM : tameM a b c d x y = ⟨ma, mb, mc, md, mx, my⟩ := by unfold tameM; rw [hma, hmb, hmc, hmd, hmx, hmy]
  have HMap := hide (fun w => ktameMap_any a b c d x y w)
  rw [← hma, ← hmb, ← hmc, ← hmd, ← hmx, ← hmy] at HMap
  rw [hTM] at HE HR HMp
  rw [← hma, ← hmb, ← hmc, ← hmd, ← hmx, ← hmy] at HMq
  rw [← hmx] at rDx
  rw [← hmy] at rDy
  have HTame := hide (fun w' (h : OutAt w' ad N A C n X Y K) => ktame_any (-2047) 4095 (-2047) 4095 ad N cc A C n X Y K w' openF_ok hN h hX hY hK)
  have HTT : Hid (tmO ⟨-2047, 4095, -2047, 4095⟩ n X Y K N = T) := hT.symm
  rw [HTT.out] at HTame
  have HWin := hide (fun w => window_any zw w hw.1 hw.2)
  have HWih := hide (fun w => window_any zh w hh.1 hh.2)
  rw [← hW] at HWin
  rw [← hH] at HWih
  have HPi := hide (fun w => pick_any zi (W : Int) w hi.1 hi.2 (by omega))
  have HPj := hide (fun w => pick_any zj (H : Int) w hj.1 hj.2 (by omega))
  have HPs := hide (fun w => pick_any zs 2 w hst.1 hst.2 (by omega))
  have HPx := hide (fun w => pick_any zx 64 w hzx.1 hzx.2 (by omega))
  have HPy := hide (fun w => pick_any zy 64 w hzy.1 hzy.2 (by omega))
  rw [← hXX] at HPx
  rw [← hYY] at HPy
  rw [← hI] at HPi
  rw [← hJ] at HPj
  rw [← hstv] at HPs
  have hI64 : I < 64 := by omega
  have hJ64 : J < 64 := by omega
  have HO := hide ho
  have HMr := hide (mp6_row a b c d x y w 24)
  have HB1 : Hid (Below w.heap.size w (w.alloc (.cells #[.int .i64 a, .int .i64 b, .int .i64 c, .int .i64 d, .int .i64 x, .int .i64 y] 24))) := (Below.refl _ _).alloc (Nat.le_refl _) _
  clear ho hX hY hK hW hH hI hJ hXX hYY hstv hT hR hma hmb hmc hmd hmx hmy hTM rI rJ rX rY rS HTT hw hh hi hj hst hzx hzy
  go_enter Try.func3, Try.ntmps3
  go_wp2_with fail
  obtain ⟨W1, hW1e⟩ : ∃ W1, W1 = w.alloc (.cells #[.int .i64 a, .int .i64 b, .int .i64 c, .int .i64 d, .int .i64 x, .int .i64 y] 24) := ⟨_, rfl⟩
  rw [← hW1e] at HMr HB1 ⊢
  have hs1 : W1.heap.size = w.heap.size + 1 := by rw [hW1e]; simp
  clear hW1e
  refine (kopen_any W1).mono ?_
  rintro e w2 ⟨rfl, hb2⟩
  have hs2 := hb2.size
  obtain ⟨W2, hW2⟩ : ∃ W2, W2 = w2.alloc (.cells #[.int .i64 (-2047), .int .i64 4095, .int .i64 (-2047), .int .i64 4095] 26) := ⟨_, rfl⟩
  have hb22 : Below w2.heap.size w2 W2 := by rw [hW2]; exact (Below.refl _ _).alloc (Nat.le_refl _) _
  have hsW2 : W2.heap.size = w2.heap.size + 1 := by rw [hW2]; simp
  have hb12 : Below W1.heap.size W1 W2 := hb2.trans (hb22.mono hs2)
  have HM2 := hide (row_below HMr.out hb12 (by omega))
  have HB2 := hide (HB1.out.trans (hb12.mono (by omega)))
  have HW2 := hide hW2
  clear hb2 hb22 hb12 hW2
  go_wp2_with fail
  rw [← HW2.out]
  refine (HTame.out W2 (HO.out.below HB2.out)).mono ?_
  rintro e w3 ⟨v, V, rfl, hb3, hP3⟩
  obtain ⟨pad, pcc, PA, PC, rfl, hO3⟩ := hP3.out
  have hs3 := hb3.size
  have hM3 := row_below HM2.out hb3 (by omega)
  obtain ⟨d0, d1, d2, d3, d4, d5⟩ := mp6_cells hM3
  have hM3l := hM3.lt
  have hO3' : OutAt w3 pad T.length PA PC (ptLen T) (ptXX T) (ptYY T) (ptKK T) := hO3
  have HO3 := hide hO3'
  have HB3 := hide (HB2.out.trans (hb3.mono (by omega)))
  clear hb3 hP3 hO3 hO3' hM3 HTame HW2
  go_wp2_with fail
  refine (HMap.out w3).mono ?_
  rintro e w4 ⟨rfl, hb4⟩
  have hs4 := hb4.size
  obtain ⟨W4, hW4⟩ : ∃ W4, W4 = w4.alloc (.cells #[.int .i64 ma, .int .i64 mb, .int .i64 mc, .int .i64 md, .int .i64 mx, .int .i64 my] 24) := ⟨_, rfl⟩
  have hb44 : Below w4.heap.size w4 W4 := by rw [hW4]; exact (Below.refl _ _).alloc (Nat.le_refl _) _
  have hb34 : Below w3.heap.size w3 W4 := hb4.trans (hb44.mono hs4)
  have hsW4 : W4.heap.size = w4.heap.size + 1 := by rw [hW4]; simp
  obtain ⟨mb4, hmb4⟩ : ∃ q, q = w4.heap.size := ⟨_, rfl⟩
  have HM4 : Hid (W4.rowIs mb4 24 6 (mp6 ma mb mc md mx my)) := by unfold Hid; rw [hW4, hmb4]; exact mp6_row ma mb mc md mx my w4 24
  have HO4 := hide (HO3.out.below hb34)
  have HO3b := hide HO3.out
  have Hb3W4 := hide hb34
  have hm43 : w3.heap.size ≤ mb4 := by omega
  have HB4 := hide (HB3.out.trans (hb34.mono (by omega)))
  have HW4 := hide (And.intro hW4 hmb4)
  have hm4l : mb4 < W4.heap.size := by omega
  have hm4g : w.heap.size ≤ mb4 := by have := HB3.out.size; omega
  clear d0 d1 d2 d3 d4 d5 hb4 hb44 hb34 hW4 hsW4 hmb4 hM3l HO3 HM2
  go_wp2_with fail
  rw [← HW4.out.1]
  try rw [← HW4.out.2]
  refine (HWin.out _).mono ?_
  rintro e w' ⟨rfl, hw'⟩
  rw [hw']
  clear hw'
  go_wp2_with fail
  refine (HWih.out _).mono ?_
  rintro e w' ⟨rfl, hw'⟩
  rw [hw']
  clear hw'
  go_wp2_with fail
  refine (HPi.out _).mono ?_
  rintro e w' ⟨rfl, hw'⟩
  rw [hw']
  clear hw'
  go_wp2_with fail
  refine (HPj.out _).mono ?_
  rintro e w' ⟨rfl, hw'⟩
  rw [hw']
  clear hw'
  go_wp2_with fail
  refine (HPx.out _).mono ?_
  rintro e w' ⟨rfl, hw'⟩
  rw [hw']
  clear hw'
  go_wp2_with fail
  refine (HPy.out _).mono ?_
  rintro e w' ⟨rfl, hw'⟩
  rw [hw']
  clear hw'
  go_wp2_with fail
  refine (HPs.out _).mono ?_
  rintro e w' ⟨rfl, hw'⟩
  rw [hw']
  clear hw' HWin HWih HPi HPj HPx HPy HPs HMap HW4
  obtain ⟨d0, d1, d2, d3, d4, d5⟩ := mp6_cells HM4.out
  have HLd := hide (laid_any W H st pad T.length pcc PA PC (ptLen T) (ptXX T) (ptYY T) (ptKK T) ma mb mc md mx my W4 hW1 hH1 hst2 (by omega) HLen.out HO4.out HE.out)
  rw [← HR.out] at HLd
  go_wp2_with fail
  refine HLd.out.mono ?_
  rintro e w5 ⟨bk, S, rfl, hb5, hC5, hS5⟩
  have hs5 := hb5.size
  have hM5 := row_below HM4.out hb5 hm4l
  have HO5 := hide (HO4.out.below hb5)
  have HB5 := hide (HB4.out.trans (hb5.mono (by have := HB4.out.size; omega)))
  have hm5l := hM5.lt
  clear d0 d1 d2 d3 d4 d5
  obtain ⟨d0, d1, d2, d3, d4, d5⟩ := mp6_cells hM5
  have z4 := hM5.frozen 4
  have z5 := hM5.frozen 5
  obtain ⟨nx, hnx⟩ : ∃ z, z = mx + 64 * ((XX : Int) - (I : Int)) := ⟨_, rfl⟩
  obtain ⟨ny, hny⟩ : ∃ z, z = my + 64 * ((YY : Int) - (J : Int)) := ⟨_, rfl⟩
  have hnxe : mx + 64 * ((XX : Int) - (I : Int)) = nx := hnx.symm
  have hnye : my + 64 * ((YY : Int) - (J : Int)) = ny := hny.symm
  obtain ⟨W6, hW6⟩ : ∃ W6, W6 = (w5.setCell ⟨mb4, 4, none⟩ (.int .i64 nx)).setCell ⟨mb4, 5, none⟩ (.int .i64 ny) := ⟨_, rfl⟩
  have hM6 : W6.rowIs mb4 24 6 (mp6 ma mb mc md nx ny) := by
    rw [hW6]
    refine ((hM5.set 4 _).set 5 _).congr fun q hq => ?_
    rcases (show q = 0 ∨ q = 1 ∨ q = 2 ∨ q = 3 ∨ q = 4 ∨ q = 5 by omega) with rfl | rfl | rfl | rfl | rfl | rfl <;> rfl
  have hT6 : Touch (fun q => q = mb4) w5 W6 := by rw [hW6]; exact ((Touch.refl (fun q => q = mb4) w5).setCell (p := ⟨mb4, 4, none⟩) (.inl rfl) _).setCell (p := ⟨mb4, 5, none⟩) (.inl rfl) _
  have HC6 := hide (hC5.touch hT6 (fun q hq e => by have := hS5 q hq; omega))
  have HB6 : Hid (Below w.heap.size w W6) := by
    have := HB5.out
    have h0 := HB4.out.size
    unfold Hid
    rw [hW6]
    exact (this.setCell (p := ⟨mb4, 4, none⟩) (show w.heap.size ≤ mb4 by omega) _).setCell (p := ⟨mb4, 5, none⟩) (show w.heap.size ≤ mb4 by omega) _
  have HMn : Hid (Num.mvM ⟨ma, mb, mc, md, mx, my⟩ (64 * ((XX : Int) - I)) (64 * ((YY : Int) - J)) = ⟨ma, mb, mc, md, nx, ny⟩) := by unfold Hid Num.mvM; simp only; rw [← hnx, ← hny]
  have hnb : (-8192 ≤ nx ∧ nx ≤ 8192) ∧ -8192 ≤ ny ∧ ny ≤ 8192 := by omega
  have HEn : Hid (traceE T.length (ptLen T) (ptXX T) (ptYY T) (ptKK T) ⟨ma, mb, mc, md, nx, ny⟩ = 0) := by
    have := HMq.out
    rw [← hnx, ← hny] at this
    exact ok_trace HOk.out this.1 this.2
  have HArn : Hid (Num.areaV (traceL (ptLen T) (ptXX T) (ptYY T) (ptKK T) ⟨ma, mb, mc, md, nx, ny⟩) T.length XX YY = Num.areaV R T.length I J) := by
    have h2 := HMq.out.2
    have h3 := shift_area (m := ⟨ma, mb, mc, md, mx, my⟩) (x := XX) (y := YY) (i := I) (j := J) HOk.out HMp.out.2 (by rw [HMn.out]; rw [← hnx, ← hny] at h2; exact h2)
    rw [HMn.out] at h3
    unfold Hid
    rw [h3, HR.out]
  have HO6 : Hid (OutAt W6 pad T.length PA PC (ptLen T) (ptXX T) (ptYY T) (ptKK T)) := HO3b.out.below ((Hb3W4.out.trans (hb5.mono (by have := Hb3W4.out.size; omega))).trans (hT6.below (B := w3.heap.size) (by have := Hb3W4.out.size; omega) (fun q hq => by rw [hq]; exact hm43)))
  have w62 : IntKind.i64.wrap (64 * ((XX : Int) - (I : Int))) = 64 * ((XX : Int) - (I : Int)) := wrap_ok _ (by omega) (by omega)
  have w63 : IntKind.i64.wrap (64 * ((YY : Int) - (J : Int))) = 64 * ((YY : Int) - (J : Int)) := wrap_ok _ (by omega) (by omega)
  have HC5 := hide hC5
  have HW6 := hide hW6
  have HM6 := hide hM6
  have hs6 := hT6.size
  have hst3 : 1 - st = 0 ∨ 1 - st = 1 := by omega
  have hstr : 0 ≤ st ∧ st ≤ 1 := by omega
  clear hb5 hC5 hS5 hT6 hW6 hM6 hM5 HLd hnx hny HO5 HB5 HO4 HM4
  go_wp2_with fail
  rw [← HW6.out]
  clear HW6 d0 d1 d2 d3 d4 d5 z4 z5 hnxe hnye w62 w63
  have HL2 := hide (laid_any 64 64 (1 - st) pad T.length pcc PA PC (ptLen T) (ptXX T) (ptYY T) (ptKK T) ma mb mc md nx ny W6 (by omega) (by omega) hst3 (by omega) HLen.out HO6.out HEn.out)
  refine HL2.out.mono ?_
  rintro e w7 ⟨bk2, S2, rfl, hb7, hC7, hS7⟩
  have hs7 := hb7.size
  have HC7 := hide (HC6.out.below hb7)
  have HD7 := hide hC7
  have HB7 := hide (HB6.out.trans (hb7.mono (by have := HB6.out.size; omega)))
  clear hb7 hC7 hS7 HL2 HC6
  have hAe : areaE W H I J = 0 := by unfold areaE; rw [if_pos (by omega)]
  have hAn : areaN W H (fun i j => Num.areaV R T.length i j) I J = Num.areaV R T.length I J := by unfold areaN; rw [if_pos (by omega)]; simp
  have HAr := hide (glyphArea_any bk W H 1 _ _ _ _ I J _ w7 HC7.out hW1 hH1 (by omega))
  rw [hAe, hAn] at HAr
  have HbR : Hid (∀ i j : Int, -1500000000 ≤ Num.areaV R T.length i j ∧ Num.areaV R T.length i j ≤ 1500000000) := fun i j => by
    have h3 := Num.areaV_bd (L := R) (N := T.length) (M := 44400) i j (fun q hq => (HFa.out.2 q hq).1)
    omega
  have HbN : Hid (∀ i j : Int, -1500000000 ≤ Num.areaV (traceL (ptLen T) (ptXX T) (ptYY T) (ptKK T) ⟨ma, mb, mc, md, nx, ny⟩) T.length i j ∧ Num.areaV (traceL (ptLen T) (ptXX T) (ptYY T) (ptKK T) ⟨ma, mb, mc, md, nx, ny⟩) T.length i j ≤ 1500000000) := fun i j => by
    have h3 := Num.areaV_bd (L := traceL (ptLen T) (ptXX T) (ptYY T) (ptKK T) ⟨ma, mb, mc, md, nx, ny⟩) (N := T.length) (M := 44400) i j (fun q hq => ((trace_facts HEn.out).2 q hq).1)
    omega
  have HHo1 := hide (fun w' (h : Below w7.heap.size w7 w') => holds_any bk W H 1 I J _ _ _ _ _ w' (HC7.out.below h) hW1 hH1 (by omega) hIW hJH (fun i j _ _ => by have := HbR.out i j; omega))
  have HHo2 := hide (fun w' (h : Below w7.heap.size w7 w') => holds_any bk2 64 64 1 XX YY _ _ _ _ _ w' (HD7.out.below h) (by omega) (by omega) (by omega) hXX64 hYY64 (fun i j _ _ => by have := HbN.out i j; omega))
  rw [HArn.out] at HHo2
  have hu := HbR.out I J
  obtain ⟨u, hue⟩ : ∃ u, u = Num.areaV R T.length I J := ⟨_, rfl⟩
  rw [← hue] at HAr HHo1 HHo2 hu
  clear hue hAe hAn
  go_wp2_with fail
  refine HAr.out.mono ?_
  rintro e w8 ⟨rfl, hb8⟩
  have hs8 := hb8.size
  have H78 := hide hb8
  clear hb8 HAr
  go_wp2_with fail
  refine (HHo1.out w8 H78.out).mono ?_
  rintro e w9 ⟨rfl, hb9⟩
  have hs9 := hb9.size
  have H79 := hide (H78.out.trans (hb9.mono hs8))
  clear hb9 HHo1 H78
  go_wp2_with fail
  refine (HHo2.out w9 H79.out).mono ?_
  rintro e w10 ⟨rfl, hb10⟩
  have HB10 := hide ((HB7.out.trans (H79.out.mono (by have := HB7.out.size; omega))).trans (hb10.mono (by have := HB7.out.size; have := H79.out.size; omega)))
  clear hb10 HHo2 H79
  go_wp2
  go_ret
  exact ⟨rfl, HB10.out⟩
end Go.Proofs.Ytkhcjkmifddlbab
