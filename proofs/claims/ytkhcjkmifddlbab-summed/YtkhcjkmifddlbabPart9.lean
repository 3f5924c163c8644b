/- Joined: ClsW, ClsX, WhlV, WhlW, WhlX, FlV, FlB, FlC, CvT, BoxV, Bx. -/
import Derived.Test.YtkhcjkmifddlbabPart8
import Derived.Test.YtkhcjkmifddlbabPart3
import Derived.Test.YtkhcjkmifddlbabPart7
import Derived.Test.YtkhcjkmifddlbabPart6
/- ClsW -/
namespace Go.Proofs.Ytkhcjkmifddlbab
namespace Num

theorem hu_half (n d : Int) (hd : 0 < d) : -d ≤ 2 * (d * hu n d - n) ∧ 2 * (d * hu n d - n) ≤ d := by
  obtain ⟨h1, h2⟩ := hu_facts n d hd
  rw [Int.mul_assoc] at h1 h2
  omega
theorem atV_half {a b p q n : Int} (h : p < q) : -(q - p) ≤ 2 * ((q - p) * (atV a b p q n - a) - (b - a) * (n - p)) ∧ 2 * ((q - p) * (atV a b p q n - a) - (b - a) * (n - p)) ≤ q - p := by
  rw [atV_eq (by omega), if_neg (by omega)]
  have := hu_half ((b - a) * (n - p)) (q - p) (by omega)
  rw [show a + hu ((b - a) * (n - p)) (q - p) - a = hu ((b - a) * (n - p)) (q - p) by omega]
  exact this
theorem docG_qq {lo hi ylo yhi : Int} (i e : Int) (hw : lo < hi) (he : e = sz (yhi - ylo)) :
    -(64 * (hi - lo)) ≤ (hi - lo) * docG lo ylo hi yhi i - e * (qq 64 (64 * i + 64 - lo) - qq 64 (64 * i + 64 - hi)) ∧
    (hi - lo) * docG lo ylo hi yhi i - e * (qq 64 (64 * i + 64 - lo) - qq 64 (64 * i + 64 - hi)) ≤ 64 * (hi - lo) := by
  have b0 : atV ylo yhi lo hi lo = ylo := atV_begin (by omega)
  have b1 : atV ylo yhi lo hi hi = yhi := atV_end (by omega)
  have X : ∀ xl xr, xl = clipV (64 * i + 64 - 64) lo hi → xr = clipV (64 * i + 64) lo hi → _ := fun xl xr h1 h2 =>
    part_qq (lo := lo) (hi := hi) (ylo := ylo) (yhi := yhi) (r := 64 * i + 64) (yl := atV ylo yhi lo hi xl) (yr := atV ylo yhi lo hi xr) (xl := xl) (xr := xr) hw h1 h2
      (atV_half hw) (atV_half hw) (fun e => by rw [e]; exact b0) (fun e => by rw [e]; exact b1) (fun e => by rw [e]; exact b0) (fun e => by rw [e]; exact b1)
  have X := X _ _ rfl rfl
  rw [show 64 * i + 64 - 64 = 64 * i by omega] at X
  by_cases c : ylo ≤ yhi
  · rw [docG_up i hw c]
    rw [he, sz_pos (by omega)]
    unfold formY
    rw [b0]
    exact X
  · rw [docG_dn i hw (by omega)]
    rw [he, sz_neg (by omega)]
    unfold formY
    rw [b0]
    rw [Int.mul_neg, Int.neg_mul]
    omega
theorem tele {M K w : Int} (hM : 0 ≤ M) (hw : 0 ≤ w) : ∀ n : Nat, 2 * (w * sumZ (fun k => clp (K - ((k : Int) + 1) * w) 0 M) n) ≤ qq M K - qq M (K - n * w) ∧ qq M K - qq M (K - n * w) ≤ 2 * (w * sumZ (fun k => clp (K - (k : Int) * w) 0 M) n) := by
  intro n
  induction n with
  | zero => simp [sumZ]
  | succ n ih =>
    have e : K - ((n + 1 : Nat) : Int) * w = K - (n : Int) * w - w := by
      rw [show ((n + 1 : Nat) : Int) = (n : Int) + 1 by omega, Int.add_mul]; omega
    have h := qq_lip (M := M) (a := K - (n : Int) * w - w) (b := K - (n : Int) * w) hM (by omega)
    rw [show K - (n : Int) * w - (K - (n : Int) * w - w) = w by omega] at h
    have m1 := Int.mul_comm (clp (K - (n : Int) * w - w) 0 M) w
    have m2 := Int.mul_comm (clp (K - (n : Int) * w) 0 M) w
    simp only [sumZ, Int.mul_add]
    rw [e, show K - ((n : Int) + 1) * w = K - (n : Int) * w - w by rw [Int.add_mul]; omega]
    omega
theorem tele2 {M K w : Int} (hM : 0 ≤ M) (hw : 0 ≤ w) : ∀ n : Nat, 2 * (w * sumZ (fun k => clp (K + (k : Int) * w) 0 M) n) ≤ qq M (K + n * w) - qq M K ∧ qq M (K + n * w) - qq M K ≤ 2 * (w * sumZ (fun k => clp (K + ((k : Int) + 1) * w) 0 M) n) := by
  intro n
  induction n with
  | zero => simp [sumZ]
  | succ n ih =>
    have e : K + ((n + 1 : Nat) : Int) * w = K + (n : Int) * w + w := by
      rw [show ((n + 1 : Nat) : Int) = (n : Int) + 1 by omega, Int.add_mul]; omega
    have h := qq_lip (M := M) (a := K + (n : Int) * w) (b := K + (n : Int) * w + w) hM (by omega)
    rw [show K + (n : Int) * w + w - (K + (n : Int) * w) = w by omega] at h
    have m1 := Int.mul_comm (clp (K + (n : Int) * w + w) 0 M) w
    have m2 := Int.mul_comm (clp (K + (n : Int) * w) 0 M) w
    simp only [sumZ, Int.mul_add]
    rw [e, show K + ((n : Int) + 1) * w = K + (n : Int) * w + w by rw [Int.add_mul]; omega]
    omega
theorem sumZ_le {f g : Nat → Int} : ∀ n, (∀ k, k < n → f k ≤ g k) → sumZ f n ≤ sumZ g n := by
  intro n
  induction n with
  | zero => intro _; exact Int.le_refl _
  | succ n ih => intro h; have := ih (fun k hk => h k (by omega)); have := h n (by omega); simp only [sumZ]; omega
/-- The rounded part's strips. -/
def cS (e r x y : Int) (k : Nat) : Int := clp (e * (r - x) - (k : Int) * (y - x)) 0 (64 * e)
theorem cancel_le {w a b : Int} (hw : 0 < w) (h : w * a ≤ w * b) : a ≤ b := by
  rcases Int.lt_or_le b a with c | c
  · have := Int.mul_pos hw (show 0 < a - b by omega)
    rw [Int.mul_sub] at this
    omega
  · exact c
theorem part_strips {x t y u : Int} (i : Int) (htu : t < u) :
    2 * sumZ (fun k => lsV (cS (u - t) (64 * i + 64) x y k) (cS (u - t) (64 * i + 64) x y (k + 1))) (u - t).toNat - 64 * (u - t) ≤ (u - t) * partV x t y u i ∧
    (u - t) * partV x t y u i ≤ 2 * sumZ (fun k => gr (cS (u - t) (64 * i + 64) x y k) (cS (u - t) (64 * i + 64) x y (k + 1))) (u - t).toNat + 64 * (u - t) := by
  obtain ⟨e, he⟩ : ∃ e, e = u - t := ⟨_, rfl⟩
  obtain ⟨r, hr⟩ : ∃ r, r = 64 * i + 64 := ⟨_, rfl⟩
  have he0 : 0 < e := by omega
  have hn : ((e.toNat : Nat) : Int) = e := by omega
  rw [← he, ← hr, partV_eq]
  have L1 := sumZ_le (f := fun k => lsV (cS e r x y k) (cS e r x y (k + 1))) (g := fun k => cS e r x y k) e.toNat (fun k _ => (ls_le _ _).1)
  have L2 := sumZ_le (f := fun k => lsV (cS e r x y k) (cS e r x y (k + 1))) (g := fun k => cS e r x y (k + 1)) e.toNat (fun k _ => (ls_le _ _).2)
  have G1 := sumZ_le (g := fun k => gr (cS e r x y k) (cS e r x y (k + 1))) (f := fun k => cS e r x y k) e.toNat (fun k _ => (gr_ge _ _).1)
  have G2 := sumZ_le (g := fun k => gr (cS e r x y k) (cS e r x y (k + 1))) (f := fun k => cS e r x y (k + 1)) e.toNat (fun k _ => (gr_ge _ _).2)
  rcases Int.lt_trichotomy x y with c | c | c
  · rw [if_neg (by omega)]
    have D := docG_qq (lo := x) (hi := y) (ylo := t) (yhi := u) i e c (by rw [sz_pos (by omega)]; exact he)
    have T := tele (M := 64 * e) (K := e * (r - x)) (w := y - x) (by omega) (by omega) e.toNat
    rw [hn, ← Int.mul_sub, show r - x - (y - x) = r - y by omega, Int.mul_comm 64 e, qq_scale e 64 _ he0, qq_scale e 64 _ he0, ← Int.mul_sub, ← Int.mul_sub] at T
    rw [← hr] at D
    have s1 : sumZ (fun k => clp (e * (r - x) - ((k : Int) + 1) * (y - x)) 0 (e * 64)) e.toNat = sumZ (fun k => cS e r x y (k + 1)) e.toNat := by
      apply sumZ_congr; intro k _; unfold cS; rw [Int.mul_comm 64 e]; rfl
    have s2 : sumZ (fun k => clp (e * (r - x) - (k : Int) * (y - x)) 0 (e * 64)) e.toNat = sumZ (fun k => cS e r x y k) e.toNat := by
      apply sumZ_congr; intro k _; unfold cS; rw [Int.mul_comm 64 e]
    rw [s1, s2] at T
    obtain ⟨Q, hQ⟩ : ∃ Q, Q = e * (qq 64 (r - x) - qq 64 (r - y)) := ⟨_, rfl⟩
    rw [← hQ] at D T
    obtain ⟨w, hw⟩ : ∃ w, w = y - x := ⟨_, rfl⟩
    rw [← hw] at D T
    have d1 := Int.mul_le_mul_of_nonneg_left D.1 (show 0 ≤ e by omega)
    have d2 := Int.mul_le_mul_of_nonneg_left D.2 (show 0 ≤ e by omega)
    rw [Int.mul_sub, Int.mul_left_comm e w] at d1 d2
    have z1 : e * -(64 * w) = -(w * (64 * e)) := by rw [Int.mul_neg, Int.mul_comm e, Int.mul_assoc, Int.mul_left_comm]
    have z2 : e * (64 * w) = w * (64 * e) := by rw [Int.mul_comm e, Int.mul_assoc, Int.mul_left_comm]
    rw [z1] at d1
    rw [z2] at d2
    constructor
    · have : 2 * sumZ (fun k => cS e r x y (k + 1)) e.toNat - 64 * e ≤ e * docG x t y u i := by
        refine cancel_le (w := w) (by omega) ?_
        rw [Int.mul_sub, Int.mul_left_comm w 2]
        omega
      omega
    · have : e * docG x t y u i ≤ 2 * sumZ (fun k => cS e r x y k) e.toNat + 64 * e := by
        refine cancel_le (w := w) (by omega) ?_
        rw [Int.mul_add, Int.mul_left_comm w 2]
        omega
      omega
  · subst c
    rw [if_neg (Int.lt_irrefl _), docG_vert i (by omega), ← he, ← hr]
    have s : ∀ k, cS e r x x k = e * cl (r - x) := by
      intro k
      unfold cS
      rw [Int.sub_self, Int.mul_zero, Int.sub_zero, Int.mul_comm 64 e, clp_scale e _ 64 he0]
      rfl
    have s1 : sumZ (fun k => lsV (cS e r x x k) (cS e r x x (k + 1))) e.toNat = sumZ (fun _ => e * cl (r - x)) e.toNat := sumZ_congr _ (fun k _ => by rw [s, s]; unfold lsV; split <;> rfl)
    have s2 : sumZ (fun k => gr (cS e r x x k) (cS e r x x (k + 1))) e.toNat = sumZ (fun _ => e * cl (r - x)) e.toNat := sumZ_congr _ (fun k _ => by rw [s, s]; unfold gr; split <;> rfl)
    have s3 : ∀ (z : Int) (n : Nat), sumZ (fun _ => z) n = n * z := by
      intro z n
      induction n with
      | zero => simp [sumZ]
      | succ n ih => simp only [sumZ, ih]; rw [show ((n + 1 : Nat) : Int) = (n : Int) + 1 by omega, Int.add_mul]; omega
    rw [s1, s2, s3, hn]
    have : e * (2 * cl (r - x) * e) = 2 * (e * (e * cl (r - x))) := by
      rw [Int.mul_assoc 2, Int.mul_left_comm e 2, Int.mul_comm (cl (r - x)) e]
    omega
  · rw [if_pos c]
    have D := docG_qq (lo := y) (hi := x) (ylo := u) (yhi := t) i e c (by rw [sz_neg (by omega)]; omega)
    have T := tele2 (M := 64 * e) (K := e * (r - x)) (w := x - y) (by omega) (by omega) e.toNat
    rw [hn, ← Int.mul_add, show r - x + (x - y) = r - y by omega, Int.mul_comm 64 e, qq_scale e 64 _ he0, qq_scale e 64 _ he0, ← Int.mul_sub, ← Int.mul_sub] at T
    rw [← hr] at D
    have s1 : sumZ (fun k => clp (e * (r - x) + ((k : Int) + 1) * (x - y)) 0 (e * 64)) e.toNat = sumZ (fun k => cS e r x y (k + 1)) e.toNat := by
      apply sumZ_congr; intro k _; unfold cS; rw [Int.mul_comm 64 e, show y - x = -(x - y) by omega, Int.mul_neg]
      rw [show e * (r - x) - -(((k + 1 : Nat) : Int) * (x - y)) = e * (r - x) + ((k : Int) + 1) * (x - y) by rw [show ((k + 1 : Nat) : Int) = (k : Int) + 1 by omega]; omega]
    have s2 : sumZ (fun k => clp (e * (r - x) + (k : Int) * (x - y)) 0 (e * 64)) e.toNat = sumZ (fun k => cS e r x y k) e.toNat := by
      apply sumZ_congr; intro k _; unfold cS; rw [Int.mul_comm 64 e, show y - x = -(x - y) by omega, Int.mul_neg]
      rw [show e * (r - x) - -((k : Int) * (x - y)) = e * (r - x) + (k : Int) * (x - y) by omega]
    rw [s1, s2] at T
    obtain ⟨Q, hQ⟩ : ∃ Q, Q = e * (qq 64 (r - y) - qq 64 (r - x)) := ⟨_, rfl⟩
    rw [← hQ] at D T
    obtain ⟨w, hw⟩ : ∃ w, w = x - y := ⟨_, rfl⟩
    rw [← hw] at D T
    have d1 := Int.mul_le_mul_of_nonneg_left D.1 (show 0 ≤ e by omega)
    have d2 := Int.mul_le_mul_of_nonneg_left D.2 (show 0 ≤ e by omega)
    rw [Int.mul_sub, Int.mul_left_comm e w] at d1 d2
    have z1 : e * -(64 * w) = -(w * (64 * e)) := by rw [Int.mul_neg, Int.mul_comm e, Int.mul_assoc, Int.mul_left_comm]
    have z2 : e * (64 * w) = w * (64 * e) := by rw [Int.mul_comm e, Int.mul_assoc, Int.mul_left_comm]
    rw [z1] at d1
    rw [z2] at d2
    constructor
    · have : 2 * sumZ (fun k => cS e r x y k) e.toNat - 64 * e ≤ e * docG y u x t i := by
        refine cancel_le (w := w) (by omega) ?_
        rw [Int.mul_sub, Int.mul_left_comm w 2]
        omega
      omega
    · have : e * docG y u x t i ≤ 2 * sumZ (fun k => cS e r x y (k + 1)) e.toNat + 64 * e := by
        refine cancel_le (w := w) (by omega) ?_
        rw [Int.mul_add, Int.mul_left_comm w 2]
        omega
      omega
end Num
end Go.Proofs.Ytkhcjkmifddlbab

/- ClsX -/
namespace Go.Proofs.Ytkhcjkmifddlbab
namespace Num

theorem lin_id (d e R p q B s k : Int) : d * (e * (R - p) - k * (q - p)) - e * (d * R - B * (s + k)) = -((e - k) * (d * p - B * s)) - k * (d * q - B * (s + e)) := by
  simp only [Int.mul_add, Int.mul_sub, Int.mul_comm, Int.mul_left_comm]
  omega
theorem strip_near {ax ay bx b2 i t u : Int} {k : Nat} (h : ay < b2) (htu : t < u) (hk : (k : Int) ≤ u - t) :
    2 * ((b2 - ay) * cS (u - t) (64 * i + 64) (atV ax bx ay b2 t) (atV ax bx ay b2 u) k) ≤ 2 * ((u - t) * leftV ax ay bx b2 i (t + k)) + (b2 - ay) * (u - t) ∧
    2 * ((u - t) * leftV ax ay bx b2 i (t + k)) ≤ 2 * ((b2 - ay) * cS (u - t) (64 * i + 64) (atV ax bx ay b2 t) (atV ax bx ay b2 u) k) + (b2 - ay) * (u - t) := by
  have hx := atV_half (a := ax) (b := bx) (n := t) h
  have hy := atV_half (a := ax) (b := bx) (n := u) h
  obtain ⟨x, hx'⟩ : ∃ x, x = atV ax bx ay b2 t := ⟨_, rfl⟩
  obtain ⟨y, hy'⟩ : ∃ y, y = atV ax bx ay b2 u := ⟨_, rfl⟩
  rw [← hx'] at hx ⊢
  rw [← hy'] at hy ⊢
  obtain ⟨d, hd⟩ : ∃ d, d = b2 - ay := ⟨_, rfl⟩
  obtain ⟨e, he⟩ : ∃ e, e = u - t := ⟨_, rfl⟩
  rw [left_turn]
  unfold turnV
  rw [← hd] at hx hy ⊢
  rw [← he]
  have hd0 : 0 < d := by omega
  have he0 : 0 < e := by omega
  have I := lin_id d e (64 * i + 64 - ax) (x - ax) (y - ax) (bx - ax) (t - ay) k
  rw [show 64 * i + 64 - ax - (x - ax) = 64 * i + 64 - x by omega, show y - ax - (x - ax) = y - x by omega, show t - ay + (k : Int) = t + k - ay by omega, show t - ay + e = u - ay by omega] at I
  obtain ⟨gx, hgx⟩ : ∃ g, g = d * (x - ax) - (bx - ax) * (t - ay) := ⟨_, rfl⟩
  obtain ⟨gy, hgy⟩ : ∃ g, g = d * (y - ax) - (bx - ax) * (u - ay) := ⟨_, rfl⟩
  rw [← hgx] at hx I
  rw [← hgy] at hy I
  have m1 := mul_ge (a := 2 * gx) (t := e - k) (B := d) (by omega) (by omega)
  have m2 := mul_ge (a := 2 * gy) (t := (k : Int)) (B := d) (by omega) (by omega)
  rw [Int.mul_assoc] at m1 m2
  rw [Int.mul_sub d] at m1
  rw [Int.mul_comm gx] at m1
  rw [Int.mul_comm gy] at m2
  have hde : 0 ≤ d * e := Int.mul_nonneg (by omega) (by omega)
  unfold cS
  have c1 := clp_scale d (e * (64 * i + 64 - x) - (k : Int) * (y - x)) (64 * e) hd0
  have c2 := clp_scale e (d * (64 * i + 64 - ax) - (bx - ax) * (t + k - ay)) (64 * d) he0
  have c3 := clp_scale 2 (d * (e * (64 * i + 64 - x) - (k : Int) * (y - x))) (d * (64 * e)) (by omega)
  have c4 := clp_scale 2 (e * (d * (64 * i + 64 - ax) - (bx - ax) * (t + k - ay))) (e * (64 * d)) (by omega)
  have eM : e * (64 * d) = d * (64 * e) := by rw [Int.mul_left_comm, Int.mul_comm e d, Int.mul_left_comm]
  have hM : 0 ≤ 2 * (d * (64 * e)) := by rw [Int.mul_left_comm d 64]; omega
  rw [← c1, ← c2, eM]
  rw [eM] at c4
  rw [← c3, ← c4]
  exact ⟨clp_lip hM (by omega) hde, clp_lip hM (by omega) hde⟩
theorem sumZ_lin {f g : Nat → Int} {p q c : Int} : ∀ n : Nat, (∀ k, k < n → p * f k ≤ q * g k + c) → p * sumZ f n ≤ q * sumZ g n + n * c := by
  intro n
  induction n with
  | zero => intro _; simp [sumZ]
  | succ n ih =>
    intro h
    have h1 := ih (fun k hk => h k (by omega))
    have h2 := h n (by omega)
    simp only [sumZ, Int.mul_add]
    rw [show ((n + 1 : Nat) : Int) = (n : Int) + 1 by omega, Int.add_mul]
    omega
theorem sumZ_lin2 {f g : Nat → Int} {p q c : Int} : ∀ n : Nat, (∀ k, k < n → q * g k ≤ p * f k + c) → q * sumZ g n ≤ p * sumZ f n + n * c := fun n h => sumZ_lin n h

/-- The part of a chord in a row, against the strips. -/
theorem down_strips {ax ay bx b2 i t u : Int} (h : ay < b2) (htu : t < u) (h64 : u - t ≤ 64) :
    (b2 - ay) * partV (atV ax bx ay b2 t) t (atV ax bx ay b2 u) u i ≤ 2 * sumZ (stripH ax ay bx b2 i t) (u - t).toNat + 128 * (b2 - ay) ∧
    2 * sumZ (stripL ax ay bx b2 i t) (u - t).toNat ≤ (b2 - ay) * partV (atV ax bx ay b2 t) t (atV ax bx ay b2 u) u i + 128 * (b2 - ay) := by
  obtain ⟨P1, P2⟩ := part_strips (x := atV ax bx ay b2 t) (y := atV ax bx ay b2 u) i htu
  obtain ⟨n, hn⟩ : ∃ n, n = (u - t).toNat := ⟨_, rfl⟩
  have hn2 : (n : Int) = u - t := by omega
  rw [← hn] at P1 P2 ⊢
  have N : ∀ k : Nat, k ≤ n → _ := fun k hk => strip_near (ax := ax) (bx := bx) (i := i) (k := k) h htu (by omega)
  obtain ⟨d, hd⟩ : ∃ d, d = b2 - ay := ⟨_, rfl⟩
  obtain ⟨e, he⟩ : ∃ e, e = u - t := ⟨_, rfl⟩
  obtain ⟨V, hV⟩ : ∃ V, V = partV (atV ax bx ay b2 t) t (atV ax bx ay b2 u) u i := ⟨_, rfl⟩
  obtain ⟨cS', hcS⟩ : ∃ c : Nat → Int, c = cS e (64 * i + 64) (atV ax bx ay b2 t) (atV ax bx ay b2 u) := ⟨_, rfl⟩
  rw [← he] at P1 P2 N hn2 h64
  rw [← hd] at N ⊢
  rw [← hV] at P1 P2 ⊢
  rw [← hcS] at P1 P2 N
  have hd0 : 0 < d := by omega
  have he0 : 0 < e := by omega
  have S1 := sumZ_lin (f := fun k => gr (cS' k) (cS' (k + 1))) (g := stripH ax ay bx b2 i t) (p := 2 * d) (q := 2 * e) (c := d * e) n (fun k hk => by
    have n1 := N k (by omega)
    have n2 := N (k + 1) (by omega)
    rw [show t + ((k + 1 : Nat) : Int) = t + k + 1 by omega] at n2
    have g1 := gr_ge (leftV ax ay bx b2 i (t + k)) (leftV ax ay bx b2 i (t + k + 1))
    have m1 := Int.mul_le_mul_of_nonneg_left g1.1 (show 0 ≤ e by omega)
    have m2 := Int.mul_le_mul_of_nonneg_left g1.2 (show 0 ≤ e by omega)
    unfold stripH
    rw [Int.mul_assoc, Int.mul_assoc]
    rcases gr_or (cS' k) (cS' (k + 1)) with c | c <;> simp only [c] <;> omega)
  have S2 := sumZ_lin (f := stripL ax ay bx b2 i t) (g := fun k => lsV (cS' k) (cS' (k + 1))) (p := 2 * e) (q := 2 * d) (c := d * e) n (fun k hk => by
    have n1 := N k (by omega)
    have n2 := N (k + 1) (by omega)
    rw [show t + ((k + 1 : Nat) : Int) = t + k + 1 by omega] at n2
    have g1 := ls_le (leftV ax ay bx b2 i (t + k)) (leftV ax ay bx b2 i (t + k + 1))
    have m1 := Int.mul_le_mul_of_nonneg_left g1.1 (show 0 ≤ e by omega)
    have m2 := Int.mul_le_mul_of_nonneg_left g1.2 (show 0 ≤ e by omega)
    unfold stripL
    rw [Int.mul_assoc, Int.mul_assoc]
    rcases ls_or (cS' k) (cS' (k + 1)) with c | c <;> simp only [c] <;> omega)
  rw [hn2] at S1 S2
  have q1 := Int.mul_le_mul_of_nonneg_left P1 (show 0 ≤ d by omega)
  have q2 := Int.mul_le_mul_of_nonneg_left P2 (show 0 ≤ d by omega)
  have hde : 0 ≤ d * e := Int.mul_nonneg (by omega) (by omega)
  have q3 := Int.mul_le_mul_of_nonneg_right h64 hde
  rw [Int.mul_assoc, Int.mul_assoc] at S1 S2
  rw [Int.mul_sub, Int.mul_left_comm d 2, Int.mul_left_comm d 64, Int.mul_left_comm d e] at q1
  rw [Int.mul_add, Int.mul_left_comm d 2, Int.mul_left_comm d 64, Int.mul_left_comm d e] at q2
  have z : e * (128 * d) = 128 * (d * e) := by rw [Int.mul_left_comm, Int.mul_comm e d]
  constructor
  · refine cancel_le he0 ?_
    rw [Int.mul_add, Int.mul_left_comm e 2, z]
    omega
  · refine cancel_le he0 ?_
    rw [Int.mul_add, Int.mul_left_comm e 2, z]
    omega
theorem sumZ_nn {f : Nat → Int} : ∀ n, (∀ k, k < n → 0 ≤ f k) → 0 ≤ sumZ f n := by
  intro n
  induction n with
  | zero => intro _; exact Int.le_refl _
  | succ n ih => intro h; have := ih (fun k hk => h k (by omega)); have := h n (by omega); simp only [sumZ]; omega
theorem sumZ_const (z : Int) (n : Nat) : sumZ (fun _ => z) n = n * z := by
  induction n with
  | zero => simp [sumZ]
  | succ n ih => simp only [sumZ, ih]; rw [show ((n + 1 : Nat) : Int) = (n : Int) + 1 by omega, Int.add_mul]; omega
theorem left_nn {ax ay bx b2 i y : Int} (h : ay < b2) : 0 ≤ leftV ax ay bx b2 i y := (clp_rng (by omega)).1
/-- A chord that does not meet the pixel, in the pixel's row: all to the left, or all to the right. -/
theorem un_sides {ax ay bx b2 i j : Int} (hu : UnV ax ay bx b2 i j) (htu : topV ay j < botV b2 j) :
    (∀ y, topV ay j ≤ y → y ≤ botV b2 j → 0 ≤ turnV ax ay bx b2 (64 * i) y) ∨ (∀ y, topV ay j ≤ y → y ≤ botV b2 j → turnV ax ay bx b2 (64 * i + 64) y ≤ 0) := by
  have g := gr_ge ay (64 * j)
  have l := ls_le b2 (64 * j + 64)
  unfold topV botV at *
  rcases hu with c | c | c | c | c | c
  · refine .inl (fun y h1 h2 => ?_)
    rw [turn_split]
    have m1 := Int.mul_nonneg (show 0 ≤ b2 - y by omega) (show 0 ≤ 64 * i - ax by omega)
    have m2 := Int.mul_nonneg (show 0 ≤ y - ay by omega) (show 0 ≤ 64 * i - bx by omega)
    omega
  · refine .inr (fun y h1 h2 => ?_)
    rw [turn_split]
    have m1 := Int.mul_nonneg (show 0 ≤ b2 - y by omega) (show 0 ≤ -(64 * i + 64 - ax) by omega)
    have m2 := Int.mul_nonneg (show 0 ≤ y - ay by omega) (show 0 ≤ -(64 * i + 64 - bx) by omega)
    rw [Int.mul_neg] at m1 m2
    omega
  · omega
  · omega
  · exact .inl (fun y h1 h2 => by have := (turn_mid (x := 64 * i) (t := 64 * j) (y := y) (by omega) (by omega)).1 c.1 c.2.2.1; omega)
  · exact .inr (fun y h1 h2 => by have := (turn_mid (x := 64 * i + 64) (t := 64 * j) (y := y) (by omega) (by omega)).2 c.2.1 c.2.2.2; omega)
theorem at_left' {ax ay bx b2 x y : Int} (h : ay < b2) (ht : 0 ≤ turnV ax ay bx b2 x y) : atV ax bx ay b2 y ≤ x := by
  rw [atV_eq (by omega), if_neg (by omega)]
  unfold turnV at ht
  have := hu_le_of (n := (bx - ax) * (y - ay)) (d := b2 - ay) (B := x - ax) (by omega) (by rw [Int.mul_comm (x - ax)]; omega)
  omega
theorem at_right' {ax ay bx b2 x y : Int} (h : ay < b2) (ht : turnV ax ay bx b2 x y ≤ 0) : x ≤ atV ax bx ay b2 y := by
  rw [atV_eq (by omega), if_neg (by omega)]
  unfold turnV at ht
  have := hu_ge_of (n := (bx - ax) * (y - ay)) (d := b2 - ay) (B := x - ax) (by omega) (by rw [Int.mul_comm (x - ax)]; omega)
  omega
/-- Of one that goes down. -/
theorem close_down {ax ay bx b2 : Int} (i j : Int) (h : ay < b2) :
    2 * (lowV ax ay bx b2 i j - offV ax ay bx b2 i j) ≤ downV ax ay bx b2 i j ∧ downV ax ay bx b2 i j ≤ 2 * (highV ax ay bx b2 i j + offV ax ay bx b2 i j) := by
  have g := gr_ge ay (64 * j)
  have l := ls_le b2 (64 * j + 64)
  have hd0 : 0 < b2 - ay := by omega
  have ho : 0 ≤ offV ax ay bx b2 i j := by
    unfold offV
    repeat' split
    all_goals omega
  unfold lowV highV
  rw [if_neg (by omega), if_neg (by omega)]
  have nnL : 0 ≤ sumZ (stripL ax ay bx b2 i (topV ay j)) (botV b2 j - topV ay j).toNat := sumZ_nn _ (fun k _ => by
    unfold stripL; rcases ls_or (leftV ax ay bx b2 i (topV ay j + k)) (leftV ax ay bx b2 i (topV ay j + k + 1)) with c | c <;> rw [c] <;> exact left_nn h)
  have nnH : 0 ≤ sumZ (stripH ax ay bx b2 i (topV ay j)) (botV b2 j - topV ay j).toNat := sumZ_nn _ (fun k _ => by
    unfold stripH; rcases gr_or (leftV ax ay bx b2 i (topV ay j + k)) (leftV ax ay bx b2 i (topV ay j + k + 1)) with c | c <;> rw [c] <;> exact left_nn h)
  by_cases htu : topV ay j < botV b2 j
  · have hdn : downV ax ay bx b2 i j = partV (atV ax bx ay b2 (topV ay j)) (topV ay j) (atV ax bx ay b2 (botV b2 j)) (botV b2 j) i := by
      unfold downV
      rw [if_neg (by unfold topV botV at htu; omega)]; rfl
    have h64 : botV b2 j - topV ay j ≤ 64 := by unfold topV botV; omega
    cases hm : meetsV ax ay bx b2 i j
    · have off0 : offV ax ay bx b2 i j = 0 := by unfold offV; rw [hm, if_neg (by omega)]; rfl
      rw [off0]
      have hen : (((botV b2 j - topV ay j).toNat : Nat) : Int) = botV b2 j - topV ay j := by omega
      rcases un_sides (un_of hm) htu with c | c
      · have v : downV ax ay bx b2 i j = 128 * (botV b2 j - topV ay j) := by
          rw [hdn]
          exact partV_left2 (at_left' h (c _ (Int.le_refl _) (by omega))) (at_left' h (c _ (by omega) (Int.le_refl _))) (by omega)
        have lf : ∀ y, topV ay j ≤ y → y ≤ botV b2 j → leftV ax ay bx b2 i y = 64 * (b2 - ay) := by
          intro y h1 h2
          have := c y h1 h2
          rw [left_turn, turn_x, Int.mul_comm (b2 - ay) 64]
          unfold clp
          repeat' split
          all_goals omega
        have sL : sumZ (stripL ax ay bx b2 i (topV ay j)) (botV b2 j - topV ay j).toNat = (botV b2 j - topV ay j) * (64 * (b2 - ay)) := by
          rw [sumZ_congr (g := fun _ => 64 * (b2 - ay)) _ (fun k hk => by unfold stripL; rw [lf _ (by omega) (by omega), lf _ (by omega) (by omega)]; unfold lsV; split <;> rfl), sumZ_const, hen]
        have sH : sumZ (stripH ax ay bx b2 i (topV ay j)) (botV b2 j - topV ay j).toNat = (botV b2 j - topV ay j) * (64 * (b2 - ay)) := by
          rw [sumZ_congr (g := fun _ => 64 * (b2 - ay)) _ (fun k hk => by unfold stripH; rw [lf _ (by omega) (by omega), lf _ (by omega) (by omega)]; unfold gr; split <;> rfl), sumZ_const, hen]
        rw [sL, sH, v]
        have e1 : (botV b2 j - topV ay j) * (64 * (b2 - ay)) = (b2 - ay) * (64 * (botV b2 j - topV ay j)) := by rw [Int.mul_comm, Int.mul_assoc, Int.mul_left_comm]
        rw [e1]
        have pos : 0 ≤ (b2 - ay) * (64 * (botV b2 j - topV ay j)) := Int.mul_nonneg (by omega) (by omega)
        rw [Int.tdiv_eq_ediv_of_nonneg pos, Int.tdiv_eq_ediv_of_nonneg (by omega), Int.mul_ediv_cancel_left _ (by omega)]
        have e2 : ((b2 - ay) * (64 * (botV b2 j - topV ay j)) + (b2 - ay) - 1) / (b2 - ay) = 64 * (botV b2 j - topV ay j) := by
          rw [show (b2 - ay) * (64 * (botV b2 j - topV ay j)) + (b2 - ay) - 1 = (b2 - ay - 1) + (b2 - ay) * (64 * (botV b2 j - topV ay j)) by omega, Int.add_mul_ediv_left _ _ (by omega), Int.ediv_eq_zero_of_lt (by omega) (by omega)]
          omega
        rw [e2]
        omega
      · have v : downV ax ay bx b2 i j = 0 := by
          rw [hdn]
          exact partV_right (at_right' h (c _ (Int.le_refl _) (by omega))) (at_right' h (c _ (by omega) (Int.le_refl _)))
        have lf : ∀ y, topV ay j ≤ y → y ≤ botV b2 j → leftV ax ay bx b2 i y = 0 := by
          intro y h1 h2
          have := c y h1 h2
          rw [left_turn]
          unfold clp
          repeat' split
          all_goals omega
        have sL : sumZ (stripL ax ay bx b2 i (topV ay j)) (botV b2 j - topV ay j).toNat = 0 := by
          rw [sumZ_congr (g := fun _ => 0) _ (fun k hk => by unfold stripL; rw [lf _ (by omega) (by omega), lf _ (by omega) (by omega)]; rfl), sumZ_const, Int.mul_zero]
        have sH : sumZ (stripH ax ay bx b2 i (topV ay j)) (botV b2 j - topV ay j).toNat = 0 := by
          rw [sumZ_congr (g := fun _ => 0) _ (fun k hk => by unfold stripH; rw [lf _ (by omega) (by omega), lf _ (by omega) (by omega)]; rfl), sumZ_const, Int.mul_zero]
        rw [sL, sH, v, Int.zero_tdiv, Int.tdiv_eq_ediv_of_nonneg (by omega), Int.ediv_eq_zero_of_lt (by omega) (by omega)]
        omega
    · have off1 : offV ax ay bx b2 i j = 64 := by unfold offV; rw [hm, if_neg (by omega)]; rfl
      rw [off1, hdn]
      obtain ⟨D1, D2⟩ := down_strips (ax := ax) (bx := bx) (i := i) h htu h64
      obtain ⟨V, hV⟩ : ∃ V, V = partV (atV ax bx ay b2 (topV ay j)) (topV ay j) (atV ax bx ay b2 (botV b2 j)) (botV b2 j) i := ⟨_, rfl⟩
      obtain ⟨d, hd⟩ : ∃ d, d = b2 - ay := ⟨_, rfl⟩
      obtain ⟨SL, hSL⟩ : ∃ SL, SL = sumZ (stripL ax ay bx b2 i (topV ay j)) (botV b2 j - topV ay j).toNat := ⟨_, rfl⟩
      obtain ⟨SH, hSH⟩ : ∃ SH, SH = sumZ (stripH ax ay bx b2 i (topV ay j)) (botV b2 j - topV ay j).toNat := ⟨_, rfl⟩
      rw [← hV, ← hd] at D1 D2
      rw [← hV, ← hd]
      rw [← hSH] at D1 nnH ⊢
      rw [← hSL] at D2 nnL ⊢
      rw [Int.tdiv_eq_ediv_of_nonneg nnL, Int.tdiv_eq_ediv_of_nonneg (by omega)]
      have a1 := Int.mul_ediv_add_emod SL d
      have a2 := Int.emod_nonneg SL (show d ≠ 0 by omega)
      have b1 := Int.mul_ediv_add_emod (SH + d - 1) d
      have b2' := Int.emod_lt_of_pos (SH + d - 1) (show 0 < d by omega)
      constructor
      · refine cancel_le (w := d) (by omega) ?_
        rw [Int.mul_left_comm, Int.mul_sub]
        omega
      · refine cancel_le (w := d) (by omega) ?_
        rw [Int.mul_left_comm, Int.mul_add]
        omega
  · have v : downV ax ay bx b2 i j = 0 := by
      unfold downV
      rw [if_pos (by unfold topV botV at htu; omega)]
    have z : (botV b2 j - topV ay j).toNat = 0 := by omega
    rw [v, z]
    simp only [sumZ]
    rw [Int.zero_tdiv, Int.tdiv_eq_ediv_of_nonneg (by omega), Int.ediv_eq_zero_of_lt (by omega) (by omega)]
    omega
/-- Of any chord: what it may count at least, and at most. -/
def loC (ax ay bx b2 i j : Int) : Int := lowV ax ay bx b2 i j - highV bx b2 ax ay i j - offV ax ay bx b2 i j - offV bx b2 ax ay i j
def hiC (ax ay bx b2 i j : Int) : Int := highV ax ay bx b2 i j - lowV bx b2 ax ay i j + offV ax ay bx b2 i j + offV bx b2 ax ay i j
theorem close_none {ax ay bx b2 : Int} (i j : Int) (h : b2 ≤ ay) : lowV ax ay bx b2 i j = 0 ∧ highV ax ay bx b2 i j = 0 ∧ offV ax ay bx b2 i j = 0 := by
  unfold lowV highV offV
  rw [if_pos (by omega), if_pos (by omega), if_pos (by omega)]; exact ⟨rfl, rfl, rfl⟩
theorem close_chord (ax ay bx b2 i j : Int) : 2 * loC ax ay bx b2 i j ≤ chordV ax ay bx b2 i j ∧ chordV ax ay bx b2 i j ≤ 2 * hiC ax ay bx b2 i j := by
  unfold loC hiC
  rcases Int.lt_trichotomy ay b2 with c | c | c
  · have n := close_none (ax := bx) (bx := ax) i j (show ay ≤ b2 by omega)
    have d := close_down (ax := ax) (bx := bx) i j c
    unfold chordV
    rw [if_neg (by omega)]
    omega
  · subst c
    have n := close_none (ax := bx) (bx := ax) i j (Int.le_refl ay)
    have m := close_none (ax := ax) (bx := bx) i j (Int.le_refl ay)
    rw [chordV_flat]
    omega
  · have n := close_none (ax := ax) (bx := bx) i j (show b2 ≤ ay by omega)
    have d := close_down (ax := bx) (bx := ax) i j c
    unfold chordV
    rw [if_pos c]
    omega
/-- Of all rings. -/
theorem close_out (L : Nat → List (Int × Int)) (N : Nat) (i j : Int) : 2 * outF (fun ax ay bx b2 => loC ax ay bx b2 i j) L N ≤ areaV L N i j ∧ areaV L N i j ≤ 2 * outF (fun ax ay bx b2 => hiC ax ay bx b2 i j) L N := by
  unfold areaV outF
  rw [← sumZ_mul, ← sumZ_mul]
  constructor
  · refine sumZ_le _ (fun r _ => ?_)
    unfold ringF
    rw [← sumZ_mul]
    exact sumZ_le _ (fun k _ => (close_chord _ _ _ _ i j).1)
  · refine sumZ_le _ (fun r _ => ?_)
    unfold ringF
    rw [← sumZ_mul]
    exact sumZ_le _ (fun k _ => (close_chord _ _ _ _ i j).2)
end Num
end Go.Proofs.Ytkhcjkmifddlbab

/- WhlV -/
namespace Go.Proofs.Ytkhcjkmifddlbab
namespace Num

/-- Twice what lies to the left of the pieces. -/
def trap : Int → Int → List (Int × Int) → Int
  | _, _, [] => 0
  | x, y, t :: r => (t.2 - y) * (x + t.1) + trap t.1 t.2 r
theorem trap_append (l r : List (Int × Int)) : ∀ x y, trap x y (l ++ r) = trap x y l + trap (lastS x y l).1 (lastS x y l).2 r := by
  induction l with
  | nil => intro x y; simp [trap, lastS]
  | cons t l ih => intro x y; simp only [List.cons_append, trap, lastS, ih]; omega
def trU (f : Int → Int) : Int → List Int → Int
  | _, [] => 0
  | u, v :: r => (v - u) * (f u + f v) + trU f v r
theorem trap_rows (f : Int → Int) : ∀ (l : List Int) (u : Int), trap (f u) u (l.map fun v => (f v, v)) = trU f u l := by
  intro l
  induction l with
  | nil => intro u; rfl
  | cons v r ih => intro u; simp only [List.map_cons, trap, trU, ih]
theorem trap_cols (f : Int → Int) : ∀ (l : List Int) (u : Int), trap u (f u) (l.map fun v => (v, f v)) = 2 * (lastI u l * f (lastI u l) - u * f u) - trU f u l := by
  intro l
  induction l with
  | nil => intro u; simp only [List.map_nil, trap, trU, lastI]; omega
  | cons v r ih =>
    intro u
    simp only [List.map_cons, trap, trU, lastI, ih]
    have e1 : (f v - f u) * (u + v) = f v * u + f v * v - f u * u - f u * v := by rw [Int.sub_mul, Int.mul_add, Int.mul_add]; omega
    have e2 : (v - u) * (f u + f v) = v * f u + v * f v - u * f u - u * f v := by rw [Int.sub_mul, Int.mul_add, Int.mul_add]; omega
    have c1 := Int.mul_comm (f v) u
    have c2 := Int.mul_comm (f v) v
    have c3 := Int.mul_comm (f u) u
    have c4 := Int.mul_comm (f u) v
    omega
theorem tr_step (D a c p u v fu fv : Int) : D * ((v - u) * (fu + fv)) = (v - u) * ((D * (fu - a) - c * (u - p)) + (D * (fv - a) - c * (v - p))) + 2 * (a * D) * (v - u) + c * ((v - p) * (v - p) - (u - p) * (u - p)) := by
  have e : (v - p) * (v - p) - (u - p) * (u - p) = (v - u) * ((u - p) + (v - p)) := by
    have := Int.mul_comm u v
    have := Int.mul_comm p u
    have := Int.mul_comm p v
    simp only [Int.mul_sub, Int.sub_mul, Int.mul_add]
    omega
  rw [e]
  have x1 : D * ((v - u) * (fu + fv)) = (v - u) * (D * fu) + (v - u) * (D * fv) := by
    rw [Int.mul_left_comm, Int.mul_add, Int.mul_add]
  have x2 : c * ((v - u) * ((u - p) + (v - p))) = (v - u) * (c * (u - p)) + (v - u) * (c * (v - p)) := by
    rw [Int.mul_left_comm, Int.mul_add, Int.mul_add]
  have x3 : 2 * (a * D) * (v - u) = (v - u) * (D * a) + (v - u) * (D * a) := by
    rw [Int.mul_assoc, Int.mul_comm a D, Int.mul_comm (D * a)]; omega
  rw [x1, x2, x3]
  simp only [Int.mul_add, Int.mul_sub (v - u), Int.mul_sub D]
  omega
theorem tr_err (f : Int → Int) (D a c p : Int) : ∀ (l : List Int) (u : Int), D * trU f u l = trU (fun v => D * (f v - a) - c * (v - p)) u l + 2 * (a * D) * (lastI u l - u) + c * ((lastI u l - p) * (lastI u l - p) - (u - p) * (u - p)) := by
  intro l
  induction l with
  | nil => intro u; simp only [trU, lastI, Int.sub_self, Int.mul_zero]; omega
  | cons v r ih =>
    intro u
    simp only [trU, lastI]
    rw [Int.mul_add, ih v, tr_step D a c p u v (f u) (f v)]
    simp only [Int.mul_sub]
    omega
theorem tr_bdU {E : Int → Int} {D : Int} : ∀ (l : List Int) (u : Int), StepsU u l → (∀ v ∈ u :: l, -D ≤ 2 * E v ∧ 2 * E v ≤ D) → -((lastI u l - u) * D) ≤ trU E u l ∧ trU E u l ≤ (lastI u l - u) * D := by
  intro l
  induction l with
  | nil => intro u _ _; simp [trU, lastI]
  | cons v r ih =>
    intro u h hE
    have h1 := ih v h.2.2.2 (fun w hw => hE w (List.mem_cons_of_mem _ hw))
    have h2 := hE u (by simp)
    have h3 := hE v (by simp)
    have h4 := h.1
    have m := mul_ge (a := E u + E v) (t := v - u) (B := D) (by omega) (by omega)
    rw [Int.mul_comm (E u + E v), Int.mul_comm D] at m
    simp only [trU, lastI]
    have e : (lastI v r - u) * D = (lastI v r - v) * D + (v - u) * D := by rw [← Int.add_mul]; congr 1; omega
    omega
theorem tr_bdD {E : Int → Int} {D : Int} : ∀ (l : List Int) (u : Int), StepsD u l → (∀ v ∈ u :: l, -D ≤ 2 * E v ∧ 2 * E v ≤ D) → -((u - lastI u l) * D) ≤ trU E u l ∧ trU E u l ≤ (u - lastI u l) * D := by
  intro l
  induction l with
  | nil => intro u _ _; simp [trU, lastI]
  | cons v r ih =>
    intro u h hE
    have h1 := ih v h.2.2.2 (fun w hw => hE w (List.mem_cons_of_mem _ hw))
    have h2 := hE u (by simp)
    have h3 := hE v (by simp)
    have h4 := h.1
    have m := mul_ge (a := E u + E v) (t := u - v) (B := D) (by omega) (by omega)
    rw [Int.mul_comm (E u + E v), Int.mul_comm D] at m
    simp only [trU, lastI]
    have e : (u - lastI v r) * D = (v - lastI v r) * D + (u - v) * D := by rw [← Int.add_mul]; congr 1; omega
    have e2 : (v - u) * (E u + E v) = -((u - v) * (E u + E v)) := by rw [← Int.neg_mul]; congr 1; omega
    omega
theorem tr_zero {E : Int → Int} : ∀ (l : List Int) (u : Int), (∀ v ∈ u :: l, E v = 0) → trU E u l = 0 := by
  intro l
  induction l with
  | nil => intro u _; rfl
  | cons v r ih =>
    intro u hE
    simp only [trU]
    rw [ih v (fun w hw => hE w (List.mem_cons_of_mem _ hw)), hE u (by simp), hE v (by simp)]; simp
/-- A line's rounded heights add up to the line's own, but for its length at most. -/
theorem tr_near {a b p q : Int} {l : List Int} (hp : -16384 ≤ p ∧ p ≤ 16384) (hq : -16384 ≤ q ∧ q ≤ 16384) (hne : p ≠ q) (hl : l = linesV p q ++ [q]) :
    sz (trU (atV a b p q) p l - (q - p) * (a + b)) ≤ sz (q - p) ∧ ((a = b ∨ sz (b - a) = sz (q - p)) → trU (atV a b p q) p l = (q - p) * (a + b)) := by
  obtain ⟨D, hD⟩ : ∃ D, D = sz (q - p) := ⟨_, rfl⟩
  obtain ⟨s, hs⟩ : ∃ s : Int, (s = 1 ∧ p < q) ∨ (s = -1 ∧ q < p) := by
    rcases Int.lt_or_le p q with c | c
    · exact ⟨1, .inl ⟨rfl, c⟩⟩
    · exact ⟨-1, .inr ⟨rfl, by omega⟩⟩
  have hD0 : 0 < D ∧ q - p = s * D := by
    rw [hD]; unfold sz
    rcases hs with ⟨rfl, c⟩ | ⟨rfl, c⟩ <;> split <;> omega
  have hE : ∀ v, -D ≤ 2 * (D * (atV a b p q v - a) - s * (b - a) * (v - p)) ∧ 2 * (D * (atV a b p q v - a) - s * (b - a) * (v - p)) ≤ D := by
    intro v
    rcases hs with ⟨rfl, c⟩ | ⟨rfl, c⟩
    · have h := atV_half (a := a) (b := b) (n := v) c
      rw [Int.one_mul]
      rw [show q - p = D by omega] at h
      exact h
    · have h := atV_half (a := b) (b := a) (n := v) c
      rw [atV_symm hne]
      rw [show p - q = D by omega] at h
      have e1 : D * (atV b a q p v - b) = D * (atV b a q p v - a) + D * (a - b) := by rw [← Int.mul_add]; congr 1; omega
      have e2 : (a - b) * (v - q) = -1 * (b - a) * (v - p) + D * (a - b) := by
        rw [show v - q = (v - p) + D by omega, Int.mul_add, Int.mul_comm (a - b) D, show -1 * (b - a) = a - b by omega]
      omega
  have hz : (a = b ∨ sz (b - a) = sz (q - p)) → ∀ v, D * (atV a b p q v - a) - s * (b - a) * (v - p) = 0 := by
    intro hc v
    have key : ∃ k : Int, s * (b - a) = D * k := by
      rcases hc with hc | hc
      · exact ⟨0, by rw [hc, Int.sub_self]; simp⟩
      · rw [← hD] at hc
        have : b - a = D ∨ b - a = -D := by unfold sz at hc; split at hc <;> omega
        rcases this with h | h
        · exact ⟨s, by rw [h, Int.mul_comm]⟩
        · exact ⟨-s, by rw [h, Int.mul_comm, Int.neg_mul, Int.mul_neg]⟩
    obtain ⟨k, hk⟩ := key
    have h := hE v
    rw [hk, Int.mul_assoc, ← Int.mul_sub] at h ⊢
    have : atV a b p q v - a - k * (v - p) = 0 := by
      obtain ⟨z, hz⟩ : ∃ z, z = atV a b p q v - a - k * (v - p) := ⟨_, rfl⟩
      rw [← hz] at h ⊢
      rcases Int.lt_trichotomy z 0 with c | c | c
      · have := Int.mul_le_mul_of_nonneg_left (show 1 ≤ -z by omega) (show 0 ≤ D by omega)
        rw [Int.mul_neg] at this; omega
      · exact c
      · have := Int.mul_le_mul_of_nonneg_left (show 1 ≤ z by omega) (show 0 ≤ D by omega)
        omega
    rw [this, Int.mul_zero]
  have T := tr_err (atV a b p q) D a (s * (b - a)) p l p
  have hlast : lastI p l = q := by rw [hl, lastI_snoc]
  rw [hlast] at T
  simp only [Int.sub_self, Int.mul_zero, Int.sub_zero] at T
  have hT : 2 * (a * D) * (q - p) + s * (b - a) * ((q - p) * (q - p)) = D * ((q - p) * (a + b)) := by
    rw [hD0.2]
    rcases hs with ⟨rfl, c⟩ | ⟨rfl, c⟩
    · simp only [Int.one_mul]
      have e1 : 2 * (a * D) * D = D * (D * a) + D * (D * a) := by rw [Int.mul_assoc, Int.mul_comm (a * D) D, Int.mul_comm a D]; omega
      have e2 : (b - a) * (D * D) = D * (D * b) - D * (D * a) := by rw [Int.mul_comm, Int.mul_assoc, Int.mul_sub, Int.mul_sub]
      rw [e1, e2, Int.mul_add, Int.mul_add]; omega
    · simp only [Int.neg_mul, Int.one_mul, Int.mul_neg, Int.neg_neg]
      have e1 : 2 * (a * D) * D = D * (D * a) + D * (D * a) := by rw [Int.mul_assoc, Int.mul_comm (a * D) D, Int.mul_comm a D]; omega
      have e2 : (b - a) * (D * D) = D * (D * b) - D * (D * a) := by rw [Int.mul_comm, Int.mul_assoc, Int.mul_sub, Int.mul_sub]
      rw [e1, e2, Int.mul_add, Int.mul_add]; omega
  constructor
  · have bd : -(D * D) ≤ trU (fun v => D * (atV a b p q v - a) - s * (b - a) * (v - p)) p l ∧ trU (fun v => D * (atV a b p q v - a) - s * (b - a) * (v - p)) p l ≤ D * D := by
      rcases hs with ⟨rfl, c⟩ | ⟨rfl, c⟩
      · have h := tr_bdU (E := fun v => D * (atV a b p q v - a) - 1 * (b - a) * (v - p)) (D := D) l p (steps_up c hp.1 hq.2 hl) (fun v _ => hE v)
        rw [hlast, show q - p = D by omega] at h
        exact h
      · have h := tr_bdD (E := fun v => D * (atV a b p q v - a) - -1 * (b - a) * (v - p)) (D := D) l p (steps_dn c hp.2 hq.1 hl) (fun v _ => hE v)
        rw [hlast, show p - q = D by omega] at h
        exact h
    rw [← hD]
    have h1 : trU (atV a b p q) p l - (q - p) * (a + b) ≤ D := by
      refine cancel_le hD0.1 ?_
      rw [Int.mul_sub]; omega
    have h2 : -D ≤ trU (atV a b p q) p l - (q - p) * (a + b) := by
      refine cancel_le hD0.1 ?_
      rw [Int.mul_sub, Int.mul_neg]; omega
    exact (sz_bd h2 h1).2
  · intro hc
    have z := tr_zero (E := fun v => D * (atV a b p q v - a) - s * (b - a) * (v - p)) l p (fun v _ => hz hc v)
    rw [z] at T
    have h1 : trU (atV a b p q) p l ≤ (q - p) * (a + b) := cancel_le hD0.1 (by omega)
    have h2 : (q - p) * (a + b) ≤ trU (atV a b p q) p l := cancel_le hD0.1 (by omega)
    omega
end Num
end Go.Proofs.Ytkhcjkmifddlbab

/- WhlW -/
namespace Go.Proofs.Ytkhcjkmifddlbab
namespace Num

theorem col_near {px py qx qy : Int} (hp : -16384 ≤ px ∧ px ≤ 16384) (hq : -16384 ≤ qx ∧ qx ≤ 16384) {L : List (Int × Int)} (hL : L = colsV px py qx qy ++ [(qx, qy)]) :
    sz (trap px py L - (qy - py) * (px + qx)) ≤ sz (qx - px) ∧ ((px = qx ∨ py = qy ∨ sz (qy - py) = sz (qx - px)) → trap px py L = (qy - py) * (px + qx)) := by
  by_cases e : px = qx
  · subst e
    have e : colsV px py px qy = [] := by unfold colsV linesV; rw [upR_none _ (Int.le_refl _), dnR_none _ (Int.le_refl _)]; rfl
    rw [e, List.nil_append] at hL
    subst hL
    simp only [trap, Int.add_zero, Int.sub_self]
    exact ⟨Int.le_refl _, fun _ => trivial⟩
  · have glue : colsV px py qx qy ++ [(qx, qy)] = (linesV px qx ++ [qx]).map fun v => (v, atV py qy px qx v) := by
      rw [List.map_append, List.map_cons, List.map_nil, atV_end e]; rfl
    rw [glue] at hL
    generalize hl : linesV px qx ++ [qx] = l at hL
    obtain ⟨T1, T2⟩ := tr_near (a := py) (b := qy) hp hq e hl.symm
    have C := trap_cols (atV py qy px qx) l px
    have hlast : lastI px l = qx := by rw [← hl, lastI_snoc]
    rw [hlast, atV_begin e, atV_end e] at C
    rw [← hL] at C
    have id : 2 * (qx * qy - px * py) - (qx - px) * (py + qy) = (qy - py) * (px + qx) := by
      have c1 := Int.mul_comm qy px
      have c2 := Int.mul_comm qy qx
      have c3 := Int.mul_comm py px
      have c4 := Int.mul_comm py qx
      simp only [Int.sub_mul, Int.mul_add]
      omega
    refine ⟨?_, fun hc => ?_⟩
    · have : trap px py L - (qy - py) * (px + qx) = -(trU (atV py qy px qx) px l - (qx - px) * (py + qy)) := by omega
      rw [this]
      have : ∀ z : Int, sz (-z) = sz z := by
        intro z; unfold sz; repeat' split
        all_goals omega
      rw [this]; exact T1
    · have := T2 (by rcases hc with hc | hc | hc; exact absurd hc e; exact .inl hc; exact .inr hc)
      omega
/-- Always the same way. -/
def MonS (s : Int) (X : Int → Int) : Int → List Int → Prop
  | _, [] => True
  | u, v :: r => 0 ≤ s * (X v - X u) ∧ MonS s X v r
theorem row_near (X : Int → Int) (s : Int) (hs : s = 1 ∨ s = -1) : ∀ (l : List Int) (y : Int), MonS s X y l → (∀ v ∈ y :: l, -16384 ≤ X v ∧ X v ≤ 16384) → ∀ L, L = cutF (X y) y (l.map fun v => (X v, v)) → sz (trap (X y) y L - trU X y l) ≤ s * (X (lastI y l) - X y) := by
  intro l
  induction l with
  | nil => intro y _ _ L hL; subst hL; simp [cutF, trap, trU, lastI, sz]
  | cons v r ih =>
    intro y h hx L hL
    rw [List.map_cons, show cutF (X y) y ((X v, v) :: r.map fun v => (X v, v)) = colsV (X y) y (X v) v ++ (X v, v) :: cutF (X v) v (r.map fun v => (X v, v)) from rfl] at hL
    rw [show colsV (X y) y (X v) v ++ (X v, v) :: cutF (X v) v (r.map fun v => (X v, v)) = (colsV (X y) y (X v) v ++ [(X v, v)]) ++ cutF (X v) v (r.map fun v => (X v, v)) by simp] at hL
    generalize hc : colsV (X y) y (X v) v ++ [(X v, v)] = c at hL
    generalize hd : cutF (X v) v (r.map fun v => (X v, v)) = d at hL
    subst hL
    have h1 := (col_near (hx y (by simp)) (hx v (by simp)) hc.symm).1
    have h2 := ih v h.2 (fun u hu => hx u (List.mem_cons_of_mem _ hu)) d hd.symm
    rw [trap_append]
    have e : lastS (X y) y c = (X v, v) := by rw [← hc, lastS_snoc]
    rw [e]
    simp only [trU, lastI]
    have h3 := h.1
    have h4 : sz (X v - X y) = s * (X v - X y) := by
      rcases hs with rfl | rfl <;> unfold sz <;> split <;> omega
    have h5 := sz_add (trap (X y) y c - (v - y) * (X y + X v)) (trap (X v) v d - trU X v r)
    have h6 : trap (X y) y c - (v - y) * (X y + X v) + (trap (X v) v d - trU X v r) = trap (X y) y c + trap (X v) v d - ((v - y) * (X y + X v) + trU X v r) := by omega
    rw [h6] at h5
    have h7 : s * (X (lastI v r) - X y) = s * (X (lastI v r) - X v) + s * (X v - X y) := by rw [← Int.mul_add, show X (lastI v r) - X v + (X v - X y) = X (lastI v r) - X y by omega]
    omega
theorem row_exact (X : Int → Int) : ∀ (l : List Int) (y : Int), (∀ u v, X u = X v ∨ sz (v - u) = sz (X v - X u)) → (∀ v ∈ y :: l, -16384 ≤ X v ∧ X v ≤ 16384) → ∀ L, L = cutF (X y) y (l.map fun v => (X v, v)) → trap (X y) y L = trU X y l := by
  intro l
  induction l with
  | nil => intro y _ _ L hL; subst hL; rfl
  | cons v r ih =>
    intro y h hx L hL
    rw [List.map_cons, show cutF (X y) y ((X v, v) :: r.map fun v => (X v, v)) = colsV (X y) y (X v) v ++ (X v, v) :: cutF (X v) v (r.map fun v => (X v, v)) from rfl] at hL
    rw [show colsV (X y) y (X v) v ++ (X v, v) :: cutF (X v) v (r.map fun v => (X v, v)) = (colsV (X y) y (X v) v ++ [(X v, v)]) ++ cutF (X v) v (r.map fun v => (X v, v)) by simp] at hL
    generalize hc : colsV (X y) y (X v) v ++ [(X v, v)] = c at hL
    generalize hd : cutF (X v) v (r.map fun v => (X v, v)) = d at hL
    subst hL
    have h0 : X y = X v ∨ y = v ∨ sz (v - y) = sz (X v - X y) := by
      rcases h y v with h0 | h0
      · exact Or.inl h0
      · exact Or.inr (Or.inr h0)
    have h9 := col_near (hx y (by simp)) (hx v (by simp)) hc.symm
    have h1 := h9.2 h0
    have h2 := ih v h (fun u hu => hx u (List.mem_cons_of_mem _ hu)) d hd.symm
    rw [trap_append]
    have e : lastS (X y) y c = (X v, v) := by rw [← hc, lastS_snoc]
    rw [e]
    simp only [trU]
    rw [h1, h2]
theorem diag {a b p q : Int} (hne : p ≠ q) (h : sz (b - a) = sz (q - p)) : ∃ k : Int, (k = 1 ∨ k = -1) ∧ ∀ v, atV a b p q v = a + k * (v - p) := by
  have up : ∀ {a b p q k : Int}, p < q → b - a = k * (q - p) → ∀ v, atV a b p q v = a + k * (v - p) := by
    intro a b p q k hlt hk v
    rw [atV_eq (by omega), if_neg (by omega), hk]
    have := hu_add (k * (v - p)) 0 (q - p) (by omega)
    rw [Int.add_zero] at this
    rw [show k * (q - p) * (v - p) = k * (v - p) * (q - p) by rw [Int.mul_assoc, Int.mul_comm (q - p), Int.mul_assoc], this]
    have h0 : hu 0 (q - p) = 0 := hu_of 0 _ 0 (by omega) (by omega) (by omega)
    omega
  have hk : b - a = q - p ∨ b - a = -(q - p) := by unfold sz at h; split at h <;> split at h <;> omega
  rcases Int.lt_or_le p q with c | c
  · rcases hk with hk | hk
    · exact ⟨1, .inl rfl, up c (by omega)⟩
    · exact ⟨-1, .inr rfl, up c (by omega)⟩
  · rcases hk with hk | hk
    · refine ⟨1, .inl rfl, fun v => ?_⟩
      rw [atV_symm hne, up (k := 1) (show q < p by omega) (by omega)]; omega
    · refine ⟨-1, .inr rfl, fun v => ?_⟩
      rw [atV_symm hne, up (k := -1) (show q < p by omega) (by omega)]; omega
def offW (ax ay bx b2 : Int) : Int := if sz (bx - ax) ≠ 0 ∧ sz (b2 - ay) ≠ 0 ∧ sz (bx - ax) ≠ sz (b2 - ay) then sz (bx - ax) + sz (b2 - ay) else 0
theorem monU {X : Int → Int} {s : Int} (hX : ∀ n m, n ≤ m → 0 ≤ s * (X m - X n)) : ∀ (l : List Int) (u : Int), StepsU u l → MonS s X u l := by
  intro l
  induction l with
  | nil => intro u _; trivial
  | cons v r ih => intro u h; exact ⟨hX u v (by have := h.1; omega), ih v h.2.2.2⟩
theorem monD {X : Int → Int} {s : Int} (hX : ∀ n m, n ≤ m → 0 ≤ s * (X n - X m)) : ∀ (l : List Int) (u : Int), StepsD u l → MonS s X u l := by
  intro l
  induction l with
  | nil => intro u _; trivial
  | cons v r ih => intro u h; exact ⟨hX v u (by have := h.1; omega), ih v h.2.2.2⟩
/-- A cut chord against the chord. -/
theorem chord_whole {ax ay bx b2 : Int} (ha : inB ax ay = true) (hb : inB bx b2 = true) {L : List (Int × Int)} (hL : L = cutF ax ay (rowsV ax ay bx b2 ++ [(bx, b2)])) : sz (trap ax ay L - (b2 - ay) * (ax + bx)) ≤ offW ax ay bx b2 := by
  have a := inB_yes ha
  have b := inB_yes hb
  have s0 : sz 0 = 0 := rfl
  by_cases hne : ay = b2
  · subst hne
    have e : rowsV ax ay bx ay = [] := by unfold rowsV linesV; rw [upR_none _ (Int.le_refl _), dnR_none _ (Int.le_refl _)]; rfl
    rw [e, List.nil_append, show cutF ax ay [(bx, ay)] = colsV ax ay bx ay ++ [(bx, ay)] from rfl] at hL
    have h := (col_near a.1 b.1 hL).2 (.inr (.inl rfl))
    rw [h, Int.sub_self, s0]
    unfold offW
    split
    · rename_i c; rw [Int.sub_self, s0] at c; omega
    · omega
  · have rng : ∀ l, l = linesV ay b2 ++ [b2] → ∀ v ∈ ay :: l, -16384 ≤ atV ax bx ay b2 v ∧ atV ax bx ay b2 v ≤ 16384 := by
      intro l hl v hv
      rw [List.mem_cons, hl, List.mem_append, List.mem_singleton] at hv
      apply atV_rng _ (by omega) (by omega)
      rcases hv with hv | hv | hv
      · omega
      · have := linesV_mem hv; omega
      · omega
    have glue : rowsV ax ay bx b2 ++ [(bx, b2)] = (linesV ay b2 ++ [b2]).map fun v => (atV ax bx ay b2 v, v) := by
      rw [List.map_append, List.map_cons, List.map_nil, atV_end hne]; rfl
    rw [glue] at hL
    generalize hl : linesV ay b2 ++ [b2] = l at hL
    obtain ⟨T1, T2⟩ := tr_near (a := ax) (b := bx) a.2 b.2 hne hl.symm
    have hlast : lastI ay l = b2 := by rw [← hl, lastI_snoc]
    have b0 := atV_begin (a := ax) (b := bx) hne
    have hLs : L = cutF (atV ax bx ay b2 ay) ay (l.map fun v => (atV ax bx ay b2 v, v)) := by rw [b0]; exact hL
    unfold offW
    by_cases c : sz (bx - ax) ≠ 0 ∧ sz (b2 - ay) ≠ 0 ∧ sz (bx - ax) ≠ sz (b2 - ay)
    · rw [if_pos c]
      have hm : ∃ s : Int, (s = 1 ∨ s = -1) ∧ MonS s (atV ax bx ay b2) ay l ∧ s * (bx - ax) = sz (bx - ax) := by
        rcases Int.lt_or_le ay b2 with d | d
        · have st := steps_up d a.2.1 b.2.2 hl.symm
          rcases Int.le_total ax bx with f | f
          · exact ⟨1, .inl rfl, monU (fun n m h => by have := atV_mono (a := ax) (b := bx) d f h; omega) l ay st, by rw [sz_pos (by omega)]; omega⟩
          · exact ⟨-1, .inr rfl, monU (fun n m h => by have := atV_anti (a := ax) (b := bx) d f h; omega) l ay st, by rw [sz_neg (by omega)]; omega⟩
        · have d : b2 < ay := by omega
          have st := steps_dn d a.2.2 b.2.1 hl.symm
          have sy : atV ax bx ay b2 = atV bx ax b2 ay := by funext n; exact atV_symm hne
          rw [sy]
          rcases Int.le_total ax bx with f | f
          · exact ⟨1, .inl rfl, monD (fun n m h => by have := atV_anti (a := bx) (b := ax) d f h; omega) l ay st, by rw [sz_pos (by omega)]; omega⟩
          · exact ⟨-1, .inr rfl, monD (fun n m h => by have := atV_mono (a := bx) (b := ax) d f h; omega) l ay st, by rw [sz_neg (by omega)]; omega⟩
      obtain ⟨s, hs, hmon, hsz⟩ := hm
      have R := row_near (atV ax bx ay b2) s hs l ay hmon (rng l hl.symm) L hLs
      rw [hlast, b0, atV_end hne, hsz] at R
      have h5 := sz_add (trap ax ay L - trU (atV ax bx ay b2) ay l) (trU (atV ax bx ay b2) ay l - (b2 - ay) * (ax + bx))
      rw [show trap ax ay L - trU (atV ax bx ay b2) ay l + (trU (atV ax bx ay b2) ay l - (b2 - ay) * (ax + bx)) = trap ax ay L - (b2 - ay) * (ax + bx) by omega] at h5
      omega
    · rw [if_neg c]
      have c2 : ax = bx ∨ sz (bx - ax) = sz (b2 - ay) := by
        have y0 : sz (b2 - ay) ≠ 0 := by unfold sz; split <;> omega
        by_cases x0 : ax = bx
        · exact .inl x0
        · have x1 : sz (bx - ax) ≠ 0 := by unfold sz; split <;> omega
          right
          by_cases z : sz (bx - ax) = sz (b2 - ay)
          · exact z
          · exact absurd ⟨x1, y0, z⟩ c
      have hX : ∀ u v, atV ax bx ay b2 u = atV ax bx ay b2 v ∨ sz (v - u) = sz (atV ax bx ay b2 v - atV ax bx ay b2 u) := by
        intro u v
        rcases c2 with c2 | c2
        · left; rw [c2, atV_same hne, atV_same hne]
        · right
          obtain ⟨k, hk, hv⟩ := diag hne c2
          rw [hv, hv]
          rcases hk with rfl | rfl <;> unfold sz <;> split <;> split <;> omega
      have R := row_exact (atV ax bx ay b2) l ay hX (rng l hl.symm) L hLs
      rw [b0] at R
      rw [R, T2 c2, Int.sub_self, s0]
      exact Int.le_refl _
end Num
end Go.Proofs.Ytkhcjkmifddlbab

/- WhlX -/
namespace Go.Proofs.Ytkhcjkmifddlbab
namespace Num

theorem sumZ_split (f : Nat → Int) (m : Nat) : ∀ n, sumZ f (m + n) = sumZ f m + sumZ (fun k => f (m + k)) n := by
  intro n
  induction n with
  | zero => simp [sumZ]
  | succ n ih => rw [← Nat.add_assoc]; simp only [sumZ, ih]; omega
theorem sumZ_grid (f : Nat → Nat → Int) (W : Nat) : ∀ H, sumZ (fun k => f (k % W) (k / W)) (W * H) = sumZ (fun j => sumZ (fun i => f i j) W) H := by
  intro H
  induction H with
  | zero => simp [sumZ]
  | succ H ih =>
    rw [Nat.mul_succ, sumZ_split, ih]
    simp only [sumZ]
    congr 1
    apply sumZ_congr
    intro k hk
    rw [Nat.mul_add_mod, Nat.mod_eq_of_lt hk, Nat.mul_add_div (by omega), Nat.div_eq_of_lt hk, Nat.add_zero]
/-- All pixels of a window. -/
def winS (W H : Nat) (A : Nat → Nat → Int) : Int := sumZ (fun k => A (k % W) (k / W)) (W * H)
theorem winS_add (W H : Nat) (A B : Nat → Nat → Int) : winS W H (fun i j => A i j + B i j) = winS W H A + winS W H B := by
  unfold winS; rw [← sumZ_add]
theorem winS_congr {W H : Nat} {A B : Nat → Nat → Int} (h : ∀ i j, A i j = B i j) : winS W H A = winS W H B := by
  unfold winS; exact sumZ_congr _ (fun k _ => h _ _)
theorem winS_zero (W H : Nat) : winS W H (fun _ _ => 0) = 0 := by
  unfold winS; rw [sumZ_const, Int.mul_zero]
theorem sumZ_zero (n : Nat) : sumZ (fun _ => 0) n = 0 := by rw [sumZ_const, Int.mul_zero]
theorem winS_sum (W H : Nat) (A : Nat → Nat → Nat → Int) : ∀ n, winS W H (fun i j => sumZ (fun k => A k i j) n) = sumZ (fun k => winS W H (A k)) n := by
  intro n
  induction n with
  | zero => exact winS_zero W H
  | succ n ih => simp only [sumZ]; rw [winS_add, ih]
theorem sum_cl {x : Int} (hx : 0 ≤ x) : ∀ n : Nat, sumZ (fun i => cl (64 * (i : Int) + 64 - x)) n = if 64 * (n : Int) - x < 0 then 0 else 64 * (n : Int) - x := by
  intro n
  induction n with
  | zero => simp only [sumZ]; split <;> omega
  | succ n ih =>
    simp only [sumZ, ih]
    unfold cl
    repeat' split
    all_goals omega
theorem sumZ_single {z : Int} {r : Nat} : ∀ n : Nat, r < n → sumZ (fun j => if j = r then z else 0) n = z := by
  have none : ∀ n : Nat, n ≤ r → sumZ (fun j => if j = r then z else 0) n = 0 := by
    intro n
    induction n with
    | zero => intro _; rfl
    | succ n ih => intro h; simp only [sumZ]; rw [ih (by omega), if_neg (by omega)]; rfl
  intro n
  induction n with
  | zero => intro h; omega
  | succ n ih =>
    intro h
    simp only [sumZ]
    by_cases e : n = r
    · rw [none n (by omega), if_pos e]; omega
    · rw [ih (by omega), if_neg e]; omega
theorem sumZ_mulr (f : Nat → Int) (t : Int) (n : Nat) : sumZ (fun k => t * f k) n = t * sumZ f n := sumZ_mul t f n
theorem piece_whole {W H : Nat} {x0 y0 x1 y1 : Int} (hy : noL y0 y1) (h0 : 0 ≤ x0 ∧ x0 ≤ 64 * W) (h1 : 0 ≤ x1 ∧ x1 ≤ 64 * W) (h2 : 0 ≤ y0 ∧ y0 ≤ 64 * H) (h3 : 0 ≤ y1 ∧ y1 ≤ 64 * H) :
    winS W H (fun i j => if inRow j y0 y1 = true then pieceA i x0 y0 x1 y1 else 0) = (y1 - y0) * (128 * W - x0 - x1) := by
  by_cases e : y0 = y1
  · subst e
    rw [winS_congr (B := fun _ _ => 0) (fun i j => by unfold pieceA; rw [Int.sub_self, Int.zero_mul]; split <;> rfl), winS_zero, Int.sub_self, Int.zero_mul]
  · obtain ⟨r, r1, r2⟩ := noL_row hy
    obtain ⟨rn, hrn⟩ : ∃ rn : Nat, r = rn := ⟨r.toNat, by omega⟩
    have key : ∀ j : Nat, inRow j y0 y1 = true ↔ j = rn := by
      intro j
      unfold inRow
      simp
      omega
    unfold winS
    rw [sumZ_grid (fun i j => if inRow j y0 y1 = true then pieceA i x0 y0 x1 y1 else 0) W H]
    rw [sumZ_congr (g := fun j => if j = rn then sumZ (fun i => pieceA i x0 y0 x1 y1) W else 0) H (fun j _ => by
      by_cases c : j = rn
      · rw [if_pos c]; exact sumZ_congr _ (fun i _ => by rw [if_pos ((key j).2 c)])
      · rw [if_neg c]
        exact (sumZ_congr (g := fun _ => 0) _ (fun i _ => by rw [if_neg (fun d => c ((key j).1 d))])).trans (sumZ_zero W))]
    rw [sumZ_single H (by omega)]
    unfold pieceA
    rw [sumZ_mul, sumZ_add, sum_cl h0.1, sum_cl h1.1, if_neg (by omega), if_neg (by omega)]
    congr 1
    omega
/-- In the window. -/
def BoxP (W H : Nat) (t : Int × Int) : Prop := (0 ≤ t.1 ∧ t.1 ≤ 64 * W) ∧ 0 ≤ t.2 ∧ t.2 ≤ 64 * H
theorem list_whole {W H : Nat} : ∀ (l : List (Int × Int)) (x y : Int), PcOk x y l → BoxP W H (x, y) → (∀ t ∈ l, BoxP W H t) → winS W H (fun i j => sumP i j x y l) = 128 * W * ((lastS x y l).2 - y) - trap x y l := by
  intro l
  induction l with
  | nil => intro x y _ _ _; simp only [sumP, lastS, trap, Int.sub_self, Int.mul_zero]; exact winS_zero W H
  | cons t r ih =>
    intro x y h hb hl
    have ht := hl t (by simp)
    have I := ih t.1 t.2 h.2.2 ht (fun u hu => hl u (List.mem_cons_of_mem _ hu))
    simp only [sumP, lastS, trap]
    have Q := piece_whole (x0 := x) (y0 := y) h.2.1 hb.1 ht.1 hb.2 ht.2
    rw [winS_add W H (fun i j => if inRow j y t.2 = true then pieceA i x y t.1 t.2 else 0) (fun i j => sumP i j t.1 t.2 r), I, Q]
    have e1 : (t.2 - y) * (128 * (W : Int) - x - t.1) = 128 * (W : Int) * (t.2 - y) - (t.2 - y) * (x + t.1) := by
      rw [Int.mul_comm (128 * (W : Int)), ← Int.mul_sub]; congr 1; omega
    have e2 : 128 * (W : Int) * ((lastS t.1 t.2 r).2 - y) = 128 * (W : Int) * ((lastS t.1 t.2 r).2 - t.2) + 128 * (W : Int) * (t.2 - y) := by
      rw [← Int.mul_add]; congr 1; omega
    omega
theorem cols_box {W H : Nat} {ax ay bx b2 : Int} (ha : BoxP W H (ax, ay)) (hb : BoxP W H (bx, b2)) : ∀ t ∈ colsV ax ay bx b2, BoxP W H t := by
  intro t ht
  unfold colsV at ht
  rw [List.mem_map] at ht
  obtain ⟨x, hx, rfl⟩ := ht
  have h := linesV_mem hx
  have a1 := ha.1
  have b1 := hb.1
  simp only at a1 b1
  exact ⟨⟨by show 0 ≤ x; omega, by show x ≤ _; omega⟩, atV_rng (by omega) ha.2 hb.2⟩
theorem rows_box {W H : Nat} {ax ay bx b2 : Int} (ha : BoxP W H (ax, ay)) (hb : BoxP W H (bx, b2)) : ∀ t ∈ rowsV ax ay bx b2, BoxP W H t := by
  intro t ht
  unfold rowsV at ht
  rw [List.mem_map] at ht
  obtain ⟨y, hy, rfl⟩ := ht
  have h := linesV_mem hy
  have a1 := ha.2
  have b1 := hb.2
  simp only at a1 b1
  exact ⟨atV_rng (by omega) ha.1 hb.1, by show 0 ≤ y; omega, by show y ≤ _; omega⟩
theorem cutF_box {W H : Nat} : ∀ (r : List (Int × Int)) (x y : Int), BoxP W H (x, y) → (∀ t ∈ r, BoxP W H t) → ∀ t ∈ cutF x y r, BoxP W H t := by
  intro r
  induction r with
  | nil => intro x y _ _ t ht; cases ht
  | cons u r ih =>
    intro x y h hr t ht
    have hu := hr u (by simp)
    simp only [cutF, List.mem_append, List.mem_cons] at ht
    rcases ht with ht | ht | ht
    · exact cols_box h hu t ht
    · rw [ht]; exact hu
    · exact ih u.1 u.2 hu (fun v hv => hr v (by simp [hv])) t ht
theorem cutF_last (r : List (Int × Int)) (t : Int × Int) (x y : Int) : lastS x y (cutF x y (r ++ [t])) = t := by
  rw [cutF_snoc, lastS_snoc]
/-- One chord, all pixels: up to how much its cuts are off. -/
theorem chord_window {W H : Nat} {ax ay bx b2 : Int} (hW : W ≤ 64) (hH : H ≤ 64) (ha : BoxP W H (ax, ay)) (hb : BoxP W H (bx, b2)) :
    sz (winS W H (fun i j => chordV ax ay bx b2 i j) + (ax + bx) * (b2 - ay) - 128 * W * (b2 - ay)) ≤ offW ax ay bx b2 := by
  have a1 := ha.1
  have a2 := ha.2
  have b1 := hb.1
  have b2' := hb.2
  simp only at a1 a2 b1 b2'
  have ia : inB ax ay = true := inB_of (by omega) (by omega)
  have ib : inB bx b2 = true := inB_of (by omega) (by omega)
  generalize hL : cutF ax ay (rowsV ax ay bx b2 ++ [(bx, b2)]) = L
  have C := chord_whole ia ib hL.symm
  have P := pcOk_cut ia ib hL.symm
  have B : ∀ t ∈ L, BoxP W H t := by
    intro t ht
    rw [← hL] at ht
    refine cutF_box _ _ _ ha (fun u hu => ?_) t ht
    rw [List.mem_append, List.mem_singleton] at hu
    rcases hu with hu | hu
    · exact rows_box ha hb u hu
    · rw [hu]; exact hb
  have S := list_whole L ax ay P ha B
  have e : lastS ax ay L = (bx, b2) := by rw [← hL, cutF_last]
  rw [e] at S
  rw [winS_congr (B := fun i j => sumP i j ax ay L) (fun i j => by rw [← hL, chord_sum _ _ ia ib]), S]
  have c := Int.mul_comm (b2 - ay) (ax + bx)
  have : 128 * (W : Int) * (b2 - ay) - trap ax ay L + (ax + bx) * (b2 - ay) - 128 * (W : Int) * (b2 - ay) = -(trap ax ay L - (b2 - ay) * (ax + bx)) := by omega
  simp only
  rw [this]
  have sn : ∀ z : Int, sz (-z) = sz z := by
    intro z; unfold sz; repeat' split
    all_goals omega
  rw [sn]; exact C
theorem sumZ_tele (g : Nat → Int) : ∀ n, sumZ (fun k => g (k + 1) - g k) n = g n - g 0 := by
  intro n
  induction n with
  | zero => simp [sumZ]
  | succ n ih => simp only [sumZ, ih]; omega
theorem ring_tele (g : Nat → Int) (n : Nat) : sumZ (fun k => g (nxR n k) - g k) n = 0 := by
  cases n with
  | zero => rfl
  | succ m =>
    simp only [sumZ]
    rw [sumZ_congr (g := fun k => g (k + 1) - g k) m (fun k hk => by unfold nxR; rw [if_pos (by omega)]), sumZ_tele]
    unfold nxR
    rw [if_neg (by omega)]
    omega
theorem sumZ_sz {f g : Nat → Int} : ∀ n : Nat, (∀ k, k < n → sz (f k) ≤ g k) → sz (sumZ f n) ≤ sumZ g n := by
  intro n
  induction n with
  | zero => intro _; exact Int.le_refl _
  | succ n ih =>
    intro h
    have h1 := ih (fun k hk => h k (by omega))
    have h2 := h n (by omega)
    have h3 := sz_add (sumZ f n) (f n)
    simp only [sumZ]
    omega
def trapV (ax ay bx b2 : Int) : Int := (ax + bx) * (b2 - ay)
theorem ring_window {W H : Nat} {l : List (Int × Int)} (hW : W ≤ 64) (hH : H ≤ 64) (hl : ∀ t ∈ l, BoxP W H t) :
    sz (winS W H (fun i j => ringF (chA i j) l) + ringF trapV l) ≤ ringF offW l := by
  have hat : ∀ k, k < l.length → BoxP W H (ats l k) := fun k hk => by rw [ats_at hk]; exact hl _ (List.getElem_mem hk)
  have key := sumZ_sz (f := fun k => winS W H (fun i j => chF (chA i j) l k) + chF trapV l k - 128 * W * ((ats l (nxR l.length k)).2 - (ats l k).2)) (g := chF offW l) l.length (fun k hk =>
    chord_window hW hH (hat k hk) (hat _ (nxR_lt hk)))
  have e : sumZ (fun k => winS W H (fun i j => chF (chA i j) l k) + chF trapV l k - 128 * W * ((ats l (nxR l.length k)).2 - (ats l k).2)) l.length = winS W H (fun i j => ringF (chA i j) l) + ringF trapV l := by
    have e1 : ∀ (p q r : Nat → Int) n, sumZ (fun k => p k + q k - r k) n = sumZ p n + sumZ q n - sumZ r n := by
      intro p q r n
      induction n with
      | zero => simp [sumZ]
      | succ n ih => simp only [sumZ, ih]; omega
    rw [e1, sumZ_mul, ring_tele (fun k => (ats l k).2), Int.mul_zero, Int.sub_zero]
    unfold ringF
    rw [winS_sum W H (fun k i j => chF (chA i j) l k)]
  rw [e] at key
  exact key
/-- All rings, all pixels. -/
theorem whole_out {W H : Nat} {L : Nat → List (Int × Int)} {N : Nat} (hW : W ≤ 64) (hH : H ≤ 64) (hl : ∀ r, r < N → ∀ t ∈ L r, BoxP W H t) :
    sz (winS W H (fun i j => areaV L N i j) + outF trapV L N) ≤ outF offW L N := by
  unfold areaV outF
  rw [winS_sum W H (fun r i j => ringF (chA i j) (L r)), ← sumZ_add]
  exact sumZ_sz _ (fun r hr => ring_window hW hH (hl r hr))
end Num
end Go.Proofs.Ytkhcjkmifddlbab

/- FlV -/
namespace Go.Proofs.Ytkhcjkmifddlbab
namespace Num

/-- Chord k of a ring. -/
def chM (i j : Int) (l : List (Int × Int)) (k : Nat) : Bool := meetsV (ats l k).1 (ats l k).2 (ats l (nxR l.length k)).1 (ats l (nxR l.length k)).2 i j
def chX (i j : Int) (ax ay bx b2 : Int) : Int := crossV ax ay bx b2 i j
theorem cross_bd (ax ay bx b2 i j : Int) : -1 ≤ crossV ax ay bx b2 i j ∧ crossV ax ay bx b2 i j ≤ 1 := by
  unfold crossV; repeat' split
  all_goals omega
theorem ring_flatF {l : List (Int × Int)} {i j : Int} (h : ∀ k, k < l.length → chM i j l k = false) : ringF (chA i j) l = 8192 * ringF (chX i j) l := by
  have e : ∀ n, n ≤ l.length → sumZ (chF (chA i j) l) n = 8192 * sumZ (chF (chX i j) l) n + sumZ (fun k => spotG i j (ats l (nxR l.length k)).1 (ats l (nxR l.length k)).2 - spotG i j (ats l k).1 (ats l k).2) n := by
    intro n
    induction n with
    | zero => intro _; simp [sumZ]
    | succ n ih =>
      intro hn
      have h1 := ih (by omega)
      have h2 := flat_chord (h n (by omega))
      simp only [sumZ]
      rw [h1]
      have e1 : chF (chA i j) l n = chordV (ats l n).1 (ats l n).2 (ats l (nxR l.length n)).1 (ats l (nxR l.length n)).2 i j := rfl
      have e2 : chF (chX i j) l n = crossV (ats l n).1 (ats l n).2 (ats l (nxR l.length n)).1 (ats l (nxR l.length n)).2 i j := rfl
      rw [e1, e2, h2]
      omega
  have t := ring_tele (fun k => spotG i j (ats l k).1 (ats l k).2) l.length
  unfold ringF
  rw [e _ (Nat.le_refl _), t]
  omega
theorem flat_out {L : Nat → List (Int × Int)} {N : Nat} {i j : Int} (h : ∀ r, r < N → ∀ k, k < (L r).length → chM i j (L r) k = false) : areaV L N i j = 8192 * outF (chX i j) L N := by
  unfold areaV outF
  have e : ∀ n, n ≤ N → sumZ (fun r => ringF (chA i j) (L r)) n = 8192 * sumZ (fun r => ringF (chX i j) (L r)) n := by
    intro n
    induction n with
    | zero => intro _; simp [sumZ]
    | succ n ih =>
      intro hn
      simp only [sumZ]
      rw [ih (by omega), ring_flatF (h n (by omega))]
      omega
  exact e N (Nat.le_refl _)
end Num
end Go.Proofs.Ytkhcjkmifddlbab

/- FlB -/
namespace Go.Proofs.Ytkhcjkmifddlbab
open Go.RowKit Go.Deep

end Go.Proofs.Ytkhcjkmifddlbab

/- FlC -/
namespace Go.Proofs.Ytkhcjkmifddlbab
open Go.RowKit Go.Deep

/-- The tame outline of an argument, and its trace. -/
def tameL (n : Nat → Nat) (X Y K : Nat → Nat → Int) (N : Nat) : List (List (Int × Int × Int)) := tmO openF n X Y K N
def tameM (a b c d x y : Int) : Num.Mp := ⟨nearV a 2047, nearV b 2047, nearV c 2047, nearV d 2047, nearV x 4095, nearV y 4095⟩
def ptLen (T : List (List (Int × Int × Int))) (j : Nat) : Nat := (nth T j).length
def ptXX (T : List (List (Int × Int × Int))) (j : Nat) : Nat → Int := ptX (nth T j)
def ptYY (T : List (List (Int × Int × Int))) (j : Nat) : Nat → Int := ptY (nth T j)
def ptKK (T : List (List (Int × Int × Int))) (j : Nat) : Nat → Int := kd (nth T j)
theorem nth_mem {T : List (List (Int × Int × Int))} {j : Nat} (h : j < T.length) : nth T j ∈ T := by unfold nth; simp [h]
theorem openF_ok : openF.Ok := by unfold Fd.Ok openF; simp
/-- What a tame outline is like. -/
theorem tameL_facts (n : Nat → Nat) (X Y K : Nat → Nat → Int) (N : Nat) {j : Nat} (hj : j < (tameL n X Y K N).length) : 2 ≤ (nth (tameL n X Y K N) j).length ∧ (nth (tameL n X Y K N) j).length ≤ 48 ∧ KOk (nth (tameL n X Y K N) j) ∧ PtIn (-2047) 2047 (-2047) 2047 (nth (tameL n X Y K N) j) := by
  obtain ⟨c, hc, e⟩ := tmO_mem openF n X Y K N _ (nth_mem hj)
  have h := tmR_facts openF (by simp [openF]) (by simp [openF]) (X c) (Y c) (K c) hc
  rw [← e] at h
  exact h
theorem tame_trace (n : Nat → Nat) (X Y K : Nat → Nat → Int) (N : Nat) (a b c d x y : Int) : traceE (tameL n X Y K N).length (ptLen (tameL n X Y K N)) (ptXX (tameL n X Y K N)) (ptYY (tameL n X Y K N)) (ptKK (tameL n X Y K N)) (tameM a b c d x y) = 0 := by
  have hx := nearV_rng x 4095 (by omega)
  have hy := nearV_rng y 4095 (by omega)
  obtain ⟨hf, hm⟩ := tame_map (x := nearV x 4095) (y := nearV y 4095) (nearV_rng a 2047 (by omega)) (nearV_rng b 2047 (by omega)) (nearV_rng c 2047 (by omega)) (nearV_rng d 2047 (by omega)) (by omega) (by omega)
  exact tame_ok (B := 2047) (tmO_len _ _ _ _ _ _) (fun j hj => tameL_facts n X Y K N hj) (by omega) hf hm
theorem tame_pos (n : Nat → Nat) (X Y K : Nat → Nat → Int) (N : Nat) (a b c d x y : Int) {j : Nat} (hj : j < (tameL n X Y K N).length) : 0 < (traceL (ptLen (tameL n X Y K N)) (ptXX (tameL n X Y K N)) (ptYY (tameL n X Y K N)) (ptKK (tameL n X Y K N)) (tameM a b c d x y) j).length :=
  trace_pos (tame_trace n X Y K N a b c d x y) (fun _ hj => ⟨(tameL_facts n X Y K N hj).1, kok_bad (tameL_facts n X Y K N hj).2.2.1⟩) hj
theorem outF_one (F : Int → Int → Int → Int → Int) (R : Nat → List (Int × Int)) (r : Nat) : Num.outF F R (r + 1) = Num.outF F R r + Num.ringF F (R r) := rfl
theorem crossF_bd (l : List (Int × Int)) (i j : Int) (k : Nat) : -(k : Int) ≤ Num.sumZ (Num.chF (Num.chX i j) l) k ∧ Num.sumZ (Num.chF (Num.chX i j) l) k ≤ (k : Int) := by
  have h := Num.sumZ_bd (f := Num.chF (Num.chX i j) l) (B := 1) k (fun q _ => Num.cross_bd _ _ _ _ _ _)
  omega
theorem crossO_bd (R : Nat → List (Int × Int)) (i j : Int) {m : Nat} (h : ∀ q, q < m → (R q).length ≤ 44400) (r : Nat) (hr : r ≤ m) : -(44400 * (r : Int)) ≤ Num.outF (Num.chX i j) R r ∧ Num.outF (Num.chX i j) R r ≤ 44400 * (r : Int) :=
  Num.sumZ_bd (f := fun q => Num.ringF (Num.chX i j) (R q)) (B := 44400) r (fun q hq => by
    have h1 := crossF_bd (R q) i j (R q).length
    have h2 := h q (by omega)
    unfold Num.ringF
    omega)
theorem inS_of {R : List (Int × Int)} (h : ∀ p ∈ R, Num.inB p.1 p.2 = true) {k : Nat} (hk : k < R.length) : InS R[k].1 R[k].2 := Num.inB_yes (h _ (List.getElem_mem hk))

end Go.Proofs.Ytkhcjkmifddlbab

/- CvT -/
namespace Go.Proofs.Ytkhcjkmifddlbab
open Go.RowKit Go.Deep

set_option maxHeartbeats 1000000 in
theorem canvasTake_any (bk W H tk : Nat) (tt : TypeId) (A : Nat → Nat → Int) (st : Int) (S : Nat → Prop) (ad : Option Addr) (N cc : Nat) (AA : Nat → Option Addr) (C n : Nat → Nat) (X Y K : Nat → Nat → Int) (a b c d x y : Int) (w : World)
    (hC : Cnv w bk tt W H tk A (781440000000 * tk) S st) (hW : 1 ≤ W ∧ W ≤ 64) (hH : 1 ≤ H ∧ H ≤ 64) (htk : tk ≤ 100) (hN : N ≤ 4294967296) (hn : ∀ i, i < N → n i ≤ 4294967296) (ho : OutAt w ad N AA C n X Y K) :
    Calls Try.prog 32 #[.pointer (some ⟨bk, 0, none⟩), .slice ad N cc, .agg #[.int .i64 a, .int .i64 b, .int .i64 c, .int .i64 d, .int .i64 x, .int .i64 y]] w fun e w' => e = .returned (.int .i64 (layE (traceE N n X Y K ⟨a, b, c, d, x, y⟩) tk)) ∧ Touch S w w' ∧
      (layE (traceE N n X Y K ⟨a, b, c, d, x, y⟩) tk ≠ 0 → Cnv w' bk tt W H tk A (781440000000 * tk) S st) ∧
      (layE (traceE N n X Y K ⟨a, b, c, d, x, y⟩) tk = 0 → ∃ S', Cnv w' bk tt W H (tk + 1) (fun i j => A i j + -1 * Num.areaV (traceL n X Y K ⟨a, b, c, d, x, y⟩) N i j) (781440000000 * ((tk + 1 : Nat) : Int)) S' st ∧ ∀ q, S' q → S q ∨ w.heap.size ≤ q) := by
  have hB0 : Hid (Below w.heap.size w (w.alloc (.cells #[.int .i64 a, .int .i64 b, .int .i64 c, .int .i64 d, .int .i64 x, .int .i64 y] 24))) := (Below.refl _ _).alloc (Nat.le_refl _) _
  have HCall := hide (lay_any bk W H tk tt A st (-1) S ad N cc AA C n X Y K a b c d x y _ (hC.below hB0.out) hW hH htk (.inr rfl) hN hn (ho.below hB0.out))
  clear hC ho hn
  go_enter Try.func32, Try.ntmps32
  go_wp2_with fail
  refine HCall.out.mono ?_
  rintro e w1 ⟨rfl, hT, h1, h2⟩
  have HT : Hid (Touch S w w1) := ((Touch.refl S w).of_below hB0.out).trans' hT (fun q e => .inl e)
  have H1 := hide h1
  have H2 := hide h2
  clear hT h1 h2 HCall
  go_wp2
  go_ret
  refine ⟨rfl, HT.out, H1.out, fun e => ?_⟩
  obtain ⟨S', g1, g2⟩ := H2.out e
  exact ⟨S', g1, fun q hq => by rcases g2 q hq with h | h; exact .inl h; exact .inr (by simp at h; omega)⟩

set_option maxHeartbeats 1000000 in
theorem glyphTake_any (bk W H tk : Nat) (tt : TypeId) (A : Nat → Nat → Int) (st : Int) (S : Nat → Prop) (ad : Option Addr) (N cc : Nat) (AA : Nat → Option Addr) (C n : Nat → Nat) (X Y K : Nat → Nat → Int) (a b c d x y : Int) (w : World)
    (hC : Cnv w bk tt W H tk A (781440000000 * tk) S st) (hW : 1 ≤ W ∧ W ≤ 64) (hH : 1 ≤ H ∧ H ≤ 64) (htk : tk ≤ 100) (hN : N ≤ 4294967296) (hn : ∀ i, i < N → n i ≤ 4294967296) (ho : OutAt w ad N AA C n X Y K) :
    Calls Try.prog 16 #[.pointer (some ⟨bk, 0, none⟩), .slice ad N cc, .agg #[.int .i64 a, .int .i64 b, .int .i64 c, .int .i64 d, .int .i64 x, .int .i64 y]] w fun e w' => e = .returned (.int .i64 (layE (traceE N n X Y K ⟨a, b, c, d, x, y⟩) tk)) ∧ Touch S w w' ∧
      (layE (traceE N n X Y K ⟨a, b, c, d, x, y⟩) tk ≠ 0 → Cnv w' bk tt W H tk A (781440000000 * tk) S st) ∧
      (layE (traceE N n X Y K ⟨a, b, c, d, x, y⟩) tk = 0 → ∃ S', Cnv w' bk tt W H (tk + 1) (fun i j => A i j + -1 * Num.areaV (traceL n X Y K ⟨a, b, c, d, x, y⟩) N i j) (781440000000 * ((tk + 1 : Nat) : Int)) S' st ∧ ∀ q, S' q → S q ∨ w.heap.size ≤ q) := by
  have hB0 : Hid (Below w.heap.size w (w.alloc (.cells #[.int .i64 a, .int .i64 b, .int .i64 c, .int .i64 d, .int .i64 x, .int .i64 y] 24))) := (Below.refl _ _).alloc (Nat.le_refl _) _
  have HCall := hide (canvasTake_any bk W H tk tt A st S ad N cc AA C n X Y K a b c d x y _ (hC.below hB0.out.drew) hW hH htk hN hn (ho.below hB0.out.drew))
  clear hC ho hn
  go_enter Try.func16, Try.ntmps16
  go_wp2_with fail
  go_region_with (go_at_call 32; refine HCall.out.mono ?_; rintro e w1 ⟨rfl, hT, h1, h2⟩)
  all_goals
    have HT : Hid (Touch S w w1) := ((Touch.refl S w).of_below hB0.out.drew).trans' hT (fun q e => .inl e)
    have H1 := hide h1
    have H2 := hide h2
    clear hT h1 h2
    go_wp2
    go_ret
    refine ⟨rfl, HT.out, H1.out, fun e => ?_⟩
    obtain ⟨S', g1, g2⟩ := H2.out e
    exact ⟨S', g1, fun q hq => by rcases g2 q hq with h | h; exact .inl h; exact .inr (by simp at h; omega)⟩

set_option maxHeartbeats 1000000 in
theorem canvasTaken_any (b W H tk : Nat) (tt : TypeId) (A : Nat → Nat → Int) (P st : Int) (S : Nat → Prop) (w : World) (hC : Cnv w b tt W H tk A P S st) :
    Calls Try.prog 33 #[.pointer (some ⟨b, 0, none⟩)] w fun e w' => e = .returned (.int .i64 tk) ∧ w' = w := by
  obtain ⟨c0, c1, c2, c3, hbl⟩ := hC.cells
  clear hC
  go_enter Try.func33, Try.ntmps33
  go_wp2
  go_ret
  exact ⟨rfl, rfl⟩
set_option maxHeartbeats 1000000 in
theorem glyphTaken_any (b W H tk : Nat) (tt : TypeId) (A : Nat → Nat → Int) (P st : Int) (S : Nat → Prop) (w : World) (hC : Cnv w b tt W H tk A P S st) :
    Calls Try.prog 19 #[.pointer (some ⟨b, 0, none⟩)] w fun e w' => e = .returned (.int .i64 tk) ∧ w' = w := by
  have HCall := hide (canvasTaken_any b W H tk tt A P st S w hC)
  clear hC
  go_enter Try.func19, Try.ntmps19
  go_wp2_with fail
  refine HCall.out.mono ?_
  rintro e w' ⟨rfl, hw'⟩
  rw [hw']
  clear hw'
  go_wp2
  go_ret
  exact ⟨rfl, rfl⟩
set_option maxHeartbeats 1000000 in
theorem canvasClear_any (b W H tk : Nat) (tt : TypeId) (A : Nat → Nat → Int) (P st : Int) (S : Nat → Prop) (w : World) (hC : Cnv w b tt W H tk A P S st) (hW : 1 ≤ W ∧ W ≤ 64) (hH : 1 ≤ H ∧ H ≤ 64) :
    Calls Try.prog 34 #[.pointer (some ⟨b, 0, none⟩)] w fun e w' => e = .returned (.tuple #[]) ∧ Touch S w w' ∧ ∃ S', Cnv w' b tt W H 0 (fun _ _ => 0) 0 S' st ∧ ∀ q, S' q → S q ∨ w.heap.size ≤ q := by
  have hown := hC.own
  have key : ∀ {w'}, Touch (fun q => q = b) w w' → Touch S w w' := fun h => ⟨h.os, h.tape, h.output, h.size, fun q hq hs => h.block q hq (fun e => hs (by rw [e]; exact hown))⟩
  cases hC with
  | tab g T hR hT hbg hA hB hSb hSg hlt =>
    refine (clear_any b W H tk tt 0 W (some ⟨g, 0, none⟩) none (W * H) (W * H) 0 0 w hR hW hH (.inl ⟨rfl, rfl, rfl, rfl⟩)).mono ?_
    rintro e w' ⟨he, h1, S', h2, h3⟩
    exact ⟨he, key h1, S', h2, fun q hq => by rcases h3 q hq with h | h; exact .inl (by rw [h]; exact hown); exact .inr h⟩
  | rws g V R hR hG hbg hA hM hSb hSg hlt =>
    refine (clear_any b W H tk tt 1 0 none (some ⟨g, 0, none⟩) 0 0 H H w hR hW hH (.inr ⟨rfl, rfl, rfl, rfl, rfl⟩)).mono ?_
    rintro e w' ⟨he, h1, S', h2, h3⟩
    exact ⟨he, key h1, S', h2, fun q hq => by rcases h3 q hq with h | h; exact .inl (by rw [h]; exact hown); exact .inr h⟩
set_option maxHeartbeats 1000000 in
theorem glyphClear_any (b W H tk : Nat) (tt : TypeId) (A : Nat → Nat → Int) (P st : Int) (S : Nat → Prop) (w : World) (hC : Cnv w b tt W H tk A P S st) (hW : 1 ≤ W ∧ W ≤ 64) (hH : 1 ≤ H ∧ H ≤ 64) :
    Calls Try.prog 20 #[.pointer (some ⟨b, 0, none⟩)] w fun e w' => e = .returned (.tuple #[]) ∧ Touch S w w' ∧ ∃ S', Cnv w' b tt W H 0 (fun _ _ => 0) 0 S' st ∧ ∀ q, S' q → S q ∨ w.heap.size ≤ q := by
  have HCall := hide (canvasClear_any b W H tk tt A P st S w hC hW hH)
  have hbl := hC.cells.2.2.2.2
  clear hC
  go_enter Try.func20, Try.ntmps20
  go_wp2_with fail
  refine HCall.out.mono ?_
  rintro e w' ⟨rfl, h1⟩
  have H1 := hide h1
  clear h1
  go_wp2
  go_end0
  exact ⟨rfl, H1.out⟩
end Go.Proofs.Ytkhcjkmifddlbab

/- BoxV -/
namespace Go.Proofs.Ytkhcjkmifddlbab
open Go.RowKit Go.Deep

/-- A rectangle's corners. -/
def bxX (F : Nat → Int) (i : Nat) : Int := if i = 0 ∨ i = 3 then F 0 else F 2
def bxY (F : Nat → Int) (i : Nat) : Int := if i = 0 ∨ i = 1 then F 1 else F 3
def plainM (x y : Int) : Num.Mp := ⟨1024, 0, 0, 1024, x, y⟩
theorem plain_fair {x y : Int} (hx : -8000 ≤ x ∧ x ≤ 8000) (hy : -8000 ≤ y ∧ y ≤ 8000) : Num.fairB (plainM x y).a (plainM x y).b (plainM x y).c (plainM x y).d (plainM x y).x (plainM x y).y = true := by
  have h1 : Num.wi x 16384 = true := by simp [Num.wi]; omega
  have h2 : Num.wi y 16384 = true := by simp [Num.wi]; omega
  simp only [plainM, Num.fairB, h1, h2]
  decide
theorem plain_ok {x y : Int} (hx : -8000 ≤ x ∧ x ≤ 8000) (hy : -8000 ≤ y ∧ y ≤ 8000) : MpOk (2 * 4096) (plainM x y) := by
  intro s t hs ht
  exact place_ok (L := 4096) (D := 8000) hs ht (plain_fair hx hy) (by simp only [plainM]; omega) (by simp only [plainM]; omega) hx hy (by omega)
theorem plain_pl {x y s t : Int} (hx : -8000 ≤ x ∧ x ≤ 8000) (hy : -8000 ≤ y ∧ y ≤ 8000) (hs : -4096 ≤ s ∧ s ≤ 4096) (ht : -4096 ≤ t ∧ t ≤ 4096) : Num.pl (plainM x y) (2 * s) (2 * t) = (s + x, t + y, 0) := by
  rw [plain_ok hx hy (2 * s) (2 * t) (by omega) (by omega)]
  have h1 : Num.hu ((plainM x y).a * (2 * s) + (plainM x y).b * (2 * t)) 2048 = s := Num.hu_of _ _ _ (by omega) (by simp only [plainM]; omega) (by simp only [plainM]; omega)
  have h2 : Num.hu ((plainM x y).c * (2 * s) + (plainM x y).d * (2 * t)) 2048 = t := Num.hu_of _ _ _ (by omega) (by simp only [plainM]; omega) (by simp only [plainM]; omega)
  rw [h1, h2]
  show (x + s, y + t, (0 : Int)) = _
  rw [Int.add_comm x s, Int.add_comm y t]
def FOk (F : Nat → Int) : Prop := ∀ q, -4096 ≤ F q ∧ F q ≤ 4096
theorem bx_rng {F : Nat → Int} (h : FOk F) (i : Nat) : (-4096 ≤ bxX F i ∧ bxX F i ≤ 4096) ∧ -4096 ≤ bxY F i ∧ bxY F i ≤ 4096 := by
  have := h 0; have := h 1; have := h 2; have := h 3
  unfold bxX bxY
  constructor <;> split <;> omega
theorem box_trace {N : Nat} {F : Nat → Nat → Int} {x y : Int} (hN : N ≤ 16) (hF : ∀ k, FOk (F k)) (hx : -8000 ≤ x ∧ x ≤ 8000) (hy : -8000 ≤ y ∧ y ≤ 8000) : traceE N (fun _ => 4) (fun k => bxX (F k)) (fun k => bxY (F k)) (fun _ _ => 0) (plainM x y) = 0 := by
  have hs : ∀ k, Num.sumN (fun _ => 4) k = 4 * k := by
    intro k
    induction k with
    | zero => rfl
    | succ k ih => simp only [Num.sumN, ih]; omega
  refine trace_ok (B := 4096) hN (by rw [hs]; omega) (fun j _ => ⟨by omega, fun i _ => ?_⟩) (fun j _ i _ => bx_rng (hF j) i) (by omega) (plain_fair hx hy) (plain_ok hx hy)
  simp [Num.badB, Num.mayB]
theorem box_ring {F : Nat → Nat → Int} {x y : Int} (k : Nat) (hF : ∀ k, FOk (F k)) (hx : -8000 ≤ x ∧ x ≤ 8000) (hy : -8000 ≤ y ∧ y ≤ 8000) :
    traceL (fun _ => 4) (fun k => bxX (F k)) (fun k => bxY (F k)) (fun _ _ => 0) (plainM x y) k = [(F k 0 + x, F k 1 + y), (F k 2 + x, F k 1 + y), (F k 2 + x, F k 3 + y), (F k 0 + x, F k 3 + y)] := by
  have f0 := hF k 0
  have f1 := hF k 1
  have f2 := hF k 2
  have f3 := hF k 3
  unfold traceL ringL
  simp only
  rw [ring4 (K := fun _ => 0) rfl rfl rfl rfl]
  unfold Num.ringSp
  have ok : ∀ g, SgBd (2 * 4096) g → Num.putOk (plainM x y) g = true := fun g hg => put_ok (plain_ok hx hy) hg
  simp only [List.flatMap_cons, List.flatMap_nil, List.append_nil]
  rw [segSp_line rfl (ok _ (by simp [SgBd, bxX, bxY]; omega)), segSp_line rfl (ok _ (by simp [SgBd, bxX, bxY]; omega)), segSp_line rfl (ok _ (by simp [SgBd, bxX, bxY]; omega)), segSp_line rfl (ok _ (by simp [SgBd, bxX, bxY]; omega))]
  have b := bx_rng (hF k)
  simp only
  rw [plain_pl hx hy (b 0).1 (b 0).2, plain_pl hx hy (b 1).1 (b 1).2, plain_pl hx hy (b 2).1 (b 2).2, plain_pl hx hy (b 3).1 (b 3).2]
  simp [bxX, bxY]
def spanV (k a b : Int) : Int := Num.clp b (64 * k) (64 * k + 64) - Num.clp a (64 * k) (64 * k + 64)
theorem clp_clip {v lo hi : Int} (h : lo ≤ hi) : Num.clp v lo hi = Num.clipV v lo hi := by
  unfold Num.clp Num.clipV Num.gr Num.lsV
  repeat' split
  all_goals omega
def wantV (F : Nat → Nat → Int) (x y i j : Int) (k : Nat) : Int := Num.sumZ (fun k => -(2 * spanV i (F k 0 + x) (F k 2 + x) * spanV j (F k 1 + y) (F k 3 + y))) k
theorem box_area {F : Nat → Nat → Int} {x y : Int} (N : Nat) (i j : Int) (hF : ∀ k, FOk (F k)) (hx : -8000 ≤ x ∧ x ≤ 8000) (hy : -8000 ≤ y ∧ y ≤ 8000) :
    Num.areaV (traceL (fun _ => 4) (fun k => bxX (F k)) (fun k => bxY (F k)) (fun _ _ => 0) (plainM x y)) N i j = wantV F x y i j N := by
  unfold Num.areaV Num.outF wantV
  refine Num.sumZ_congr _ (fun k _ => ?_)
  rw [box_ring k hF hx hy]
  have h := Num.box_sum (F k 0 + x) (F k 1 + y) (F k 2 + x) (F k 3 + y) i j
  unfold spanV
  rw [clp_clip (by omega), clp_clip (by omega), clp_clip (by omega), clp_clip (by omega), ← h]
  simp [Num.ringF, Num.sumZ, Num.chF, Num.ats, Num.nxR, Num.chA]
theorem span_bd (k a b : Int) : -64 ≤ spanV k a b ∧ spanV k a b ≤ 64 := by
  unfold spanV Num.clp
  repeat' split
  all_goals omega
theorem want_bd (F : Nat → Nat → Int) (x y i j : Int) (k : Nat) : -(8192 * (k : Int)) ≤ wantV F x y i j k ∧ wantV F x y i j k ≤ 8192 * (k : Int) := by
  unfold wantV
  refine Num.sumZ_bd (B := 8192) k (fun q _ => ?_)
  have a := span_bd i (F q 0 + x) (F q 2 + x)
  have b := span_bd j (F q 1 + y) (F q 3 + y)
  have := Num.mul_bd (2 * spanV i (F q 0 + x) (F q 2 + x)) (spanV j (F q 1 + y) (F q 3 + y)) 128 64 (by omega) (by omega)
  omega
end Go.Proofs.Ytkhcjkmifddlbab

/- Bx -/
namespace Go.Proofs.Ytkhcjkmifddlbab
open Go.RowKit Go.Deep

set_option maxHeartbeats 1000000 in
theorem contour_any (F : Nat → Int) (w : World) : Calls Try.prog 17 #[.agg #[.int .i64 (F 0), .int .i64 (F 1), .int .i64 (F 2), .int .i64 (F 3)]] w fun e w' => ∃ g, e = .returned (.slice (some ⟨g, 0, none⟩) 4 4) ∧ Below w.heap.size w w' ∧ w.heap.size ≤ g ∧ w'.rowIs g 90 12 (pc (bxX F) (bxY F) (fun _ => 0)) := by
  go_enter Try.func17, Try.ntmps17
  go_wp2
  go_ret
  refine ⟨w.heap.size + 1, rfl, by (repeat (any_goals (first | exact Below.refl _ _ | assumption | refine Below.drew ?_ | refine below_drewN ?_ _ | refine Below.setCell ?_ ?_ _ | refine Below.alloc ?_ ?_ _ | omega | (simp; done) | (simp; omega)))), by omega, ?_⟩
  have h := World.rowIs_alloc (w.alloc (.cells #[.int .i64 (F 0), .int .i64 (F 1), .int .i64 (F 2), .int .i64 (F 3)] 44)) #[.int .i64 (F 0), .int .i64 (F 1), .int .i64 0, .int .i64 (F 2), .int .i64 (F 1), .int .i64 0, .int .i64 (F 2), .int .i64 (F 3), .int .i64 0, .int .i64 (F 0), .int .i64 (F 3), .int .i64 0] 90 (pc (bxX F) (bxY F) (fun _ => 0)) (fun i hi => by
    have hi : i < 12 := hi
    rcases (show i = 0 ∨ i = 1 ∨ i = 2 ∨ i = 3 ∨ i = 4 ∨ i = 5 ∨ i = 6 ∨ i = 7 ∨ i = 8 ∨ i = 9 ∨ i = 10 ∨ i = 11 by omega) with rfl | rfl | rfl | rfl | rfl | rfl | rfl | rfl | rfl | rfl | rfl | rfl <;> rfl)
  rw [nblk_alloc] at h
  exact h

/-- The rectangles, as they are handed in. -/
def BoxAt (w : World) (a : Option Addr) (n : Nat) (F : Nat → Nat → Int) : Prop := n = 0 ∨ ∃ b off, a = some ⟨b, off, none⟩ ∧ ∀ k, k < n → w.cell? ⟨b, off + k * 4, none⟩ = some (.int .i64 (F k 0)) ∧ w.cell? ⟨b, off + k * 4 + 1, none⟩ = some (.int .i64 (F k 1)) ∧ w.cell? ⟨b, off + k * 4 + 2, none⟩ = some (.int .i64 (F k 2)) ∧ w.cell? ⟨b, off + k * 4 + 3, none⟩ = some (.int .i64 (F k 3))
theorem BoxAt.below {w w' : World} {a : Option Addr} {n : Nat} {F : Nat → Nat → Int} (h : BoxAt w a n F) (hb : Below w.heap.size w w') : BoxAt w' a n F := by
  rcases h with h | ⟨b, off, ha, hc⟩
  · exact Or.inl h
  · refine Or.inr ⟨b, off, ha, fun k hk => ?_⟩
    obtain ⟨c0, c1, c2, c3⟩ := hc k hk
    have hlt : b < w.heap.size := World.block_lt_of_cell? w _ c0
    exact ⟨(hb.cell (p := ⟨b, _, none⟩) hlt).trans c0, (hb.cell (p := ⟨b, _, none⟩) hlt).trans c1, (hb.cell (p := ⟨b, _, none⟩) hlt).trans c2, (hb.cell (p := ⟨b, _, none⟩) hlt).trans c3⟩

theorem box_out {w : World} {base k : Nat} {o : Value} {B : Nat → Nat} {G : Nat → Nat → Int} (hown : w.ownsRow base 41 1 o k ((List.range k).map fun i => .slice (some ⟨B i, 0, none⟩) 4 4)) (hrows : ∀ i, i < k → w.rowIs (B i) 90 12 (pc (bxX (G i)) (bxY (G i)) (fun _ => 0))) :
    ∃ ao cap2, o = .slice ao k cap2 ∧ OutAt w ao k (fun i => some ⟨B i, 0, none⟩) (fun _ => 4) (fun _ => 4) (fun i => bxX (G i)) (fun i => bxY (G i)) (fun _ _ => 0) := by
  obtain ⟨ao, cap2, rfl, hao⟩ := owns_formN hown
  refine ⟨ao, cap2, rfl, ?_, fun i hi => ?_⟩
  · rcases Nat.eq_zero_or_pos k with h | h
    · exact .inl h
    · obtain ⟨g, rfl⟩ := hao h
      refine .inr ⟨g, 0, rfl, fun i hi => ?_⟩
      have c := hown.cellAt i (by omega)
      rw [List.getElem?_map, List.getElem?_range hi] at c
      rw [Nat.zero_add, c]; rfl
  · refine .inr ⟨B i, 0, rfl, fun q hq => ?_⟩
    have := row_cells (m := 4) (hrows i hi) q hq
    rw [Nat.zero_add]
    exact this

end Go.Proofs.Ytkhcjkmifddlbab
