/- Joined: WhlY, WhlZ. -/
import Derived.Test.YtkhcjkmifddlbabPart3
import Derived.Test.YtkhcjkmifddlbabPart9
/- WhlY -/
namespace Go.Proofs.Ytkhcjkmifddlbab
open Go.RowKit Go.Deep

theorem mx_ge {u i a b B : Int} (hu : 0 ≤ u) (hi : 0 ≤ i) (ha : B ≤ a) (hb : B ≤ b) : B * (u + i) ≤ Num.mx u i a b := by
  unfold Num.mx
  have h1 := Int.mul_le_mul_of_nonneg_left ha hu
  have h2 := Int.mul_le_mul_of_nonneg_left hb hi
  rw [Int.mul_add, Int.mul_comm B u, Int.mul_comm B i]
  omega
theorem mx_le {u i a b B : Int} (hu : 0 ≤ u) (hi : 0 ≤ i) (ha : a ≤ B) (hb : b ≤ B) : Num.mx u i a b ≤ B * (u + i) := by
  unfold Num.mx
  have h1 := Int.mul_le_mul_of_nonneg_left ha hu
  have h2 := Int.mul_le_mul_of_nonneg_left hb hi
  rw [Int.mul_add, Int.mul_comm B u, Int.mul_comm B i]
  omega
theorem quad_box {n i a b c L U : Int} (h0 : 0 ≤ i) (h1 : i ≤ n) (hn : 0 < n) (ha : L ≤ a ∧ a ≤ U) (hb : L ≤ b ∧ b ≤ U) (hc : L ≤ c ∧ c ≤ U) : L ≤ Num.hu (Num.qSum (n - i) i a b c) (n * n) ∧ Num.hu (Num.qSum (n - i) i a b c) (n * n) ≤ U := by
  have e : n - i + i = n := by omega
  have x1 := mx_ge (u := n - i) (i := i) (by omega) h0 ha.1 hb.1
  have y1 := mx_ge (u := n - i) (i := i) (by omega) h0 hb.1 hc.1
  have z1 := mx_ge (u := n - i) (i := i) (by omega) h0 x1 y1
  have x2 := mx_le (u := n - i) (i := i) (by omega) h0 ha.2 hb.2
  have y2 := mx_le (u := n - i) (i := i) (by omega) h0 hb.2 hc.2
  have z2 := mx_le (u := n - i) (i := i) (by omega) h0 x2 y2
  rw [Num.mx_quad, e, Int.mul_assoc] at z1 z2
  exact ⟨Num.hu_ge_of (Int.mul_pos hn hn) z1, Num.hu_le_of (Int.mul_pos hn hn) z2⟩
theorem cubic_box {n i a b c d L U : Int} (h0 : 0 ≤ i) (h1 : i ≤ n) (hn : 0 < n) (ha : L ≤ a ∧ a ≤ U) (hb : L ≤ b ∧ b ≤ U) (hc : L ≤ c ∧ c ≤ U) (hd : L ≤ d ∧ d ≤ U) : L ≤ Num.hu (Num.cSum (n - i) i a b c d) (n * n * n) ∧ Num.hu (Num.cSum (n - i) i a b c d) (n * n * n) ≤ U := by
  have e : n - i + i = n := by omega
  have x1 := mx_ge (u := n - i) (i := i) (by omega) h0 ha.1 hb.1
  have y1 := mx_ge (u := n - i) (i := i) (by omega) h0 hb.1 hc.1
  have w1 := mx_ge (u := n - i) (i := i) (by omega) h0 hc.1 hd.1
  have p1 := mx_ge (u := n - i) (i := i) (by omega) h0 x1 y1
  have q1 := mx_ge (u := n - i) (i := i) (by omega) h0 y1 w1
  have z1 := mx_ge (u := n - i) (i := i) (by omega) h0 p1 q1
  have x2 := mx_le (u := n - i) (i := i) (by omega) h0 ha.2 hb.2
  have y2 := mx_le (u := n - i) (i := i) (by omega) h0 hb.2 hc.2
  have w2 := mx_le (u := n - i) (i := i) (by omega) h0 hc.2 hd.2
  have p2 := mx_le (u := n - i) (i := i) (by omega) h0 x2 y2
  have q2 := mx_le (u := n - i) (i := i) (by omega) h0 y2 w2
  have z2 := mx_le (u := n - i) (i := i) (by omega) h0 p2 q2
  rw [Num.mx_cubic, e] at z1 z2
  have e2 : ∀ B : Int, B * n * n * n = B * (n * n * n) := fun B => by rw [Int.mul_assoc, Int.mul_assoc, ← Int.mul_assoc n]
  rw [e2] at z1 z2
  exact ⟨Num.hu_ge_of (Int.mul_pos (Int.mul_pos hn hn) hn) z1, Num.hu_le_of (Int.mul_pos (Int.mul_pos hn hn) hn) z2⟩
/-- All numbers of a segment lie in a box. -/
def SgBox (U V : Int) (g : Num.Sg) : Prop := ((0 ≤ g.x0 ∧ g.x0 ≤ U) ∧ (0 ≤ g.x1 ∧ g.x1 ≤ U) ∧ (0 ≤ g.x2 ∧ g.x2 ≤ U) ∧ 0 ≤ g.x3 ∧ g.x3 ≤ U) ∧ (0 ≤ g.y0 ∧ g.y0 ≤ V) ∧ (0 ≤ g.y1 ∧ g.y1 ≤ V) ∧ (0 ≤ g.y2 ∧ g.y2 ≤ V) ∧ 0 ≤ g.y3 ∧ g.y3 ≤ V
theorem curve_box {g : Num.Sg} {U V : Int} (h : SgBox U V g) : ∀ p ∈ Num.curveL g, (0 ≤ p.1 ∧ p.1 ≤ U) ∧ 0 ≤ p.2 ∧ p.2 ≤ V := by
  intro p hp
  unfold Num.curveL at hp
  split at hp
  · rename_i hc
    have hr := (Num.curve_ok hc).2
    have hb := Num.needV_bd hr
    have hs := Num.stepsV_pos hb.2
    rw [List.mem_map] at hp
    obtain ⟨i, hi, rfl⟩ := hp
    have hi : i < Num.curveN g + 1 := by simpa using hi
    have hn : (0 : Int) < (Num.curveN g : Int) := by unfold Num.curveN; omega
    obtain ⟨⟨a0, a1, a2, a3⟩, b0, b1, b2, b3⟩ := h
    unfold Num.spotX Num.spotY
    by_cases e1 : g.k = 1
    · simp only [if_pos e1]
      exact ⟨quad_box (by omega) (by omega) hn a0 a1 a3, quad_box (by omega) (by omega) hn b0 b1 b3⟩
    · simp only [if_neg e1]
      by_cases e2 : g.k = 2
      · simp only [if_pos e2]
        exact ⟨cubic_box (by omega) (by omega) hn a0 a1 a2 a3, cubic_box (by omega) (by omega) hn b0 b1 b2 b3⟩
      · simp only [if_neg e2]
        by_cases e3 : (i : Int) = (Num.curveN g : Int)
        · simp only [if_pos e3]; exact ⟨a3, b3⟩
        · simp only [if_neg e3]; exact ⟨a0, b0⟩
  · cases hp
theorem stp_box {X Y K : Nat → Int} {n t : Nat} {U V : Int} {p : Int × Int × Int} (hn : 0 < n) (hX : ∀ i, i < n → (0 ≤ X i ∧ X i ≤ U) ∧ 0 ≤ Y i ∧ Y i ≤ V) (h : Num.stp X Y K n t = some p) : (0 ≤ p.1 ∧ p.1 ≤ 2 * U) ∧ 0 ≤ p.2.1 ∧ p.2.1 ≤ 2 * V := by
  have a := hX (t / 2 % n) (Nat.mod_lt _ hn)
  have b := hX ((t / 2 + 1) % n) (Nat.mod_lt _ hn)
  unfold Num.stp at h
  split at h
  · simp at h; subst h; simp only; omega
  · split at h
    · simp at h; subst h; simp only; omega
    · cases h
theorem scan_box {X Y K : Nat → Int} {n : Nat} {U V : Int} (hn : 0 < n) (hX : ∀ i, i < n → (0 ≤ X i ∧ X i ≤ U) ∧ 0 ≤ Y i ∧ Y i ≤ V) : ∀ (d k : Nat) (g : Num.Sg) (m : Nat), SgBox (2 * U) (2 * V) g → SgBox (2 * U) (2 * V) (Num.scanR X Y K n d k g m) := by
  intro d
  induction d with
  | zero => intro k g m hg; exact hg
  | succ d ih =>
    intro k g m hg
    unfold Num.scanR
    split
    · exact ih _ _ _ hg
    · rename_i p hp
      have hb := stp_box hn hX hp
      split
      · unfold SgBox Num.setTo at *; simp only; omega
      · refine ih _ _ _ ?_
        unfold Num.addR
        split <;> (unfold SgBox at *; simp only; omega)
theorem ring_box {X Y K : Nat → Int} {n : Nat} {U V : Int} (hn : 0 < n) (hU : 0 ≤ U) (hV : 0 ≤ V) (hX : ∀ i, i < n → (0 ≤ X i ∧ X i ≤ U) ∧ 0 ≤ Y i ∧ Y i ≤ V) : ∀ g ∈ Num.refRing X Y K n, SgBox (2 * U) (2 * V) g := by
  intro g hg
  unfold Num.refRing at hg
  rw [List.mem_filterMap] at hg
  obtain ⟨t, _, ht⟩ := hg
  unfold Num.refF at ht
  split at ht
  · simp at ht
    subst ht
    unfold Num.fromV
    refine scan_box hn hX _ _ _ _ ?_
    have a := hX (t / 2 % n) (Nat.mod_lt _ hn)
    have b := hX ((t / 2 + 1) % n) (Nat.mod_lt _ hn)
    unfold SgBox Num.initS Num.stv
    split <;> (simp only; omega)
  · cases ht
/-- The map that moves nothing. -/
def plnM : Num.Mp := ⟨1024, 0, 0, 1024, 0, 0⟩
theorem pln_fair : Num.fairB plnM.a plnM.b plnM.c plnM.d plnM.x plnM.y = true := by decide
theorem pln_ok : MpOk (2 * 4096) plnM := by
  intro s t hs ht
  exact place_ok (L := 4096) (D := 0) (by omega) (by omega) (by decide) (by simp only [plnM]; omega) (by simp only [plnM]; omega) (by simp only [plnM]; omega) (by simp only [plnM]; omega) (by omega)
theorem pln_box {U V s t : Int} (hs : 0 ≤ s ∧ s ≤ 2 * U) (ht : 0 ≤ t ∧ t ≤ 2 * V) (hU : U ≤ 4096) (hV : V ≤ 4096) : (0 ≤ (Num.pl plnM s t).1 ∧ (Num.pl plnM s t).1 ≤ U) ∧ 0 ≤ (Num.pl plnM s t).2.1 ∧ (Num.pl plnM s t).2.1 ≤ V := by
  rw [pln_ok s t (by omega) (by omega)]
  simp only [plnM, Num.hu_2048]
  omega
theorem put_box {U V : Int} {g : Num.Sg} (h : SgBox (2 * U) (2 * V) g) (hU : U ≤ 4096) (hV : V ≤ 4096) : SgBox U V (Num.putV plnM g) := by
  obtain ⟨⟨a0, a1, a2, a3⟩, b0, b1, b2, b3⟩ := h
  have c0 := pln_box a0 b0 hU hV
  have c1 := pln_box a1 b1 hU hV
  have c2 := pln_box a2 b2 hU hV
  have c3 := pln_box a3 b3 hU hV
  exact ⟨⟨c0.1, c1.1, c2.1, c3.1⟩, c0.2, c1.2, c2.2, c3.2⟩
theorem ringSp_box {L : List Num.Sg} {U V : Int} (hU : U ≤ 4096) (hV : V ≤ 4096) (h : ∀ g ∈ L, SgBox (2 * U) (2 * V) g) : ∀ p ∈ Num.ringSp plnM L, (0 ≤ p.1 ∧ p.1 ≤ U) ∧ 0 ≤ p.2 ∧ p.2 ≤ V := by
  intro p hp
  unfold Num.ringSp at hp
  rw [List.mem_flatMap] at hp
  obtain ⟨g, hg, hpg⟩ := hp
  exact curve_box (put_box (h g hg) hU hV) p (List.mem_of_mem_take (by rw [Num.segSp, List.dropLast_eq_take] at hpg; exact hpg))

/-- The outline in the window. -/
def winF (W H : Nat) : Fd := ⟨0, 64 * W + 1, 0, 64 * H + 1⟩
def winT (W H : Nat) (n : Nat → Nat) (X Y K : Nat → Nat → Int) (N : Nat) : List (List (Int × Int × Int)) := tmO (winF W H) n X Y K N
theorem winF_ok {W H : Nat} (hW : 1 ≤ W ∧ W ≤ 64) (hH : 1 ≤ H ∧ H ≤ 64) : (winF W H).Ok := by unfold Fd.Ok winF; simp only; omega
theorem winT_facts {W H : Nat} (n : Nat → Nat) (X Y K : Nat → Nat → Int) (N : Nat) {j : Nat} (hj : j < (winT W H n X Y K N).length) : 2 ≤ (nth (winT W H n X Y K N) j).length ∧ (nth (winT W H n X Y K N) j).length ≤ 48 ∧ KOk (nth (winT W H n X Y K N) j) ∧ PtIn 0 (64 * W) 0 (64 * H) (nth (winT W H n X Y K N) j) := by
  obtain ⟨c, hc, e⟩ := tmO_mem (winF W H) n X Y K N _ (nth_mem hj)
  have h := tmR_facts (winF W H) (by simp only [winF]; omega) (by simp only [winF]; omega) (X c) (Y c) (K c) hc
  rw [← e] at h
  obtain ⟨h1, h2, h3, h4⟩ := h
  refine ⟨h1, h2, h3, fun p hp => ?_⟩
  have := h4 p hp
  simp only [winF] at this
  omega
theorem winT_trace {W H : Nat} (hW : W ≤ 64) (hH : H ≤ 64) (n : Nat → Nat) (X Y K : Nat → Nat → Int) (N : Nat) : traceE (winT W H n X Y K N).length (ptLen (winT W H n X Y K N)) (ptXX (winT W H n X Y K N)) (ptYY (winT W H n X Y K N)) (ptKK (winT W H n X Y K N)) plnM = 0 :=
  tame_ok (B := 4096) (tmO_len _ _ _ _ _ _) (fun j hj => by
    obtain ⟨h1, h2, h3, h4⟩ := winT_facts n X Y K N hj
    exact ⟨h1, h2, h3, fun p hp => by have := h4 p hp; omega⟩) (by omega) pln_fair pln_ok
theorem winT_pos {W H : Nat} (hW : W ≤ 64) (hH : H ≤ 64) (n : Nat → Nat) (X Y K : Nat → Nat → Int) (N : Nat) {j : Nat} (hj : j < (winT W H n X Y K N).length) : 0 < (traceL (ptLen (winT W H n X Y K N)) (ptXX (winT W H n X Y K N)) (ptYY (winT W H n X Y K N)) (ptKK (winT W H n X Y K N)) plnM j).length :=
  trace_pos (winT_trace hW hH n X Y K N) (fun _ hj => ⟨(winT_facts n X Y K N hj).1, kok_bad (winT_facts n X Y K N hj).2.2.1⟩) hj
theorem winT_box {W H : Nat} (hW : W ≤ 64) (hH : H ≤ 64) (n : Nat → Nat) (X Y K : Nat → Nat → Int) (N : Nat) {j : Nat} (hj : j < (winT W H n X Y K N).length) : ∀ t ∈ traceL (ptLen (winT W H n X Y K N)) (ptXX (winT W H n X Y K N)) (ptYY (winT W H n X Y K N)) (ptKK (winT W H n X Y K N)) plnM j, Num.BoxP W H t := by
  obtain ⟨h1, h2, h3, h4⟩ := winT_facts n X Y K N hj
  intro t ht
  have := ringSp_box (U := 64 * W) (V := 64 * H) (by omega) (by omega) (ring_box (n := ptLen (winT W H n X Y K N) j) (by unfold ptLen; omega) (by omega) (by omega) (fun i hi => pt_in h4 hi)) t ht
  exact this
end Go.Proofs.Ytkhcjkmifddlbab

/- WhlZ -/
namespace Go.Proofs.Ytkhcjkmifddlbab
open Go.RowKit Go.Deep

theorem trapV_bd {ax ay bx b2 : Int} (ha : InS ax ay) (hb : InS bx b2) : -1100000000 ≤ Num.trapV ax ay bx b2 ∧ Num.trapV ax ay bx b2 ≤ 1100000000 := by
  unfold InS at ha hb
  have := Num.mul_bd (ax + bx) (b2 - ay) 32768 32768 (by omega) (by omega)
  unfold Num.trapV
  omega
theorem sz_bdB {z B : Int} (h : -B ≤ z ∧ z ≤ B) : 0 ≤ Num.sz z ∧ Num.sz z ≤ B := Num.sz_bd h.1 h.2
theorem offW_bd {ax ay bx b2 : Int} (ha : InS ax ay) (hb : InS bx b2) : 0 ≤ Num.offW ax ay bx b2 ∧ Num.offW ax ay bx b2 ≤ 65536 := by
  unfold InS at ha hb
  have h1 := sz_bdB (z := bx - ax) (B := 32768) (by omega)
  have h2 := sz_bdB (z := b2 - ay) (B := 32768) (by omega)
  unfold Num.offW
  split <;> omega
theorem whF_bd {l : List (Int × Int)} (h : ∀ p ∈ l, Num.inB p.1 p.2 = true) (k : Nat) (hk : k ≤ l.length) : (-(1100000000 * (k : Int)) ≤ Num.sumZ (Num.chF Num.trapV l) k ∧ Num.sumZ (Num.chF Num.trapV l) k ≤ 1100000000 * (k : Int)) ∧ -(65536 * (k : Int)) ≤ Num.sumZ (Num.chF Num.offW l) k ∧ Num.sumZ (Num.chF Num.offW l) k ≤ 65536 * (k : Int) := by
  have hat : ∀ q, q < l.length → InS (Num.ats l q).1 (Num.ats l q).2 := fun q hq => by rw [Num.ats_at hq]; exact inS_of h hq
  exact ⟨Num.sumZ_bd (f := Num.chF Num.trapV l) (B := 1100000000) k (fun q hq => trapV_bd (hat q (by omega)) (hat _ (Num.nxR_lt (by omega)))), Num.sumZ_bd (f := Num.chF Num.offW l) (B := 65536) k (fun q hq => by have : 0 ≤ Num.chF Num.offW l q ∧ Num.chF Num.offW l q ≤ 65536 := offW_bd (hat q (by omega)) (hat _ (Num.nxR_lt (by omega))); omega)⟩
theorem whO_bd {R : Nat → List (Int × Int)} {m : Nat} (h : ∀ q, q < m → (R q).length ≤ 44400 ∧ ∀ p ∈ R q, Num.inB p.1 p.2 = true) (r : Nat) (hr : r ≤ m) : (-(48840000000000 * (r : Int)) ≤ Num.outF Num.trapV R r ∧ Num.outF Num.trapV R r ≤ 48840000000000 * (r : Int)) ∧ -(2909798400 * (r : Int)) ≤ Num.outF Num.offW R r ∧ Num.outF Num.offW R r ≤ 2909798400 * (r : Int) := by
  have key : ∀ q, q < r → _ := fun q hq => whF_bd (h q (by omega)).2 (R q).length (Nat.le_refl _)
  exact ⟨Num.sumZ_bd (f := fun q => Num.ringF Num.trapV (R q)) (B := 48840000000000) r (fun q hq => by have := key q hq; have := (h q (by omega)).1; unfold Num.ringF; omega), Num.sumZ_bd (f := fun q => Num.ringF Num.offW (R q)) (B := 2909798400) r (fun q hq => by have := key q hq; have := (h q (by omega)).1; unfold Num.ringF; omega)⟩

set_option maxRecDepth 100000 in
set_option maxHeartbeats 8000000 in
theorem kwhole_any (ad : Option Addr) (N cc : Nat) (A : Nat → Option Addr) (C n : Nat → Nat) (X Y K : Nat → Nat → Int) (zw zh zs : Int) (w : World) (hN : (N : Int) ≤ 9223372036854775807) (ho : OutAt w ad N A C n X Y K)
    (hX : ∀ j i, -9223372036854775808 ≤ X j i ∧ X j i ≤ 9223372036854775807) (hY : ∀ j i, -9223372036854775808 ≤ Y j i ∧ Y j i ≤ 9223372036854775807) (hK : ∀ j i, -9223372036854775808 ≤ K j i ∧ K j i ≤ 9223372036854775807)
    (hw : -9223372036854775808 ≤ zw ∧ zw ≤ 9223372036854775807) (hh : -9223372036854775808 ≤ zh ∧ zh ≤ 9223372036854775807) (hst : -9223372036854775808 ≤ zs ∧ zs ≤ 9223372036854775807) :
    Calls Try.prog 5 #[.slice ad N cc, .int .i64 zw, .int .i64 zh, .int .i64 zs] w fun e w' => e = .returned (.bool true) ∧ Below w.heap.size w w' := by
  obtain ⟨W, hW⟩ : ∃ W, W = windowN zw := ⟨_, rfl⟩
  obtain ⟨H, hH⟩ : ∃ H, H = windowN zh := ⟨_, rfl⟩
  have hW1 : 1 ≤ W ∧ W ≤ 64 := by rw [hW]; exact (windowN_rng zw).1
  have hH1 : 1 ≤ H ∧ H ≤ 64 := by rw [hH]; exact (windowN_rng zh).1
  have rS := pickV_rng zs 2 (by omega)
  obtain ⟨st, hstv⟩ : ∃ st, st = pickV zs 2 := ⟨_, rfl⟩
  have hst2 : st = 0 ∨ st = 1 := by omega
  have hWH : W * H ≤ 4096 := Nat.mul_le_mul hW1.2 hH1.2
  obtain ⟨wh, hwh⟩ : ∃ wh, wh = W * H := ⟨_, rfl⟩
  rw [← hwh] at hWH
  have hni : (W : Int) * (H : Int) = (wh : Int) := by rw [hwh]; simp
  have hwr : IntKind.i64.wrap ((W : Int) * (H : Int)) = (wh : Int) := by rw [hni]; exact wrap_ok _ (by omega) (by omega)
  obtain ⟨T, hT⟩ : ∃ T, T = winT W H n X Y K N := ⟨_, rfl⟩
  have HE := hide (winT_trace hW1.2 hH1.2 n X Y K N)
  have HPos : Hid (∀ j, j < T.length → 0 < (traceL (ptLen T) (ptXX T) (ptYY T) (ptKK T) plnM j).length) := fun j hj => by rw [hT] at hj ⊢; exact winT_pos hW1.2 hH1.2 n X Y K N hj
  have HBox : Hid (∀ j, j < T.length → ∀ t ∈ traceL (ptLen T) (ptXX T) (ptYY T) (ptKK T) plnM j, Num.BoxP W H t) := fun j hj => by rw [hT] at hj ⊢; exact winT_box hW1.2 hH1.2 n X Y K N hj
  rw [← hT] at HE
  have HFa := hide (trace_facts HE.out)
  have HLen : Hid (∀ j, j < T.length → ptLen T j ≤ 4294967296) := fun j hj => by rw [hT] at hj ⊢; have := (winT_facts n X Y K N hj).2.1; unfold ptLen; omega
  have hT4 : T.length ≤ 4 := by rw [hT]; exact tmO_len _ _ _ _ _ _
  obtain ⟨R, hR⟩ : ∃ R, R = traceL (ptLen T) (ptXX T) (ptYY T) (ptKK T) plnM := ⟨_, rfl⟩
  have HR := hide hR
  rw [← hR] at HPos HFa HBox
  have HWhole := hide (Num.whole_out hW1.2 hH1.2 HBox.out)
  have HTame := hide (fun w' (h : OutAt w' ad N A C n X Y K) => ktame_any 0 (64 * W + 1) 0 (64 * H + 1) ad N cc A C n X Y K w' (winF_ok hW1 hH1) hN h hX hY hK)
  have HTT : Hid (tmO ⟨0, 64 * W + 1, 0, 64 * H + 1⟩ n X Y K N = T) := hT.symm
  rw [HTT.out] at HTame
  have HWin := hide (fun w => window_any zw w hw.1 hw.2)
  have HWih := hide (fun w => window_any zh w hh.1 hh.2)
  rw [← hW] at HWin
  rw [← hH] at HWih
  have HPs := hide (fun w => pick_any zs 2 w hst.1 hst.2 (by omega))
  rw [← hstv] at HPs
  have HO := hide ho
  have HWh := hide hwh
  obtain ⟨W1, hW1e⟩ : ∃ W1, W1 = w.alloc (.cells #[.int .i64 0, .int .i64 (64 * W + 1), .int .i64 0, .int .i64 (64 * H + 1)] 26) := ⟨_, rfl⟩
  have HB1 : Hid (Below w.heap.size w W1) := by unfold Hid; rw [hW1e]; exact (Below.refl _ _).alloc (Nat.le_refl _) _
  clear ho hX hY hK hW hH hstv hT hR rS HTT hw hh hst hwh hni
  go_enter Try.func5, Try.ntmps5
  go_wp2_with fail
  refine (HWin.out _).mono ?_
  rintro e w' ⟨rfl, hw'⟩
  rw [hw']
  clear hw'
  go_wp2_with fail
  refine (HWih.out _).mono ?_
  rintro e w' ⟨rfl, hw'⟩
  rw [hw']
  clear hw'
  go_wp2_with fail
  rw [← hW1e]
  refine (HTame.out W1 (HO.out.below HB1.out)).mono ?_
  rintro e w3 ⟨v, V, rfl, hb3, hP3⟩
  obtain ⟨pad, pcc, PA, PC, rfl, hO3⟩ := hP3.out
  have hs3 := hb3.size
  have hO3' : OutAt w3 pad T.length PA PC (ptLen T) (ptXX T) (ptYY T) (ptKK T) := hO3
  have HO3 := hide hO3'
  have HB3 := hide (HB1.out.trans (hb3.mono (by have := HB1.out.size; omega)))
  clear hb3 hP3 hO3 hO3' HTame hW1e
  go_wp2_with fail
  refine (plain_any 0 0 w3).mono ?_
  rintro e w4 ⟨rfl, hb4⟩
  have hs4 := hb4.size
  have HO4 := hide (HO3.out.below hb4)
  have HB4 := hide (HB3.out.trans (hb4.mono (by have := HB3.out.size; omega)))
  clear hb4
  have HTrc := hide (ktraced_any pad T.length pcc PA PC (ptLen T) (ptXX T) (ptYY T) (ptKK T) 1024 0 0 1024 0 0 w4 (by omega) HLen.out HO4.out HE.out (by have := HPos.out; rw [HR.out] at this; exact this))
  have HRp : Hid (traceL (ptLen T) (ptXX T) (ptYY T) (ptKK T) ⟨1024, 0, 0, 1024, 0, 0⟩ = R) := HR.out.symm
  rw [HRp.out] at HTrc
  go_wp2_with fail
  refine HTrc.out.mono ?_
  rintro e w5 ⟨vl, VL, rfl, hb5, hS5⟩
  obtain ⟨la, lcap, rfl, hla⟩ := owns_formN hS5.outer
  have hs5 := hb5.size
  have HS5 := hide hS5
  have HLa := hide hla
  have HO5 := hide (HO4.out.below hb5)
  have HB5 := hide (HB4.out.trans (hb5.mono (by have := HB4.out.size; omega)))
  clear hb5 hS5 hla HTrc HO4
  go_wp2_with fail
  refine (plain_any 0 0 w5).mono ?_
  rintro e w7 ⟨rfl, hb7⟩
  have hs7 := hb7.size
  have HO7 := hide (HO5.out.below hb7)
  have HS7 := hide (HS5.out.below hb7)
  have HB7 := hide (HB5.out.trans (hb7.mono (by have := HB5.out.size; omega)))
  clear hb7
  have HLd := hide (laid_any W H st pad T.length pcc PA PC (ptLen T) (ptXX T) (ptYY T) (ptKK T) 1024 0 0 1024 0 0 w7 hW1 hH1 hst2 (by omega) HLen.out HO7.out HE.out)
  rw [HRp.out] at HLd
  go_wp2_with fail
  refine (HPs.out _).mono ?_
  rintro e w' ⟨rfl, hw'⟩
  rw [hw']
  clear hw'
  go_wp2_with fail
  refine HLd.out.mono ?_
  rintro e w6 ⟨bk, S, rfl, hb6, hC6, hS6⟩
  have hs6 := hb6.size
  have HS6 := hide (HS7.out.below hb6)
  have HC6 := hide hC6
  have HB6 := hide (HB7.out.trans (hb6.mono (by have := HB7.out.size; omega)))
  clear hb6 hC6 hS6 HLd HO5 HO7 HS5 HS7
  have hn0 : ¬ (W : Int) = 0 := by omega
  have hn1 : ¬ W = 0 := by omega
  have hn2 : ((W : Int) == 0) = false := by simp; omega
  obtain ⟨F, hF⟩ : ∃ F : Nat → Int, F = fun q => Num.areaV R T.length ((q % W : Nat) : Int) ((q / W : Nat) : Int) := ⟨_, rfl⟩
  have HFb : Hid (∀ q, -1500000000 ≤ F q ∧ F q ≤ 1500000000) := fun q => by
    have h3 := Num.areaV_bd (L := R) (N := T.length) (M := 44400) ((q % W : Nat) : Int) ((q / W : Nat) : Int) (fun q hq => (HFa.out.2 q hq).1)
    rw [hF]
    simp only
    omega
  have HF := hide hF
  have HWs : Hid (Num.winS W H (fun i j => Num.areaV R T.length i j) = Num.sumZ F wh) := by unfold Hid Num.winS; rw [HWh.out, hF]
  rw [HWs.out] at HWhole
  clear hF
  go_wp2_with fail
  go_loopw [17, 18] (fun t17 t18 wr => ∃ k : Nat, k ≤ wh ∧ t18 = .int .i64 k ∧ t17 = .int .i64 (Num.sumZ F k) ∧ Below w6.heap.size w6 wr) (fun _ t _ => wh - (intOf t).toNat)
  case atStart => exact ⟨0, by omega, rfl, rfl, Below.refl _ _⟩
  case round =>
    obtain ⟨wx, rfl⟩ : ∃ wx, wx = wr := ⟨_, rfl⟩
    obtain ⟨k, hk, rfl, rfl, hbk⟩ := hrel
    have hszk := hbk.size
    have hsb := Num.sumZ_bd (f := F) (B := 1500000000) k (fun q _ => HFb.out q)
    have HBk := hide hbk
    clear hbk
    by_cases hlk : k < wh
    · have hdk : decide ((k : Int) < (wh : Int)) = true := by simp; omega
      have hqd : k / W < H := by
        rw [Nat.div_lt_iff_lt_mul (by omega), Nat.mul_comm, ← HWh.out]; exact hlk
      have hqm : k % W < W := Nat.mod_lt _ (by omega)
      have hqm1 : (k : Int).tmod (W : Int) = ((k % W : Nat) : Int) := by rw [Int.tmod_eq_emod_of_nonneg (by omega)]; push_cast; rfl
      have hqd1 : (k : Int).tdiv (W : Int) = ((k / W : Nat) : Int) := by rw [Int.tdiv_eq_ediv_of_nonneg (by omega)]; push_cast; rfl
      have hFk : F k = Num.areaV R T.length ((k % W : Nat) : Int) ((k / W : Nat) : Int) := by rw [HF.out]
      have hFb := HFb.out k
      obtain ⟨qi, hqi⟩ : ∃ q, q = k % W := ⟨_, rfl⟩
      obtain ⟨qj, hqj⟩ : ∃ q, q = k / W := ⟨_, rfl⟩
      rw [← hqi] at hqm hqm1 hFk
      rw [← hqj] at hqd hqd1 hFk
      clear hqi hqj
      have hAe : areaE W H qi qj = 0 := by unfold areaE; rw [if_pos (by omega)]
      have hAn : areaN W H (fun i j => Num.areaV R T.length i j) qi qj = Num.areaV R T.length qi qj := by unfold areaN; rw [if_pos (by omega)]; simp
      have HAr := hide (fun w' (hb : Below wx.heap.size wx w') => glyphArea_any bk W H 1 _ _ _ _ qi qj _ w' ((HC6.out.below HBk.out).below hb) hW1 hH1 (by omega))
      rw [hAe, hAn, ← hFk] at HAr
      have HSt : Hid (Num.sumZ F (k + 1) = Num.sumZ F k + F k) := rfl
      obtain ⟨z, hz⟩ : ∃ z, z = F k := ⟨_, rfl⟩
      obtain ⟨Z, hZ⟩ : ∃ z, z = Num.sumZ F k := ⟨_, rfl⟩
      rw [← hz] at HAr HSt hFb
      rw [← hZ] at HSt hsb ⊢
      have hw2 : IntKind.i64.wrap (qi : Int) = (qi : Int) := wrap_ok _ (by omega) (by omega)
      have hw3 : IntKind.i64.wrap (qj : Int) = (qj : Int) := wrap_ok _ (by omega) (by omega)
      clear hz hZ hFk hAe hAn
      go_wp2_with fail
      go_region_with (go_at_call 13; refine (HAr.out _ (by first | exact Below.refl _ _ | exact (Below.refl _ _).drew)).mono ?_; rintro e w11 ⟨rfl, hb11⟩)
      all_goals
        have hdr : wx.drew.heap.size = wx.heap.size := rfl
        have hs11 := hb11.size
        have hb01 : Below wx.heap.size wx w11 := ((Below.refl _ _).drew).trans (hb11.mono (Nat.le_of_eq hdr.symm))
        have HB11 := hide (HBk.out.trans (hb01.mono (by have := HBk.out.size; omega)))
        clear hb11 hdr hb01 HAr
        go_wp2
        go_roundw
        case rel => exact ⟨k + 1, by omega, by go_num, by rw [HSt.out], HB11.out⟩
        case measure => simp [intOf]; omega
    · have e : k = wh := by omega
      have hdk : decide ((k : Int) < (wh : Int)) = false := by simp; omega
      rw [← e] at HWhole
      obtain ⟨S1, hS1⟩ : ∃ z, z = Num.sumZ F k := ⟨_, rfl⟩
      rw [← hS1] at HWhole hsb ⊢
      have hSb : -6200000000000 ≤ S1 ∧ S1 ≤ 6200000000000 := by omega
      clear hS1 hsb e
      go_wp2_with fail
      go_loopw [17, 21, 22] (fun t17 t21 t22 wr => ∃ r : Nat, r ≤ T.length ∧ t22 = .int .i64 r ∧ t17 = .int .i64 (S1 + Num.outF Num.trapV R r) ∧ t21 = .int .i64 (Num.outF Num.offW R r) ∧ Below w6.heap.size w6 wr) (fun _ _ t _ => T.length - (intOf t).toNat)
      case atStart => exact ⟨0, by omega, rfl, by simp [Num.outF, Num.sumZ], rfl, HBk.out⟩
      case round =>
        obtain ⟨wo, rfl⟩ : ∃ wo, wo = wr := ⟨_, rfl⟩
        obtain ⟨r, hr, rfl, rfl, rfl, hbo⟩ := hrel
        have hszo := hbo.size
        have HBo := hide hbo
        clear hbo
        have h1 := whO_bd (R := R) (m := T.length) HFa.out.2 r hr
        by_cases hlt : r < T.length
        · have hd1 : decide ((r : Int) < (T.length : Int)) = true := by simp; omega
          obtain ⟨g, rfl⟩ := HLa.out (by omega)
          have HZs : Hid (S1 + Num.outF Num.trapV R (r + 1) = S1 + Num.outF Num.trapV R r + Num.ringF Num.trapV (R r)) := by unfold Hid; rw [outF_one]; omega
          have HYs : Hid (Num.outF Num.offW R (r + 1) = Num.outF Num.offW R r + Num.ringF Num.offW (R r)) := outF_one _ _ _
          obtain ⟨Z0, hZ0⟩ : ∃ Z, Z = S1 + Num.outF Num.trapV R r := ⟨_, rfl⟩
          obtain ⟨Y0, hY0⟩ : ∃ Z, Z = Num.outF Num.offW R r := ⟨_, rfl⟩
          have HZ0b : Hid ((-300000000000000 ≤ Z0 ∧ Z0 ≤ 300000000000000) ∧ -12000000000 ≤ Y0 ∧ Y0 ≤ 12000000000) := by unfold Hid; omega
          rw [← hZ0] at HZs ⊢
          rw [← hY0] at HYs ⊢
          clear hZ0 hY0 h1
          go_wp2_with fail
          go_loopw [17, 21, 23] (fun t17 t21 t23 wr => ∃ k : Nat, k ≤ (R r).length ∧ t23 = .int .i64 k ∧ t17 = .int .i64 (Z0 + Num.sumZ (Num.chF Num.trapV (R r)) k) ∧ t21 = .int .i64 (Y0 + Num.sumZ (Num.chF Num.offW (R r)) k) ∧ Below w6.heap.size w6 wr) (fun _ _ t _ => (R r).length - (intOf t).toNat)
          case atStart => exact ⟨0, by omega, rfl, by simp [Num.sumZ], by simp [Num.sumZ], HBo.out⟩
          case round =>
            obtain ⟨k, hk, rfl, rfl, rfl, hbk⟩ := hrel
            have hszk := hbk.size
            have hSr := HS6.out.below hbk
            have hc := hSr.outer.cellAt r (by omega)
            rw [List.getElem?_map, List.getElem?_range hlt] at hc
            simp only [Option.map_some] at hc
            obtain ⟨ra, rc, hvr, hra⟩ := owns_formN (hSr.inner r hlt)
            rw [hvr] at hc
            have r0 : (0 : Int) ≤ (r : Int) := by omega
            have r1 : (r : Int) < (T.length : Int) := by omega
            obtain ⟨_, hRl⟩ := HFa.out
            obtain ⟨hRl1, hRin⟩ := hRl r hlt
            have hzk := whF_bd hRin k hk
            obtain ⟨len, hlen⟩ : ∃ len, len = (R r).length := ⟨_, rfl⟩
            by_cases hlk : k < (R r).length
            · obtain ⟨gr, rfl⟩ := hra (by omega)
              have hin := hSr.inner r hlt
              rw [hvr] at hin
              have hnx := Num.nxR_lt hlk
              have hmod := Num.nxR_mod hlk
              obtain ⟨nx, hnxe⟩ : ∃ nx, nx = Num.nxR (R r).length k := ⟨_, rfl⟩
              rw [← hnxe] at hnx hmod
              obtain ⟨c0, c1⟩ := owns_sp hin k hlk
              obtain ⟨e0, e1⟩ := owns_sp hin nx hnx
              have hP1 := inS_of hRin hlk
              have hQ1 := inS_of hRin hnx
              have HCl : Hid (Num.chF Num.trapV (R r) k = Num.trapV (R r)[k].1 (R r)[k].2 (R r)[nx].1 (R r)[nx].2) := by unfold Hid Num.chF; rw [← hnxe, Num.ats_at hlk, Num.ats_at hnx]
              have HCh : Hid (Num.chF Num.offW (R r) k = Num.offW (R r)[k].1 (R r)[k].2 (R r)[nx].1 (R r)[nx].2) := by unfold Hid Num.chF; rw [← hnxe, Num.ats_at hlk, Num.ats_at hnx]
              obtain ⟨p, hp⟩ : ∃ p, p = (R r)[k] := ⟨_, rfl⟩
              obtain ⟨q, hq⟩ : ∃ q, q = (R r)[nx] := ⟨_, rfl⟩
              rw [← hp] at c0 c1 hP1 HCl HCh
              rw [← hq] at e0 e1 hQ1 HCl HCh
              obtain ⟨px, py⟩ := p
              obtain ⟨qx, qy⟩ := q
              simp only at c0 c1 e0 e1 hP1 hQ1 HCl HCh
              have hgl : gr < wr.heap.size := (hin.lt gr rfl).2
              have hgl2 : g < wr.heap.size := (hSr.outer.lt g rfl).2
              rw [← hlen] at hc hRl1 hlk hmod hnx hk
              have hk64 : len ≤ 44400 := hRl1
              have hdk2 : decide ((k : Int) < (len : Int)) = true := by simp; omega
              have j0 : (0 : Int) ≤ (k : Int) := by omega
              have j1 : (k : Int) < (len : Int) := by omega
              have j2 : (0 : Int) ≤ (nx : Int) := by omega
              have j3 : (nx : Int) < (len : Int) := by omega
              have ln0 : ¬ (len : Int) = 0 := by omega
              have ln1 : ¬ len = 0 := by omega
              have ln2 : ((len : Int) == 0) = false := by simp; omega
              have hw1 : IntKind.i64.wrap ((k : Int) + 1) = (k : Int) + 1 := wrap_ok _ (by omega) (by omega)
              have htm : ((k : Int) + 1).tmod (len : Int) = (nx : Int) := by rw [Int.tmod_eq_emod_of_nonneg (by omega), hmod]; push_cast; rfl
              have hw2 : IntKind.i64.wrap (nx : Int) = (nx : Int) := wrap_ok _ (by omega) (by omega)
              have hi1 := hP1
              have hi2 := hQ1
              unfold InS at hi1 hi2
              have tb := trapV_bd hP1 hQ1
              have sb1 := sz_bdB (z := qx - px) (B := 32768) (by omega)
              have sb2 := sz_bdB (z := qy - py) (B := 32768) (by omega)
              have HSz1 := hide (fun w' => ksize_any (qx - px) w' (by omega) (by omega))
              have HSz2 := hide (fun w' => ksize_any (qy - py) w' (by omega) (by omega))
              have hoff : Num.offW px py qx qy = if Num.sz (qx - px) ≠ 0 ∧ Num.sz (qy - py) ≠ 0 ∧ Num.sz (qx - px) ≠ Num.sz (qy - py) then Num.sz (qx - px) + Num.sz (qy - py) else 0 := rfl
              rw [hoff] at HCh
              clear hoff
              obtain ⟨sx, hsx⟩ : ∃ z, z = Num.sz (qx - px) := ⟨_, rfl⟩
              obtain ⟨sy, hsy⟩ : ∃ z, z = Num.sz (qy - py) := ⟨_, rfl⟩
              obtain ⟨PR, hPR0⟩ : ∃ z, z = Num.trapV px py qx qy := ⟨_, rfl⟩
              have hPR : (px + qx) * (qy - py) = PR := by rw [hPR0]; rfl
              rw [← hsx] at sb1 HSz1 HCh
              rw [← hsy] at sb2 HSz2 HCh
              rw [← hPR0] at HCl tb
              clear hsx hsy hPR0
              have HSt : Hid (Z0 + Num.sumZ (Num.chF Num.trapV (R r)) (k + 1) = Z0 + Num.sumZ (Num.chF Num.trapV (R r)) k + PR) := by unfold Hid; simp only [Num.sumZ]; rw [HCl.out]; omega
              have HTt : Hid (Y0 + Num.sumZ (Num.chF Num.offW (R r)) (k + 1) = Y0 + Num.sumZ (Num.chF Num.offW (R r)) k + (if sx ≠ 0 ∧ sy ≠ 0 ∧ sx ≠ sy then sx + sy else 0)) := by unfold Hid; simp only [Num.sumZ]; rw [HCh.out]; omega
              obtain ⟨Zk, hZk⟩ : ∃ Z, Z = Z0 + Num.sumZ (Num.chF Num.trapV (R r)) k := ⟨_, rfl⟩
              obtain ⟨Yk, hYk⟩ : ∃ Z, Z = Y0 + Num.sumZ (Num.chF Num.offW (R r)) k := ⟨_, rfl⟩
              have hZb : (-1000000000000000 ≤ Zk ∧ Zk ≤ 1000000000000000) ∧ -1000000000000000 ≤ Yk ∧ Yk ≤ 1000000000000000 := by
                have h2 := HZ0b.out
                rw [hZk, hYk]; omega
              rw [← hZk] at HSt ⊢
              rw [← hYk] at HTt ⊢
              have HBk := hide hbk
              have HNx := hide (And.intro hnxe hmod)
              have HLn := hide hlen
              clear hSr hvr hra hRl hRin hin hbk hp hq hZk hYk hnxe hmod hlen hzk HCl HCh
              go_wp2_with fail
              go_region
              obtain ⟨Wq, hWq⟩ : ∃ Wq, Wq = ((wr.alloc (.cells #[.int .i64 px, .int .i64 py] 53)).alloc (.cells #[.int .i64 qx, .int .i64 qy] 53)).drew := ⟨_, rfl⟩
              have hbq : Below wr.heap.size wr Wq := by rw [hWq]; (repeat (any_goals (first | exact Below.refl _ _ | assumption | refine Below.drew ?_ | refine below_drewN ?_ _ | refine Below.setCell ?_ ?_ _ | refine Below.alloc ?_ ?_ _ | omega | (simp; done) | (simp; omega))))
              have hsq : Wq.heap.size = wr.heap.size + 1 + 1 := by rw [hWq]; simp
              have hrp : Wq.rowIs wr.heap.size 53 2 (spt2 px py) := by
                rw [hWq]
                exact World.rowIs.of_block ((sp_row wr px py).alloc _) rfl
              have hrq : Wq.rowIs (wr.heap.size + 1) 53 2 (spt2 qx qy) := by
                have h := sp_row (wr.alloc (.cells #[.int .i64 px, .int .i64 py] 53)) qx qy
                rw [nblk_alloc] at h
                rw [hWq]
                exact World.rowIs.of_block h rfl
              rw [← hWq]
              obtain ⟨sp, hsp⟩ : ∃ sp, sp = wr.heap.size := ⟨_, rfl⟩
              rw [← hsp] at hrp hrq hsq
              try rw [← hsp]
              have HBq := hide (HBk.out.trans (hbq.mono hszk))
              obtain ⟨s0, s1⟩ := spt2_c hrp
              obtain ⟨t0, t1⟩ := spt2_c hrq
              have hx1 := hrp.lt
              have hx2 := hrq.lt
              clear hWq hbq hrp hrq hsp c0 c1 e0 e1 hc
              go_wp2_with fail
              refine (HSz1.out _).mono ?_
              rintro e w' ⟨rfl, hw'⟩
              rw [hw']
              clear hw'
              go_wp2_with fail
              refine (HSz2.out _).mono ?_
              rintro e w' ⟨rfl, hw'⟩
              rw [hw']
              clear hw'
              by_cases x0 : sx = 0
              · have HT2 : Hid (Y0 + Num.sumZ (Num.chF Num.offW (R r)) (k + 1) = Yk) := by unfold Hid; rw [HTt.out, if_neg (by omega)]; omega
                have x0b : (sx == 0) = true := by simp [x0]
                go_wp2
                go_roundw
                case rel => exact ⟨k + 1, by have := HLn.out; omega, by go_num, by rw [HSt.out], by rw [HT2.out], HBq.out⟩
                case measure => have := HLn.out; simp [intOf]; omega
              · have x0b : (sx == 0) = false := by simp [x0]
                by_cases y0 : sy = 0
                · have HT2 : Hid (Y0 + Num.sumZ (Num.chF Num.offW (R r)) (k + 1) = Yk) := by unfold Hid; rw [HTt.out, if_neg (by omega)]; omega
                  have y0b : (sy == 0) = true := by simp [y0]
                  go_wp2
                  go_roundw
                  case rel => exact ⟨k + 1, by have := HLn.out; omega, by go_num, by rw [HSt.out], by rw [HT2.out], HBq.out⟩
                  case measure => have := HLn.out; simp [intOf]; omega
                · have y0b : (sy == 0) = false := by simp [y0]
                  by_cases xy : sx = sy
                  · have HT2 : Hid (Y0 + Num.sumZ (Num.chF Num.offW (R r)) (k + 1) = Yk) := by unfold Hid; rw [HTt.out, if_neg (by omega)]; omega
                    subst xy
                    have x0c : (sx != 0) = true := by simp [x0]
                    have xyc : (sx != sx) = false := by simp
                    go_wp2
                    go_roundw
                    case rel => exact ⟨k + 1, by have := HLn.out; omega, by go_num, by rw [HSt.out], by rw [HT2.out], HBq.out⟩
                    case measure => have := HLn.out; simp [intOf]; omega
                    all_goals exact ⟨⟨k + 1, by have := HLn.out; omega, by go_num, by rw [HSt.out], by rw [HT2.out], HBq.out⟩, by have := HLn.out; simp [intOf]; omega⟩
                  · have HT2 : Hid (Y0 + Num.sumZ (Num.chF Num.offW (R r)) (k + 1) = Yk + sx + sy) := by unfold Hid; rw [HTt.out, if_pos ⟨x0, y0, xy⟩]; omega
                    have xyb : (sx == sy) = false := by simp [xy]
                    have x0c : (sx != 0) = true := by simp [x0]
                    have y0c : (sy != 0) = true := by simp [y0]
                    have xyc : (sx != sy) = true := by simp [xy]
                    go_wp2
                    go_roundw
                    case rel => exact ⟨k + 1, by have := HLn.out; omega, by go_num, by rw [HSt.out], by rw [HT2.out], HBq.out⟩
                    case measure => have := HLn.out; simp [intOf]; omega
            · have e : k = (R r).length := by omega
              have hkl : k = len := by omega
              rw [← hlen] at hc
              have hdk2 : decide ((k : Int) < (len : Int)) = false := by simp; omega
              have hgl2 : g < wr.heap.size := (hSr.outer.lt g rfl).2
              have HZr : Hid (Z0 + Num.sumZ (Num.chF Num.trapV (R r)) k = S1 + Num.outF Num.trapV R (r + 1)) := by unfold Hid; rw [HZs.out, e]; rfl
              have HYr : Hid (Y0 + Num.sumZ (Num.chF Num.offW (R r)) k = Num.outF Num.offW R (r + 1)) := by unfold Hid; rw [HYs.out, e]; rfl
              have HBk := hide hbk
              obtain ⟨Zk, hZk⟩ : ∃ Z, Z = Z0 + Num.sumZ (Num.chF Num.trapV (R r)) k := ⟨_, rfl⟩
              obtain ⟨Yk, hYk⟩ : ∃ Z, Z = Y0 + Num.sumZ (Num.chF Num.offW (R r)) k := ⟨_, rfl⟩
              rw [← hZk] at HZr ⊢
              rw [← hYk] at HYr ⊢
              have hll : ¬ k < len := by omega
              clear hSr hvr hra hRl hRin hbk hZk hYk hlen e hzk
              go_wp2
              go_roundw
              case rel => exact ⟨r + 1, by omega, by go_num, by rw [HZr.out], by rw [HYr.out], HBk.out⟩
              case measure => simp [intOf]; omega
        · have e : r = T.length := by omega
          have hd1 : decide ((r : Int) < (T.length : Int)) = false := by simp; omega
          have hwo := HWhole.out
          rw [← e] at hwo
          obtain ⟨Z, hZ⟩ : ∃ Z, Z = S1 + Num.outF Num.trapV R r := ⟨_, rfl⟩
          obtain ⟨Y, hY⟩ : ∃ Z, Z = Num.outF Num.offW R r := ⟨_, rfl⟩
          have hZb : -300000000000000 ≤ Z ∧ Z ≤ 300000000000000 := by omega
          rw [← hZ] at hwo ⊢
          rw [← hY] at hwo ⊢
          have HSz := hide (fun w' => ksize_any Z w' (by omega) (by omega))
          obtain ⟨D, hD⟩ : ∃ D, D = Num.sz Z := ⟨_, rfl⟩
          rw [← hD] at hwo HSz
          have hb1 : decide (D ≤ Y) = true := by simp; omega
          clear hZ hY hD h1 e
          go_wp2_with fail
          refine (HSz.out _).mono ?_
          rintro e w' ⟨rfl, hw'⟩
          rw [hw']
          clear hw'
          have HB9 := hide (HB6.out.trans (HBo.out.mono (by have := HB6.out.size; omega)))
          go_wp2
          go_ret
          exact ⟨rfl, HB9.out⟩
end Go.Proofs.Ytkhcjkmifddlbab
