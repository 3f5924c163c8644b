/- Texts that are written: how they are read. Plain. -/
import Derived.Test.YtkhcjkmifddlbabDoorDecU
namespace Go.Proofs.YtkhcjkmifddlbabDoor

/-- The bytes l stand at place p. -/
def At (s : ByteArray) (p : Nat) (l : List UInt8) : Prop := p + l.length ≤ s.size ∧ ∀ k (hk : k < l.length), Num.byt s (p + k) = l[k].toNat
theorem byt_list {s : ByteArray} {k : Nat} (h : k < s.toList.length) : Num.byt s k = s.toList[k].toNat := by
  have hl : s.toList.length = s.size := by rw [ByteArray.toList_eq]; simp
  have h2 : k < s.size := by omega
  rw [Num.byt_lt h2]
  have : s.toList[k]? = some s[k] := by
    rw [ByteArray.toList_eq]
    have h3 : s.data.size = s.size := rfl
    rw [Array.getElem?_toList, Array.getElem?_eq_getElem (by omega)]
    rfl
  rw [List.getElem?_eq_getElem h] at this
  simp only [Option.some.injEq] at this
  rw [this]
theorem At.mk {s : ByteArray} {A B C : List UInt8} (h : s.toList = A ++ B ++ C) {p : Nat} (hp : p = A.length) : At s p B := by
  have hl : s.toList.length = s.size := by rw [ByteArray.toList_eq]; simp
  have hs : s.toList.length = A.length + B.length + C.length := by rw [h, List.length_append, List.length_append]
  refine ⟨by omega, fun k hk => ?_⟩
  rw [byt_list (by omega)]
  subst hp
  have : s.toList[A.length + k]? = B[k]? := by
    rw [h, List.append_assoc, List.getElem?_append_right (by omega), List.getElem?_append_left (by omega)]
    congr 1; omega
  rw [List.getElem?_eq_getElem (by omega), List.getElem?_eq_getElem hk] at this
  simp only [Option.some.injEq] at this
  rw [this]
theorem At.byt {s : ByteArray} {p : Nat} {c : UInt8} {l : List UInt8} (h : At s p (c :: l)) : p < s.size ∧ Num.byt s p = c.toNat := ⟨by have := h.1; simp at this; omega, by have := h.2 0 (by simp); simpa using this⟩
theorem At.tail {s : ByteArray} {p : Nat} {c : UInt8} {l : List UInt8} (h : At s p (c :: l)) : At s (p + 1) l :=
  ⟨by have := h.1; simp at this; omega, fun k hk => by have := h.2 (k + 1) (by simp; omega); rw [show p + 1 + k = p + (k + 1) by omega, this]; simp⟩
theorem At.word {s : ByteArray} {p : Nat} {l : List UInt8} (h : At s p l) : Num.wordV s l p = some (p + l.length) := by
  unfold Num.wordV
  obtain ⟨hl, hg⟩ := ext_list h.1
  have e : (s.extract p (p + l.length)).toList = l := by
    apply List.ext_getElem hl
    intro i h1 h2
    apply UInt8.toNat_inj.1
    rw [hg i h1, h.2 i h2]
  rw [if_pos ⟨h.1, e⟩]
theorem At.sp {s : ByteArray} {p : Nat} {c : UInt8} {l : List UInt8} (h : At s p (c :: l)) (hc : Num.isSp c.toNat = true) : Num.spV s p = some (p + 1) := by
  unfold Num.spV; rw [if_pos ⟨h.byt.1, by rw [h.byt.2]; exact hc⟩]
theorem At.skip {s : ByteArray} {p : Nat} {c : UInt8} {l : List UInt8} (h : At s p (c :: l)) (hc : Num.isSp c.toNat = true) : Num.skipV s p = Num.skipV s (p + 1) :=
  Num.skipV_sp h.byt.1 (by rw [h.byt.2]; intro e; rw [e] at hc; simp [Num.isSp] at hc) (by rw [h.byt.2]; exact hc)
theorem At.stop {s : ByteArray} {p : Nat} {c : UInt8} {l : List UInt8} (h : At s p (c :: l)) (hc : Num.isSp c.toNat = false) (h35 : c.toNat ≠ 35) : Num.skipV s p = some p :=
  Num.skipV_stop h.byt.1 (by rw [h.byt.2]; exact h35) (by rw [h.byt.2]; exact hc)
theorem At.rem {s : ByteArray} : ∀ (l : List UInt8) (p : Nat), (∀ c ∈ l, c.toNat ≠ 10) → At s p (l ++ [10]) → Num.remV s p = some (p + l.length + 1)
  | [], p, _, h => by
    have := h.byt
    rw [Num.remV, if_pos this.1, if_pos (by rw [this.2]; rfl)]
    simp
  | c :: l, p, hc, h => by
    have h' : At s p (c :: (l ++ [10])) := h
    have := h'.byt
    rw [Num.remV, if_pos this.1, if_neg (by rw [this.2]; exact hc c (by simp)), At.rem l (p + 1) (fun x hx => hc x (by simp [hx])) h'.tail]
    simp; omega
theorem At.remark {s : ByteArray} {p : Nat} {l : List UInt8} (hc : ∀ c ∈ l, c.toNat ≠ 10) (h : At s p (35 :: (l ++ [10]))) : Num.skipV s p = Num.skipV s (p + l.length + 2) := by
  have h2 := h.byt
  have h3 := At.rem (s := s) (35 :: l) p (fun c hx => (List.mem_cons.1 hx).elim (fun e => by rw [e]; decide) (hc c)) h
  rw [Num.skipV_rem h2.1 (by rw [h2.2]; rfl) h3]
  exact congrArg (Num.skipV s) (by rw [List.length_cons]; omega)
/-- The digits of a number. -/
theorem digL_dg {v : Nat} (h2 : v ≤ 64) : ∀ c ∈ digL v, 48 ≤ c.toNat ∧ c.toNat ≤ 57 := by
  intro c hc
  unfold digL at hc
  split at hc
  · rw [List.mem_singleton.1 hc, u8_nat (by omega)]; omega
  · rcases List.mem_cons.1 hc with rfl | hc
    · rw [u8_nat (by omega)]; omega
    · rw [List.mem_singleton.1 hc, u8_nat (by omega)]; omega
theorem digL_len (v : Nat) : 1 ≤ (digL v).length ∧ (digL v).length ≤ 2 := by unfold digL; split <;> simp
theorem At.side {s : ByteArray} {p v : Nat} (h1 : 1 ≤ v) (h2 : v ≤ 64) (h : At s p (digL v)) (hn : Num.isDg (Num.byt s (p + (digL v).length)) = false) : Num.sideV s p = some (v, p + (digL v).length) := by
  have hr : DgRun s p (digL v).length := ⟨fun k hk => by
    rw [h.2 k hk]
    have := digL_dg h2 _ (List.getElem_mem hk)
    simp [Num.isDg]; omega, hn⟩
  have hm := side_match h.1 hr h1 h2
  have hw := At.word h
  unfold Num.wordV at hw
  split at hw
  · rename_i hc
    rw [hc.2] at hm
    simpa using hm
  · cases hw
theorem dec_of {s : ByteArray} {W H p1 p2 q2 p3 q3 p4 p5 off : Nat} (hs : s.size ≤ 8192) (h1 : Num.wordV s [80, 53] 0 = some p1) (h2 : Num.gapV s p1 = some p2) (h3 : Num.sideV s p2 = some (W, q2)) (h4 : Num.gapV s q2 = some p3) (h5 : Num.sideV s p3 = some (H, q3))
    (h6 : Num.gapV s q3 = some p4) (h7 : Num.wordV s [50, 53, 53] p4 = some p5) (h8 : Num.spV s p5 = some off) : Num.decV s = if s.size - off = W * H then some (W, H, off) else none := by
  unfold Num.decV
  rw [if_neg (by omega)]
  simp [h1, h2, h3, h4, h5, h6, h7, h8]
theorem digL_first {v : Nat} (_h1 : 1 ≤ v) (h2 : v ≤ 64) : ∃ c l, digL v = c :: l ∧ Num.isSp c.toNat = false ∧ c.toNat ≠ 35 := by
  have hl := digL_len v
  match hd : digL v with
  | [] => rw [hd] at hl; simp at hl
  | c :: l =>
    have := digL_dg h2 c (by rw [hd]; simp)
    exact ⟨c, l, rfl, by simp [Num.isSp]; omega, by omega⟩
/-- A text as Encode writes it, with any bytes behind its head. -/
theorem dec_head {s : ByteArray} {W H : Nat} {Q : List UInt8} (w1 : 1 ≤ W) (w2 : W ≤ 64) (h1 : 1 ≤ H) (h2 : H ≤ 64) (hs : s.size ≤ 8192)
    (h : s.toList = [80, 53, 10] ++ digL W ++ [32] ++ digL H ++ [10, 50, 53, 53, 10] ++ Q) : Num.decV s = if Q.length = W * H then some (W, H, 9 + (digL W).length + (digL H).length) else none := by
  have hl : s.size = 9 + (digL W).length + (digL H).length + Q.length := by
    have e : s.toList.length = s.size := by rw [ByteArray.toList_eq]; simp
    rw [← e, h]; simp; omega
  obtain ⟨cw, lw, ew, cw1, cw2⟩ := digL_first w1 w2
  obtain ⟨ch, lh, eh, ch1, ch2⟩ := digL_first h1 h2
  have a0 : At s 0 [80, 53] := At.mk (A := []) (C := [10] ++ digL W ++ [32] ++ digL H ++ [10, 50, 53, 53, 10] ++ Q) (by rw [h]; simp) rfl
  have a1 : At s 2 [10] := At.mk (A := [80, 53]) (C := digL W ++ [32] ++ digL H ++ [10, 50, 53, 53, 10] ++ Q) (by rw [h]; simp) rfl
  have a2 : At s 3 (digL W) := At.mk (A := [80, 53, 10]) (C := [32] ++ digL H ++ [10, 50, 53, 53, 10] ++ Q) (by rw [h]; simp) rfl
  have a3 : At s (3 + (digL W).length) [32] := At.mk (A := [80, 53, 10] ++ digL W) (C := digL H ++ [10, 50, 53, 53, 10] ++ Q) (by rw [h]; simp) (by simp; omega)
  have a4 : At s (4 + (digL W).length) (digL H) := At.mk (A := [80, 53, 10] ++ digL W ++ [32]) (C := [10, 50, 53, 53, 10] ++ Q) (by rw [h]; simp) (by simp; omega)
  have a5 : At s (4 + (digL W).length + (digL H).length) [10] := At.mk (A := [80, 53, 10] ++ digL W ++ [32] ++ digL H) (C := [50, 53, 53, 10] ++ Q) (by rw [h]; simp) (by simp; omega)
  have a6 : At s (5 + (digL W).length + (digL H).length) [50, 53, 53] := At.mk (A := [80, 53, 10] ++ digL W ++ [32] ++ digL H ++ [10]) (C := [10] ++ Q) (by rw [h]; simp) (by simp; omega)
  have a7 : At s (8 + (digL W).length + (digL H).length) [10] := At.mk (A := [80, 53, 10] ++ digL W ++ [32] ++ digL H ++ [10, 50, 53, 53]) (C := Q) (by rw [h]; simp) (by simp; omega)
  have g1 : Num.gapV s 2 = some 3 := by unfold Num.gapV; rw [a1.sp (by decide)]; rw [ew] at a2; exact a2.stop cw1 cw2
  have s1 : Num.sideV s 3 = some (W, 3 + (digL W).length) := At.side w1 w2 a2 (by rw [a3.byt.2]; decide)
  have g2 : Num.gapV s (3 + (digL W).length) = some (4 + (digL W).length) := by
    unfold Num.gapV; rw [a3.sp (by decide), Option.bind_some, show 3 + (digL W).length + 1 = 4 + (digL W).length by omega]; rw [eh] at a4; exact a4.stop ch1 ch2
  have s2 : Num.sideV s (4 + (digL W).length) = some (H, 4 + (digL W).length + (digL H).length) := At.side h1 h2 a4 (by rw [a5.byt.2]; decide)
  have g3 : Num.gapV s (4 + (digL W).length + (digL H).length) = some (5 + (digL W).length + (digL H).length) := by
    unfold Num.gapV; rw [a5.sp (by decide), Option.bind_some, show 4 + (digL W).length + (digL H).length + 1 = 5 + (digL W).length + (digL H).length by omega]; exact a6.stop (by decide) (by decide)
  have k1 : Num.wordV s [50, 53, 53] (5 + (digL W).length + (digL H).length) = some (8 + (digL W).length + (digL H).length) := by rw [a6.word]; congr 1; simp; omega
  have k2 : Num.spV s (8 + (digL W).length + (digL H).length) = some (9 + (digL W).length + (digL H).length) := by rw [a7.sp (by decide)]; congr 1; omega
  rw [dec_of hs (a0.word) g1 s1 g2 s2 g3 k1 k2, show s.size - (9 + (digL W).length + (digL H).length) = Q.length by omega]
theorem sp_not {c : UInt8} (h : Num.isSp c.toNat = true) : Num.isDg c.toNat = false := by simp [Num.isSp] at h; simp [Num.isDg]; omega
/-- The same picture with remarks and other spaces. -/
theorem dec_other {s : ByteArray} {W H : Nat} {a b : UInt8} {Q : List UInt8} (w1 : 1 ≤ W) (w2 : W ≤ 64) (h1 : 1 ≤ H) (h2 : H ≤ 64) (hs : s.size ≤ 8192) (ha : Num.isSp a.toNat = true) (hb : Num.isSp b.toNat = true)
    (h : s.toList = [80, 53] ++ [a] ++ [35] ++ digL W ++ [10] ++ digL W ++ [b] ++ [a] ++ digL H ++ [a] ++ [35, 35, 10, 35, 50, 53, 53, 10, 50, 53, 53] ++ [b] ++ Q) : Num.decV s = if Q.length = W * H then some (W, H, 20 + 2 * (digL W).length + (digL H).length) else none := by
  have hl : s.size = 20 + 2 * (digL W).length + (digL H).length + Q.length := by
    have e : s.toList.length = s.size := by rw [ByteArray.toList_eq]; simp
    rw [← e, h]; simp; omega
  obtain ⟨cw, lw, ew, cw1, cw2⟩ := digL_first w1 w2
  obtain ⟨ch, lh, eh, ch1, ch2⟩ := digL_first h1 h2
  obtain ⟨m, hm⟩ : ∃ m, m = (digL W).length := ⟨_, rfl⟩
  obtain ⟨n, hn⟩ : ∃ n, n = (digL H).length := ⟨_, rfl⟩
  have a0 : At s 0 [80, 53] := At.mk (A := []) (C := [a] ++ [35] ++ digL W ++ [10] ++ digL W ++ [b] ++ [a] ++ digL H ++ [a] ++ [35, 35, 10, 35, 50, 53, 53, 10, 50, 53, 53] ++ [b] ++ Q) (by rw [h]; simp) rfl
  have a1 : At s 2 [a] := At.mk (A := [80, 53]) (C := [35] ++ digL W ++ [10] ++ digL W ++ [b] ++ [a] ++ digL H ++ [a] ++ [35, 35, 10, 35, 50, 53, 53, 10, 50, 53, 53] ++ [b] ++ Q) (by rw [h]; simp) rfl
  have a2 : At s 3 (35 :: (digL W ++ [10])) := At.mk (A := [80, 53] ++ [a]) (C := digL W ++ [b] ++ [a] ++ digL H ++ [a] ++ [35, 35, 10, 35, 50, 53, 53, 10, 50, 53, 53] ++ [b] ++ Q) (by rw [h]; simp) rfl
  have a3 : At s (5 + m) (digL W) := At.mk (A := [80, 53] ++ [a] ++ [35] ++ digL W ++ [10]) (C := [b] ++ [a] ++ digL H ++ [a] ++ [35, 35, 10, 35, 50, 53, 53, 10, 50, 53, 53] ++ [b] ++ Q) (by rw [h]; simp) (by simp; omega)
  have a4 : At s (5 + 2 * m) [b] := At.mk (A := [80, 53] ++ [a] ++ [35] ++ digL W ++ [10] ++ digL W) (C := [a] ++ digL H ++ [a] ++ [35, 35, 10, 35, 50, 53, 53, 10, 50, 53, 53] ++ [b] ++ Q) (by rw [h]; simp) (by simp; omega)
  have a5 : At s (6 + 2 * m) [a] := At.mk (A := [80, 53] ++ [a] ++ [35] ++ digL W ++ [10] ++ digL W ++ [b]) (C := digL H ++ [a] ++ [35, 35, 10, 35, 50, 53, 53, 10, 50, 53, 53] ++ [b] ++ Q) (by rw [h]; simp) (by simp; omega)
  have a6 : At s (7 + 2 * m) (digL H) := At.mk (A := [80, 53] ++ [a] ++ [35] ++ digL W ++ [10] ++ digL W ++ [b] ++ [a]) (C := [a] ++ [35, 35, 10, 35, 50, 53, 53, 10, 50, 53, 53] ++ [b] ++ Q) (by rw [h]; simp) (by simp; omega)
  have a7 : At s (7 + 2 * m + n) [a] := At.mk (A := [80, 53] ++ [a] ++ [35] ++ digL W ++ [10] ++ digL W ++ [b] ++ [a] ++ digL H) (C := [35, 35, 10, 35, 50, 53, 53, 10, 50, 53, 53] ++ [b] ++ Q) (by rw [h]; simp) (by simp; omega)
  have a8 : At s (8 + 2 * m + n) (35 :: ([35] ++ [10])) := At.mk (A := [80, 53] ++ [a] ++ [35] ++ digL W ++ [10] ++ digL W ++ [b] ++ [a] ++ digL H ++ [a]) (C := [35, 50, 53, 53, 10, 50, 53, 53] ++ [b] ++ Q) (by rw [h]; simp) (by simp; omega)
  have a9 : At s (11 + 2 * m + n) (35 :: ([50, 53, 53] ++ [10])) := At.mk (A := [80, 53] ++ [a] ++ [35] ++ digL W ++ [10] ++ digL W ++ [b] ++ [a] ++ digL H ++ [a] ++ [35, 35, 10]) (C := [50, 53, 53] ++ [b] ++ Q) (by rw [h]; simp) (by simp; omega)
  have b1 : At s (16 + 2 * m + n) [50, 53, 53] := At.mk (A := [80, 53] ++ [a] ++ [35] ++ digL W ++ [10] ++ digL W ++ [b] ++ [a] ++ digL H ++ [a] ++ [35, 35, 10, 35, 50, 53, 53, 10]) (C := [b] ++ Q) (by rw [h]; simp) (by simp; omega)
  have b2 : At s (19 + 2 * m + n) [b] := At.mk (A := [80, 53] ++ [a] ++ [35] ++ digL W ++ [10] ++ digL W ++ [b] ++ [a] ++ digL H ++ [a] ++ [35, 35, 10, 35, 50, 53, 53, 10, 50, 53, 53]) (C := Q) h (by simp; omega)
  have g1 : Num.gapV s 2 = some (5 + m) := by
    unfold Num.gapV
    rw [a1.sp ha, Option.bind_some, At.remark (fun c hc => by have := digL_dg w2 c hc; omega) a2, show 2 + 1 + (digL W).length + 2 = 5 + m by omega]
    rw [ew] at a3; exact a3.stop cw1 cw2
  have s1 : Num.sideV s (5 + m) = some (W, 5 + 2 * m) := by
    have := At.side w1 w2 a3 (by rw [show 5 + m + (digL W).length = 5 + 2 * m by omega, a4.byt.2]; exact sp_not hb)
    rw [this, show 5 + m + (digL W).length = 5 + 2 * m by omega]
  have g2 : Num.gapV s (5 + 2 * m) = some (7 + 2 * m) := by
    unfold Num.gapV
    rw [a4.sp hb, Option.bind_some, show 5 + 2 * m + 1 = 6 + 2 * m by omega, a5.skip ha, show 6 + 2 * m + 1 = 7 + 2 * m by omega]
    rw [eh] at a6; exact a6.stop ch1 ch2
  have s2 : Num.sideV s (7 + 2 * m) = some (H, 7 + 2 * m + n) := by
    have := At.side h1 h2 a6 (by rw [← hn, a7.byt.2]; exact sp_not ha)
    rw [this, ← hn]
  have g3 : Num.gapV s (7 + 2 * m + n) = some (16 + 2 * m + n) := by
    unfold Num.gapV
    rw [a7.sp ha, Option.bind_some, show 7 + 2 * m + n + 1 = 8 + 2 * m + n by omega, At.remark (l := [35]) (by decide) a8, show 8 + 2 * m + n + [(35 : UInt8)].length + 2 = 11 + 2 * m + n by simp; omega,
      At.remark (l := [50, 53, 53]) (by decide) a9, show 11 + 2 * m + n + [(50 : UInt8), 53, 53].length + 2 = 16 + 2 * m + n by simp; omega]
    exact b1.stop (by decide) (by decide)
  have k1 : Num.wordV s [50, 53, 53] (16 + 2 * m + n) = some (19 + 2 * m + n) := by rw [b1.word]; congr 1; simp; omega
  have k2 : Num.spV s (19 + 2 * m + n) = some (20 + 2 * m + n) := by rw [b2.sp hb]; congr 1; omega
  rw [dec_of hs (a0.word) g1 s1 g2 s2 g3 k1 k2, show s.size - (20 + 2 * m + n) = Q.length by omega, ← hm, ← hn]
theorem toL_app (a b : ByteArray) : (a ++ b).toList = a.toList ++ b.toList := by
  rw [ByteArray.toList_eq, ByteArray.toList_eq, ByteArray.toList_eq, ByteArray.data_append, Array.toList_append]
theorem toL_mk (l : List UInt8) : (ByteArray.mk l.toArray).toList = l := ByteArray.toList_mk _
theorem size_toL (s : ByteArray) : s.size = s.toList.length := by rw [ByteArray.toList_eq]; simp
end Go.Proofs.YtkhcjkmifddlbabDoor
