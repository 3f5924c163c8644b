/- Joined: CvRE, CvRF, CvC, CvP, Ct, CtB. -/
import Derived.Test.YtkhcjkmifddlbabPart4
import Derived.Deep.RegionHeld3
import Derived.Test.YtkhcjkmifddlbabPart1
import Derived.Deep.AppendLies
/- CvRE -/
namespace Go.Proofs.Ytkhcjkmifddlbab
open Go.RowKit Go.Deep

theorem cellA_col (x c a b : Int) : Num.cellA x (c, a, b) = (if c < x then b else 0) + (if c = x then a else 0) := rfl

theorem owns_frozen {w : World} {base q n cap sz : Nat} {t : TypeId} {xs : List Value} (h : w.ownsRow base t sz (.slice (some ⟨q, 0, none⟩) n cap) n xs) (i : Nat) : w.frozen? ⟨q, i, none⟩ = false := by
  rcases h.2 with ⟨e, _⟩ | ⟨g, c2, cur, e, hb, hg, _⟩
  · cases e
  · injection e with e1 e2 e3
    injection e1 with e1
    injection e1 with e1
    subst e1
    simp [World.frozen?, hg]
theorem keep7 {w w' : World} {b g r sb : Nat} {x0 x1 x2 x3 x4 x5 : Value} (hb : Below w.heap.size w w') (h1 : b < w.heap.size) (h2 : sb < w.heap.size) (h3 : g < w.heap.size)
    (h : w.cell? ⟨b, 6, none⟩ = some x0 ∧ w.cell? ⟨sb, 0, none⟩ = some x1 ∧ w.cell? ⟨sb, 1, none⟩ = some x2 ∧ w.cell? ⟨sb, 2, none⟩ = some x3 ∧ w.cell? ⟨sb, 3, none⟩ = some x4 ∧ w.cell? ⟨g, r, none⟩ = some x5 ∧ w.frozen? ⟨g, r, none⟩ = false) :
    w'.cell? ⟨b, 6, none⟩ = some x0 ∧ w'.cell? ⟨sb, 0, none⟩ = some x1 ∧ w'.cell? ⟨sb, 1, none⟩ = some x2 ∧ w'.cell? ⟨sb, 2, none⟩ = some x3 ∧ w'.cell? ⟨sb, 3, none⟩ = some x4 ∧ w'.cell? ⟨g, r, none⟩ = some x5 ∧ w'.frozen? ⟨g, r, none⟩ = false :=
  ⟨(hb.cell (p := ⟨b, _, none⟩) h1).trans h.1, (hb.cell (p := ⟨sb, _, none⟩) h2).trans h.2.1, (hb.cell (p := ⟨sb, _, none⟩) h2).trans h.2.2.1, (hb.cell (p := ⟨sb, _, none⟩) h2).trans h.2.2.2.1, (hb.cell (p := ⟨sb, _, none⟩) h2).trans h.2.2.2.2.1, (hb.cell (p := ⟨g, _, none⟩) h3).trans h.2.2.2.2.2.1, (hb.frozen (p := ⟨g, _, none⟩) h3).trans h.2.2.2.2.2.2⟩
theorem keep5 {w : World} {b g r sb : Nat} {v x0 x1 x2 x3 x4 : Value} (h1 : b ≠ g) (h2 : sb ≠ g)
    (h : w.cell? ⟨b, 6, none⟩ = some x0 ∧ w.cell? ⟨sb, 0, none⟩ = some x1 ∧ w.cell? ⟨sb, 1, none⟩ = some x2 ∧ w.cell? ⟨sb, 2, none⟩ = some x3 ∧ w.cell? ⟨sb, 3, none⟩ = some x4) :
    (w.setCell ⟨g, r, none⟩ v).cell? ⟨b, 6, none⟩ = some x0 ∧ (w.setCell ⟨g, r, none⟩ v).cell? ⟨sb, 0, none⟩ = some x1 ∧ (w.setCell ⟨g, r, none⟩ v).cell? ⟨sb, 1, none⟩ = some x2 ∧ (w.setCell ⟨g, r, none⟩ v).cell? ⟨sb, 2, none⟩ = some x3 ∧ (w.setCell ⟨g, r, none⟩ v).cell? ⟨sb, 3, none⟩ = some x4 := by
  have e : ∀ b' i, b' ≠ g → (w.setCell ⟨g, r, none⟩ v).cell? ⟨b', i, none⟩ = w.cell? ⟨b', i, none⟩ := fun b' i hb => World.cell?_of_block (blk_setCell_other _ _ _ _ (by simpa using hb))
  rw [e _ _ h1, e _ _ h2, e _ _ h2, e _ _ h2, e _ _ h2]
  exact h
theorem Rws.of_heap {w w' : World} {g H : Nat} {V : Nat → Value} {R : Nat → List Num.Cl} (h : Rws w g H V R) (e : w'.heap = w.heap) : Rws w' g H V R :=
  ⟨h.outer.of_block (by rw [e]), fun j hj => owns_of_block (h.inner j hj) (fun b _ => by rw [e]), h.inj, h.srt⟩

set_option maxRecDepth 100000 in
set_option maxHeartbeats 4000000 in
theorem rowsAdd_any (b g H r c : Nat) (a1 b1 B : Int) (V : Nat → Value) (R : Nat → List Num.Cl) (tt : TypeId) (f : Nat → Value) (w : World) (hr : r < H) (hc : c < 64)
    (hR : w.rowIs b tt 7 f) (f6 : f 6 = .slice (some ⟨g, 0, none⟩) H H) (hG : Rws w g H V R) (hbg : ¬ rwS g H V b) (hB : B ≤ 4611686018427387904) (hm : Num.mass (R r) ≤ B) (ha : -8192 ≤ a1 ∧ a1 ≤ 8192) (hb : -8192 ≤ b1 ∧ b1 ≤ 8192) :
    Calls Try.prog 107 #[.pointer (some ⟨b, 6, none⟩), .agg #[.int .i64 r, .int .i64 c, .int .i64 a1, .int .i64 b1]] w fun e w' => e = .returned (.tuple #[]) ∧ Touch (rwS g H V) w w' ∧
      ∃ V' R', Rws w' g H V' R' ∧ (∀ j, j ≠ r → R' j = R j) ∧ (∀ x, Num.rowA x (R' r) = Num.rowA x (R r) + Num.cellA x ((c : Int), a1, b1)) ∧ Num.mass (R' r) ≤ Num.mass (R r) + (Num.sz a1 + Num.sz b1) ∧ ∀ q, rwS g H V' q → rwS g H V q ∨ w.heap.size ≤ q := by
  have hl := Num.srt_le (hG.srt r hr)
  have HG := hide hG
  obtain ⟨ao, cap0, hvr, hao⟩ := owns_formN (hG.inner r hr)
  have HAo := hide hao
  have HVr := hide hvr
  have HS := hide (sh4_row r c a1 b1 w 167)
  have HR := hide (hR.alloc (.cells #[.int .i64 (r : Int), .int .i64 (c : Int), .int .i64 a1, .int .i64 b1] 167))
  have hTo : Hid (Touch (rwS g H V) w (w.alloc (.cells #[.int .i64 (r : Int), .int .i64 (c : Int), .int .i64 a1, .int .i64 b1] 167))) := (Touch.refl _ _).alloc _
  have HG1 : Hid (Rws (w.alloc (.cells #[.int .i64 (r : Int), .int .i64 (c : Int), .int .i64 a1, .int .i64 b1] 167)) g H V R) := hG.touch (S := fun _ => False) ((Touch.refl _ _).alloc _) (fun _ _ e => e)
  have hgs : g < w.heap.size := hG.outer.lt
  have hbs : b < w.heap.size := hR.lt
  have HRl : Hid (∀ q, rwS g H V q → q < w.heap.size) := fun q hq => hG.lt hq
  obtain ⟨l, hlR⟩ : ∃ l, l = R r := ⟨_, rfl⟩
  rw [← hlR] at hl hm HVr HAo
  have HlR := hide hlR
  obtain ⟨n, hn⟩ : ∃ n, n = l.length := ⟨_, rfl⟩
  rw [← hn] at hl HVr HAo
  have HN := hide hn
  have HM := hide hm
  have HBG := hide hbg
  clear hR hG hao hvr hlR hn hm hbg
  have j0 : (0 : Int) ≤ (r : Int) := by omega
  have j1 : (r : Int) < (H : Int) := by omega
  have jd : decide ((H : Int) ≤ (r : Int)) = false := by simp; omega
  have jd0 : decide ((r : Int) < 0) = false := by simp
  go_enter Try.func107, Try.ntmps107
  go_wp2_with fail
  obtain ⟨sb, hsb⟩ : ∃ sb, sb = w.heap.size := ⟨_, rfl⟩
  obtain ⟨W1, hW1⟩ : ∃ W1, W1 = w.alloc (.cells #[.int .i64 (r : Int), .int .i64 (c : Int), .int .i64 a1, .int .i64 b1] 167) := ⟨_, rfl⟩
  have hs1 : W1.heap.size = sb + 1 := by rw [hW1, hsb]; simp
  rw [← hsb] at HS hgs hbs HRl
  rw [← hW1] at HS HR hTo HG1
  rw [← hW1, ← hsb]
  have HSw : Hid (sb = w.heap.size) := hsb
  clear hW1 hsb
  have s0 := HS.out.cell (i := 0) (by omega)
  have s1 := HS.out.cell (i := 1) (by omega)
  have k6 := HR.out.cell (i := 6) (by omega)
  rw [f6] at k6
  have kr := HG1.out.outer.cell (i := r) hr
  rw [HVr.out] at kr
  change W1.cell? ⟨sb, 0, none⟩ = some (.int .i64 (r : Int)) at s0
  change W1.cell? ⟨sb, 1, none⟩ = some (.int .i64 (c : Int)) at s1
  go_quiet (fail)
  go_wp2_with fail
  go_quiet (fail)
  go_wp2_with fail
  go_loopw [5] (fun t wr => ∃ k : Nat, k ≤ n ∧ t = .int .i64 k ∧ Touch (fun _ => False) W1 wr ∧ ∀ i (hi : i < l.length), i < k → l[i].1 < (c : Int)) (fun t _ => n - (intOf t).toNat)
  case atStart => exact ⟨0, by omega, rfl, ((Touch.refl _ _).drewN _).drewN _, fun i _ h => by omega⟩
  case round =>
    obtain ⟨k, hk, rfl, hto, hall⟩ := hrel
    have HAl := hide hall
    have hGr := HG1.out.touch hto (fun _ _ e => e)
    have hSr := hto.row HS.out (fun e => e)
    have hRr := hto.row HR.out (fun e => e)
    have hOr := hGr.inner r hr
    rw [← HlR.out, HVr.out] at hOr
    have c0 := hSr.cell (i := 0) (by omega)
    have c1 := hSr.cell (i := 1) (by omega)
    have c2 := hSr.cell (i := 2) (by omega)
    have c3 := hSr.cell (i := 3) (by omega)
    change wr.cell? ⟨sb, 0, none⟩ = some (.int .i64 (r : Int)) at c0
    change wr.cell? ⟨sb, 1, none⟩ = some (.int .i64 (c : Int)) at c1
    change wr.cell? ⟨sb, 2, none⟩ = some (.int .i64 a1) at c2
    change wr.cell? ⟨sb, 3, none⟩ = some (.int .i64 b1) at c3
    have k6 := hRr.cell (i := 6) (by omega)
    rw [f6] at k6
    have kr := hGr.outer.cell (i := r) hr
    rw [HVr.out] at kr
    have hsz := hto.size
    have hTw := hide (hTo.out.trans' hto (fun _ e => e.elim))
    have HGr := hide hGr
    have hgw : g < wr.heap.size := by omega
    have hbw : b < wr.heap.size := by omega
    have hsw : sb < wr.heap.size := by omega
    by_cases hlt : k < n
    · have hkl : k < l.length := by rw [← HN.out]; exact hlt
      obtain ⟨q, rfl⟩ := HAo.out (by omega)
      rw [HN.out] at hOr
      obtain ⟨d0, d1, d2⟩ := owns_cl hOr k hkl
      have hqw : q < wr.heap.size := (hOr.lt q rfl).2
      have hd1 : decide ((k : Int) < (n : Int)) = true := by simp; omega
      have i0' : (0 : Int) ≤ (k : Int) := by omega
      have i1' : (k : Int) < (n : Int) := by omega
      obtain ⟨p, hp⟩ : ∃ p, p = l[k] := ⟨_, rfl⟩
      rw [← hp] at d0 d1 d2
      have HP := hide hp
      by_cases hcl : p.1 < (c : Int)
      · have HAl2 : Hid (∀ i (hi : i < l.length), i < k + 1 → l[i].1 < (c : Int)) := fun i hi hik => by
          rcases (show i < k ∨ i = k by omega) with h | h
          · exact HAl.out i hi h
          · subst h; rw [← HP.out]; exact hcl
        have HTo := hide hto
        clear hGr hSr hRr hOr hto hall hp
        go_wp2_with fail
        go_quiet (fail)
        go_wp2
        go_roundw
        case rel => exact ⟨k + 1, by omega, by go_num, HTo.out.drewN _, HAl2.out⟩
        case measure => simp [intOf]; omega
      · have hcd : decide (p.1 < (c : Int)) = false := by simp; omega
        have mm := Num.mass_mem (l := l) (c := p) (by rw [hp]; exact List.getElem_mem hkl)
        have mb := HM.out
        have z1 := Num.sz_ge p.2.1
        have z2 := Num.sz_ge p.2.2
        have y1 := Num.sz_nn p.2.1
        have y2 := Num.sz_nn p.2.2
        by_cases hce : p.1 = (c : Int)
        · have wa1 : IntKind.i64.wrap (p.2.1 + a1) = p.2.1 + a1 := wrap_ok _ (by omega) (by omega)
          have wb1 : IntKind.i64.wrap (p.2.2 + b1) = p.2.2 + b1 := wrap_ok _ (by omega) (by omega)
          have fz1 : wr.frozen? ⟨q, k * 3 + 1, none⟩ = false := owns_frozen hOr _
          have fz2 : wr.frozen? ⟨q, k * 3 + 2, none⟩ = false := owns_frozen hOr _
          have hcq : (p.1 == (c : Int)) = true := by simp; exact hce
          have hqV : (V r).ownBlock = some q := by rw [HVr.out]; rfl
          have hqg : q ≠ g := HG1.out.ne hr hqV
          have hqb : q ≠ b := fun e => HBG.out (.inr ⟨r, hr, by rw [hqV, e]⟩)
          have hqs : q ≠ sb := fun e => by have := HRl.out q (.inr ⟨r, hr, hqV⟩); omega
          have HMo : Hid (Rws ((wr.setCell ⟨q, k * 3 + 1, none⟩ (.int .i64 (p.2.1 + a1))).setCell ⟨q, k * 3 + 2, none⟩ (.int .i64 (p.2.2 + b1))) g H V (fun j => if j = r then Num.setC (R r) k ((c : Int), a1, b1) else R j)) := by
            have hk2 : k < (R r).length := by rw [← HlR.out]; exact hkl
            have hpR : p = (R r)[k] := by rw [HP.out]; simp [HlR.out]
            have h := HGr.out.more (s := ((c : Int), a1, b1)) hr hk2 (by rw [HVr.out, HN.out, HlR.out]) (by rw [← hpR]; exact hce)
            rw [← hpR] at h
            exact h
          have HFin : Hid ((∀ x, Num.rowA x (Num.setC l k ((c : Int), a1, b1)) = Num.rowA x l + Num.cellA x ((c : Int), a1, b1)) ∧ Num.mass (Num.setC l k ((c : Int), a1, b1)) ≤ Num.mass l + (Num.sz a1 + Num.sz b1)) :=
            ⟨fun x => Num.rowA_set x hkl (by rw [← HP.out]; exact hce), Num.mass_set hkl⟩
          have HqV := hide hqV
          clear hGr hSr hRr hOr hto hall hp mm mb y1 y2 hqV
          go_wp2_with fail
          go_quiet (fail)
          go_wp2_with fail
          go_quiet (fail)
          go_wp2_with fail
          go_region
          all_goals go_wp2_with fail
          all_goals go_region
          all_goals go_wp2
          all_goals
            refine bodyPost_ret (results_none rfl _ _ _) rfl ⟨rfl, ?_, V, _, HMo.out.of_heap rfl, fun j hj => if_neg hj, fun x => ?_, ?_, fun q h => .inl h⟩
            · exact (((hTw.out.drewN _).setCell (.inl (.inr ⟨r, hr, HqV.out⟩)) _).setCell (.inl (.inr ⟨r, hr, HqV.out⟩)) _).drew
            · simp only [if_true]; rw [← HlR.out]; exact HFin.out.1 x
            · simp only [if_true]; rw [← HlR.out]; exact HFin.out.2
        · have hcq : (p.1 == (c : Int)) = false := by simp; exact hce
          have HIn : Hid (∀ w' : World, w'.heap = wr.heap → w'.ownsRow 0 143 3 (.slice (some ⟨q, 0, none⟩) n cap0) l.length (l.flatMap clC)) := fun w' e => by
            rw [HN.out]
            exact owns_of_block hOr (fun b _ => by rw [e])
          have hk3 : k ≤ l.length := by rw [← HN.out]; omega
          have hl3 : l.length ≤ 4096 := by rw [← HN.out]; omega
          have HCall := hide (fun nd => inserted_any (.slice (some ⟨q, 0, none⟩) n cap0) 0 k l (c : Int) a1 b1 (wr.drewN nd) hl3 hk3 (HIn.out _ rfl))
          have fzg := hGr.outer.frozen r
          have HSn : Hid (Num.Srt 0 (Num.insC l k ((c : Int), a1, b1))) := by
            have h := HGr.out.srt r hr
            rw [← HlR.out] at h
            exact Num.srt_ins l 0 k _ h hk3 (fun i hi hik => HAl.out i hi hik) (fun h => by rw [← HP.out]; omega) (by show (0 : Int) ≤ (c : Int); omega) (by show (c : Int) < 64; omega)
          have HK := hide (And.intro k6 (And.intro c0 (And.intro c1 (And.intro c2 (And.intro c3 (And.intro kr fzg))))))
          have HKa := hide (And.intro k6 (And.intro c0 (And.intro c1 (And.intro c2 c3))))
          have hbg2 : b ≠ g := fun e => HBG.out (.inl e)
          have hsg2 : sb ≠ g := by omega
          clear hGr hSr hRr hOr hto hall hp mm mb y1 y2
          go_wp2_with fail
          go_quiet (fail)
          go_wp2_with fail
          go_quiet (fail)
          go_wp2_with fail
          go_region_held3 (fun w' => w'.cell? ⟨b, 6, none⟩ = some (.slice (some ⟨g, 0, none⟩) H H) ∧ w'.cell? ⟨sb, 0, none⟩ = some (.int .i64 (r : Int)) ∧ w'.cell? ⟨sb, 1, none⟩ = some (.int .i64 (c : Int)) ∧ w'.cell? ⟨sb, 2, none⟩ = some (.int .i64 a1) ∧ w'.cell? ⟨sb, 3, none⟩ = some (.int .i64 b1)) (first | exact HKa.out | exact HK2a | exact keep5 hbg2 hsg2 HK2a) ((go_at_call 116; refine (HCall.out _).mono ?_; rintro e w2 ⟨v2, rfl, hb2, hown2⟩; have hb3 : Below wr.heap.size wr w2 := ⟨hb2.os, hb2.tape, hb2.output, hb2.size, hb2.block⟩; have HK2 := keep7 hb3 hbw hsw hgw HK.out; have HK2a := And.intro HK2.1 (And.intro HK2.2.1 (And.intro HK2.2.2.1 (And.intro HK2.2.2.2.1 HK2.2.2.2.2.1))); have kg2 := HK2.2.2.2.2.2.1; have fg2 := HK2.2.2.2.2.2.2; obtain ⟨ao2, cap2, hv2, _⟩ := owns_formN hown2; subst hv2))
          have HFin : Hid ((∀ x, Num.rowA x (Num.insC l k ((c : Int), a1, b1)) = Num.rowA x l + Num.cellA x ((c : Int), a1, b1)) ∧ Num.mass (Num.insC l k ((c : Int), a1, b1)) ≤ Num.mass l + (Num.sz a1 + Num.sz b1)) :=
            ⟨fun x => Num.rowA_ins x l k _, by rw [Num.mass_ins]; exact Int.le_refl _⟩
          have HPut := hide (HGr.out.put (r := r) hb3 hown2 (Nat.le_refl _) HSn.out)
          have hs2 := hb3.size
          have HT2 : Hid (Touch (rwS g H V) w (w2.setCell ⟨g, r, none⟩ (.slice ao2 (Num.insC l k ((c : Int), a1, b1)).length cap2))) := (hTw.out.of_below hb3).setCell (.inl (.inl rfl)) _
          have HNew : Hid (∀ q, rwS g H (fun j => if j = r then .slice ao2 (Num.insC l k ((c : Int), a1, b1)).length cap2 else V j) q → rwS g H V q ∨ w.heap.size ≤ q) := by
            rintro q (h | ⟨j, hj, h⟩)
            · exact .inl (.inl h)
            · by_cases e : j = r
              · simp only [if_pos e] at h
                right
                have := (hown2.lt q h).1
                have := HSw.out
                have h9 : wr.heap.size ≤ q := (hown2.lt q h).1
                omega
              · simp only [if_neg e] at h
                exact .inl (.inr ⟨j, hj, h⟩)
          clear hb2 hb3 hown2 HK2 HK2a kg2 fg2
          go_wp2
          go_end0
          refine ⟨rfl, HT2.out, _, _, HPut.out, fun j hj => if_neg hj, fun x => ?_, ?_, HNew.out⟩
          · simp only [if_true]; rw [← HlR.out]; exact HFin.out.1 x
          · simp only [if_true]; rw [← HlR.out]; exact HFin.out.2
    · have hd1 : decide ((k : Int) < (n : Int)) = false := by simp; omega
      have HIn : Hid (∀ w' : World, w'.heap = wr.heap → w'.ownsRow 0 143 3 (.slice ao n cap0) l.length (l.flatMap clC)) := fun w' e => by
        rw [← HN.out]
        rw [← HN.out] at hOr
        exact owns_of_block hOr (fun b _ => by rw [e])
      have hk3 : k ≤ l.length := by rw [← HN.out]; omega
      have hl3 : l.length ≤ 4096 := by rw [← HN.out]; omega
      have HCall := hide (fun nd => inserted_any (.slice ao n cap0) 0 k l (c : Int) a1 b1 (wr.drewN nd) hl3 hk3 (HIn.out _ rfl))
      have fzg := hGr.outer.frozen r
      have HSn : Hid (Num.Srt 0 (Num.insC l k ((c : Int), a1, b1))) := by
        have h := HGr.out.srt r hr
        rw [← HlR.out] at h
        exact Num.srt_ins l 0 k _ h hk3 (fun i hi hik => HAl.out i hi hik) (fun h => absurd h (by rw [← HN.out]; omega)) (by show (0 : Int) ≤ (c : Int); omega) (by show (c : Int) < 64; omega)
      have HK := hide (And.intro k6 (And.intro c0 (And.intro c1 (And.intro c2 (And.intro c3 (And.intro kr fzg))))))
      have HKa := hide (And.intro k6 (And.intro c0 (And.intro c1 (And.intro c2 c3))))
      have hbg2 : b ≠ g := fun e => HBG.out (.inl e)
      have hsg2 : sb ≠ g := by omega
      clear hGr hSr hRr hOr hto hall
      go_wp2_with fail
      go_quiet (fail)
      go_wp2_with fail
      go_quiet (fail)
      go_wp2_with fail
      go_region_held3 (fun w' => w'.cell? ⟨b, 6, none⟩ = some (.slice (some ⟨g, 0, none⟩) H H) ∧ w'.cell? ⟨sb, 0, none⟩ = some (.int .i64 (r : Int)) ∧ w'.cell? ⟨sb, 1, none⟩ = some (.int .i64 (c : Int)) ∧ w'.cell? ⟨sb, 2, none⟩ = some (.int .i64 a1) ∧ w'.cell? ⟨sb, 3, none⟩ = some (.int .i64 b1)) (first | exact HKa.out | exact HK2a | exact keep5 hbg2 hsg2 HK2a) ((go_at_call 116; refine (HCall.out _).mono ?_; rintro e w2 ⟨v2, rfl, hb2, hown2⟩; have hb3 : Below wr.heap.size wr w2 := ⟨hb2.os, hb2.tape, hb2.output, hb2.size, hb2.block⟩; have HK2 := keep7 hb3 hbw hsw hgw HK.out; have HK2a := And.intro HK2.1 (And.intro HK2.2.1 (And.intro HK2.2.2.1 (And.intro HK2.2.2.2.1 HK2.2.2.2.2.1))); have kg2 := HK2.2.2.2.2.2.1; have fg2 := HK2.2.2.2.2.2.2; obtain ⟨ao2, cap2, hv2, _⟩ := owns_formN hown2; subst hv2))
      have HFin : Hid ((∀ x, Num.rowA x (Num.insC l k ((c : Int), a1, b1)) = Num.rowA x l + Num.cellA x ((c : Int), a1, b1)) ∧ Num.mass (Num.insC l k ((c : Int), a1, b1)) ≤ Num.mass l + (Num.sz a1 + Num.sz b1)) :=
        ⟨fun x => Num.rowA_ins x l k _, by rw [Num.mass_ins]; exact Int.le_refl _⟩
      have HPut := hide (HGr.out.put (r := r) hb3 hown2 (Nat.le_refl _) HSn.out)
      have hs2 := hb3.size
      have HT2 : Hid (Touch (rwS g H V) w (w2.setCell ⟨g, r, none⟩ (.slice ao2 (Num.insC l k ((c : Int), a1, b1)).length cap2))) := (hTw.out.of_below hb3).setCell (.inl (.inl rfl)) _
      have HNew : Hid (∀ q, rwS g H (fun j => if j = r then .slice ao2 (Num.insC l k ((c : Int), a1, b1)).length cap2 else V j) q → rwS g H V q ∨ w.heap.size ≤ q) := by
        rintro q (h | ⟨j, hj, h⟩)
        · exact .inl (.inl h)
        · by_cases e : j = r
          · simp only [if_pos e] at h
            right
            have := (hown2.lt q h).1
            have := HSw.out
            have h9 : wr.heap.size ≤ q := (hown2.lt q h).1
            omega
          · simp only [if_neg e] at h
            exact .inl (.inr ⟨j, hj, h⟩)
      clear hb2 hb3 hown2 HK2 HK2a kg2 fg2
      go_wp2
      go_end0
      refine ⟨rfl, HT2.out, _, _, HPut.out, fun j hj => if_neg hj, fun x => ?_, ?_, HNew.out⟩
      · simp only [if_true]; rw [← HlR.out]; exact HFin.out.1 x
      · simp only [if_true]; rw [← HlR.out]; exact HFin.out.2
end Go.Proofs.Ytkhcjkmifddlbab

/- CvRF -/
namespace Go.Proofs.Ytkhcjkmifddlbab
open Go.RowKit Go.Deep

theorem keepT {w w' : World} {b g r : Nat} {x0 x5 : Value} (hb : Below w.heap.size w w') (h1 : b < w.heap.size) (h3 : g < w.heap.size)
    (h : w.cell? ⟨b, 6, none⟩ = some x0 ∧ w.cell? ⟨g, r, none⟩ = some x5 ∧ w.frozen? ⟨g, r, none⟩ = false) :
    w'.cell? ⟨b, 6, none⟩ = some x0 ∧ w'.cell? ⟨g, r, none⟩ = some x5 ∧ w'.frozen? ⟨g, r, none⟩ = false :=
  ⟨(hb.cell (p := ⟨b, _, none⟩) h1).trans h.1, (hb.cell (p := ⟨g, _, none⟩) h3).trans h.2.1, (hb.frozen (p := ⟨g, _, none⟩) h3).trans h.2.2⟩
theorem keepS {w : World} {b g r : Nat} {v x0 : Value} (h1 : b ≠ g) (h : w.cell? ⟨b, 6, none⟩ = some x0) : (w.setCell ⟨g, r, none⟩ v).cell? ⟨b, 6, none⟩ = some x0 := by
  rw [World.cell?_of_block (blk_setCell_other _ _ _ _ (by simpa using h1))]; exact h
theorem Rws.congr {w : World} {g H : Nat} {V : Nat → Value} {R R' : Nat → List Num.Cl} (h : Rws w g H V R) (e : ∀ j, j < H → R' j = R j) : Rws w g H V R' :=
  ⟨h.outer, fun j hj => by rw [e j hj]; exact h.inner j hj, h.inj, fun j hj => by rw [e j hj]; exact h.srt j hj⟩

set_option maxRecDepth 100000 in
set_option maxHeartbeats 4000000 in
theorem tidy_any (b g H : Nat) (V : Nat → Value) (R : Nat → List Num.Cl) (tt : TypeId) (f : Nat → Value) (w : World) (hH : H ≤ 64)
    (hR : w.rowIs b tt 7 f) (f6 : f 6 = .slice (some ⟨g, 0, none⟩) H H) (hG : Rws w g H V R) (hbg : ¬ rwS g H V b) :
    Calls Try.prog 70 #[.pointer (some ⟨b, 6, none⟩)] w fun e w' => e = .returned (.tuple #[]) ∧ Touch (rwS g H V) w w' ∧
      ∃ V', Rws w' g H V' (fun j => (R j).filter Num.fullB) ∧ ∀ q, rwS g H V' q → rwS g H V q ∨ w.heap.size ≤ q := by
  have hbs : b < w.heap.size := hR.lt
  have k6 := hR.cell (i := 6) (by omega)
  rw [f6] at k6
  have HR := hide hR
  have HG := hide hG
  have HBG := hide hbg
  clear hR hG hbg
  go_enter Try.func70, Try.ntmps70
  go_wp2_with fail
  go_loopw [9] (fun t wr => ∃ (k : Nat) (V' : Nat → Value), k ≤ H ∧ t = .int .i64 k ∧ Touch (rwS g H V) w wr ∧ Rws wr g H V' (fun j => if j < k then (R j).filter Num.fullB else R j) ∧ ∀ q, rwS g H V' q → rwS g H V q ∨ w.heap.size ≤ q) (fun t _ => H - (intOf t).toNat)
  case atStart => exact ⟨0, V, by omega, rfl, Touch.refl _ _, HG.out.congr (fun j _ => by simp), fun q h => .inl h⟩
  case round =>
    obtain ⟨k, V', hk, rfl, hto, hrw, hnew⟩ := hrel
    have hsz := hto.size
    by_cases hlt : k < H
    · have hRr := hto.row HR.out HBG.out
      have k6 := hRr.cell (i := 6) (by omega)
      rw [f6] at k6
      have hin := hrw.inner k hlt
      obtain ⟨ao, cap0, hvk, _⟩ := owns_formN hin
      have kk := hrw.outer.cell (i := k) hlt
      rw [hvk] at kk hin
      rw [if_neg (Nat.lt_irrefl _)] at hin kk
      have hl4 : (R k).length ≤ 4096 := by
        have := hrw.srt k hlt
        rw [if_neg (Nat.lt_irrefl _)] at this
        have := Num.srt_le this
        omega
      have HIn : Hid (∀ w' : World, w'.heap = wr.heap → w'.ownsRow 0 143 3 (.slice ao (R k).length cap0) (R k).length ((R k).flatMap clC)) := fun w' e => owns_of_block hin (fun b _ => by rw [e])
      have HCall := hide (fun nd => filled_any (.slice ao (R k).length cap0) 0 (R k) (wr.drewN nd) hl4 (HIn.out _ rfl))
      have HCall0 := hide (filled_any (.slice ao (R k).length cap0) 0 (R k) wr.drew hl4 (HIn.out _ rfl))
      have HSn : Hid (Num.Srt 0 ((R k).filter Num.fullB)) := by
        have := hrw.srt k hlt
        rw [if_neg (Nat.lt_irrefl _)] at this
        exact Num.srt_filter _ _ _ this
      have fzg := hrw.outer.frozen k
      have hgw : g < wr.heap.size := hrw.outer.lt
      have hbw : b < wr.heap.size := by omega
      have hbg2 : b ≠ g := fun e => HBG.out (.inl e)
      have HK := hide (And.intro k6 (And.intro kk fzg))
      have HT := hide hto
      have HRw := hide hrw
      have HNw := hide hnew
      have hd1 : decide ((k : Int) < (H : Int)) = true := by simp; omega
      have i0' : (0 : Int) ≤ (k : Int) := by omega
      have i1' : (k : Int) < (H : Int) := by omega
      obtain ⟨n, hn⟩ : ∃ n, n = (R k).length := ⟨_, rfl⟩
      rw [← hn] at kk HCall HCall0
      clear hto hrw hnew hin hvk hn hRr
      go_wp2_with fail
      go_region_held3 (fun w' => w'.cell? ⟨b, 6, none⟩ = some (.slice (some ⟨g, 0, none⟩) H H)) (first | exact k6 | exact HK2.1 | exact keepS hbg2 HK2.1) ((go_at_call 83; (first | refine (HCall.out _).mono ?_ | refine HCall0.out.mono ?_); rintro e w2 ⟨v2, rfl, hb2, hown2⟩; have hb3 : Below wr.heap.size wr w2 := ⟨hb2.os, hb2.tape, hb2.output, hb2.size, hb2.block⟩; have HK2 := keepT hb3 hbw hgw HK.out; have kg2 := HK2.2.1; have fg2 := HK2.2.2; obtain ⟨ao2, cap2, hv2, _⟩ := owns_formN hown2; subst hv2))
      have hs2 := hb3.size
      have HPut : Hid (Rws (w2.setCell ⟨g, k, none⟩ (.slice ao2 ((R k).filter Num.fullB).length cap2)) g H (fun j => if j = k then .slice ao2 ((R k).filter Num.fullB).length cap2 else V' j) (fun j => if j < k + 1 then (R j).filter Num.fullB else R j)) :=
        (HRw.out.put (r := k) hb3 hown2 (Nat.le_refl _) HSn.out).congr (fun j _ => by
          by_cases e : j = k
          · subst e; rw [if_pos rfl, if_pos (by omega)]
          · rw [if_neg e]
            by_cases d : j < k
            · rw [if_pos d, if_pos (by omega)]
            · rw [if_neg d, if_neg (by omega)])
      have HT2 : Hid (Touch (rwS g H V) w (w2.setCell ⟨g, k, none⟩ (.slice ao2 ((R k).filter Num.fullB).length cap2))) := (HT.out.of_below hb3).setCell (.inl (.inl rfl)) _
      have HNew : Hid (∀ q, rwS g H (fun j => if j = k then .slice ao2 ((R k).filter Num.fullB).length cap2 else V' j) q → rwS g H V q ∨ w.heap.size ≤ q) := by
        rintro q (h | ⟨j, hj, h⟩)
        · exact .inl (.inl h)
        · by_cases e : j = k
          · simp only [if_pos e] at h
            right
            have h9 : wr.heap.size ≤ q := (hown2.lt q h).1
            omega
          · simp only [if_neg e] at h
            exact HNw.out q (.inr ⟨j, hj, h⟩)
      clear hb2 hb3 hown2 HK2 kg2 fg2
      go_wp2
      go_roundw
      case rel => exact ⟨k + 1, _, by omega, by go_num, HT2.out, HPut.out, HNew.out⟩
      case measure => simp [intOf]; omega
    · have hd0 : decide ((k : Int) < (H : Int)) = false := by simp; omega
      have HT := hide hto
      have HRw := hide (hrw.congr (R' := fun j => (R j).filter Num.fullB) (fun j hj => by rw [if_pos (by omega)]))
      have HNw := hide hnew
      clear hto hrw hnew
      go_wp2
      go_end0
      exact ⟨rfl, HT.out, V', HRw.out, HNw.out⟩

set_option maxHeartbeats 1000000 in
/-- No rows: nothing is done. -/
theorem tidyNil_any (b : Nat) (tt : TypeId) (f : Nat → Value) (w : World) (hR : w.rowIs b tt 7 f) (f6 : f 6 = .slice none 0 0) :
    Calls Try.prog 70 #[.pointer (some ⟨b, 6, none⟩)] w fun e w' => e = .returned (.tuple #[]) ∧ w' = w := by
  have k6 := hR.cell (i := 6) (by omega)
  rw [f6] at k6
  clear hR
  go_enter Try.func70, Try.ntmps70
  go_wp2_with fail
  go_loopw [9] (fun t wr => t = .int .i64 0 ∧ wr = w) (fun t _ => (intOf t).toNat)
  case atStart => exact ⟨rfl, rfl⟩
  case round =>
    obtain ⟨rfl, rfl⟩ := hrel
    go_wp2
    go_end0
    exact ⟨rfl, rfl⟩
end Go.Proofs.Ytkhcjkmifddlbab

/- CvC -/
namespace Go.Proofs.Ytkhcjkmifddlbab
open Go.RowKit Go.Deep

/-- A canvas at block b: its window, its store, how many it took, the areas; P: how many pieces at most; S: the blocks that are its own. -/
inductive Cnv (w : World) (b : Nat) (tt : TypeId) (W H tk : Nat) (A : Nat → Nat → Int) (P : Int) (S : Nat → Prop) : Int → Prop
  | tab (g : Nat) (T : Nat → Int) (hR : w.rowIs b tt 7 (cv7 W H 0 tk W (.slice (some ⟨g, 0, none⟩) (W * H) (W * H)) (.slice none 0 0))) (hT : w.rowIs g 3 (W * H) (fun k => .int .i64 (T k))) (hbg : b ≠ g)
      (hA : ∀ i j, i < W → j < H → T (j * W + i) = A i j) (hB : ∀ k, k < W * H → -(8192 * P) ≤ T k ∧ T k ≤ 8192 * P) (hSb : S b) (hSg : S g) (hlt : ∀ q, S q → q < w.heap.size) : Cnv w b tt W H tk A P S 0
  | rws (g : Nat) (V : Nat → Value) (R : Nat → List Num.Cl) (hR : w.rowIs b tt 7 (cv7 W H 1 tk 0 (.slice none 0 0) (.slice (some ⟨g, 0, none⟩) H H))) (hG : Rws w g H V R) (hbg : ¬ rwS g H V b)
      (hA : ∀ i j, i < W → j < H → Num.rowA i (R j) = A i j) (hM : ∀ j, j < H → Num.mass (R j) ≤ 16384 * P) (hSb : S b) (hSg : ∀ q, rwS g H V q → S q) (hlt : ∀ q, S q → q < w.heap.size) : Cnv w b tt W H tk A P S 1
section
variable {w w' : World} {b : Nat} {tt : TypeId} {W H tk : Nat} {A : Nat → Nat → Int} {P : Int} {S S' : Nat → Prop} {st : Int}
theorem Cnv.touch (h : Cnv w b tt W H tk A P S st) (t : Touch S' w w') (hd : ∀ q, S q → ¬ S' q) : Cnv w' b tt W H tk A P S st := by
  have hsz := t.size
  cases h with
  | tab g T hR hT hbg hA hB hSb hSg hlt => exact .tab g T (t.row hR (hd b hSb)) (t.row hT (hd g hSg)) hbg hA hB hSb hSg (fun q hq => Nat.lt_of_lt_of_le (hlt q hq) hsz)
  | rws g V R hR hG hbg hA hM hSb hSg hlt => exact .rws g V R (t.row hR (hd b hSb)) (hG.touch t (fun q hq => hd q (hSg q hq))) hbg hA hM hSb hSg (fun q hq => Nat.lt_of_lt_of_le (hlt q hq) hsz)
theorem Cnv.below (h : Cnv w b tt W H tk A P S st) (hb : Below w.heap.size w w') : Cnv w' b tt W H tk A P S st :=
  h.touch (S' := fun _ => False) ((Touch.refl _ _).of_below hb) (fun _ _ e => e)
theorem Cnv.of_heap (h : Cnv w b tt W H tk A P S st) (e : w'.heap = w.heap) : Cnv w' b tt W H tk A P S st := by
  cases h with
  | tab g T hR hT hbg hA hB hSb hSg hlt => exact .tab g T (hR.of_block (by rw [e])) (hT.of_block (by rw [e])) hbg hA hB hSb hSg (fun q hq => by rw [e]; exact hlt q hq)
  | rws g V R hR hG hbg hA hM hSb hSg hlt => exact .rws g V R (hR.of_block (by rw [e])) (hG.of_heap e) hbg hA hM hSb hSg (fun q hq => by rw [e]; exact hlt q hq)
theorem Cnv.mono {A' : Nat → Nat → Int} {P' : Int} (h : Cnv w b tt W H tk A P S st) (hA' : ∀ i j, i < W → j < H → A' i j = A i j) (hP : P ≤ P') : Cnv w b tt W H tk A' P' S st := by
  cases h with
  | tab g T hR hT hbg hA hB hSb hSg hlt => exact .tab g T hR hT hbg (fun i j hi hj => by rw [hA i j hi hj, hA' i j hi hj]) (fun k hk => by have := hB k hk; omega) hSb hSg hlt
  | rws g V R hR hG hbg hA hM hSb hSg hlt => exact .rws g V R hR hG hbg (fun i j hi hj => by rw [hA i j hi hj, hA' i j hi hj]) (fun j hj => by have := hM j hj; omega) hSb hSg hlt
theorem Cnv.lt (h : Cnv w b tt W H tk A P S st) {q : Nat} (hq : S q) : q < w.heap.size := by
  cases h with
  | tab g T hR hT hbg hA hB hSb hSg hlt => exact hlt q hq
  | rws g V R hR hG hbg hA hM hSb hSg hlt => exact hlt q hq
theorem Cnv.own (h : Cnv w b tt W H tk A P S st) : S b := by
  cases h with
  | tab g T hR hT hbg hA hB hSb hSg hlt => exact hSb
  | rws g V R hR hG hbg hA hM hSb hSg hlt => exact hSb
theorem Cnv.st01 (h : Cnv w b tt W H tk A P S st) : st = 0 ∨ st = 1 := by
  cases h with
  | tab g T hR hT hbg hA hB hSb hSg hlt => exact .inl rfl
  | rws g V R hR hG hbg hA hM hSb hSg hlt => exact .inr rfl
/-- What every canvas has in its cells. -/
theorem Cnv.cells (h : Cnv w b tt W H tk A P S st) : w.cell? ⟨b, 0, none⟩ = some (.int .i64 W) ∧ w.cell? ⟨b, 1, none⟩ = some (.int .i64 H) ∧ w.cell? ⟨b, 2, none⟩ = some (.int .i64 st) ∧ w.cell? ⟨b, 3, none⟩ = some (.int .i64 tk) ∧ b < w.heap.size := by
  cases h with
  | tab g T hR hT hbg hA hB hSb hSg hlt => exact ⟨hR.cell (i := 0) (by omega), hR.cell (i := 1) (by omega), hR.cell (i := 2) (by omega), hR.cell (i := 3) (by omega), hR.lt⟩
  | rws g V R hR hG hbg hA hM hSb hSg hlt => exact ⟨hR.cell (i := 0) (by omega), hR.cell (i := 1) (by omega), hR.cell (i := 2) (by omega), hR.cell (i := 3) (by omega), hR.lt⟩
end

/-- What a piece adds, when it is out of the window, or above it, or level. -/
theorem pcV_out {t x0 y0 x1 y1 : Int} {W H i j : Nat} (h : Num.skipB y0 y1 = true ∨ (H : Int) ≤ Num.rowV y0 y1 ∨ (W : Int) ≤ Num.colV x0 x1) (hi : i < W) (hj : j < H) : Num.pcV t x0 y0 x1 y1 i j = 0 := by
  unfold Num.pcV
  by_cases hs : Num.skipB y0 y1 = true
  · rw [if_pos hs]
  · rw [if_neg hs]
    by_cases e : (j : Int) = Num.rowV y0 y1
    · rw [if_pos e]
      rcases h with h | h | h
      · exact absurd h hs
      · omega
      · rw [if_pos (by omega)]
    · rw [if_neg e]
theorem pcV_in {t x0 y0 x1 y1 i j r c : Int} (hs : Num.skipB y0 y1 = false) (hr : Num.rowV y0 y1 = r) (hc : Num.colV x0 x1 = c) : Num.pcV t x0 y0 x1 y1 i j = if j = r then (if i < c then 0 else if i = c then Num.hereV t x0 y0 x1 y1 else Num.rightV t y0 y1) else 0 := by
  unfold Num.pcV
  rw [if_neg (by rw [hs]; decide), hr, hc]
/-- A share in the table. -/
theorem Cnv.tabbed {w w' : World} {b g : Nat} {tt : TypeId} {W H tk r c : Nat} {A : Nat → Nat → Int} {P : Int} {S : Nat → Prop} {T : Nat → Int} {t x0 y0 x1 y1 : Int} (ht : t = 1 ∨ t = -1) (hx : Num.noL x0 x1) (hy : Num.noL y0 y1) (hs : Num.skipB y0 y1 = false) (hr : Num.rowV y0 y1 = r) (hc : Num.colV x0 x1 = c) (hcW : c < W)
    (hR : w.rowIs b tt 7 (cv7 W H 0 tk W (.slice (some ⟨g, 0, none⟩) (W * H) (W * H)) (.slice none 0 0))) (hbg : b ≠ g)
    (hA : ∀ i j, i < W → j < H → T (j * W + i) = A i j) (hB : ∀ k, k < W * H → -(8192 * P) ≤ T k ∧ T k ≤ 8192 * P) (hSb : S b) (hSg : S g) (hlt : ∀ q, S q → q < w.heap.size)
    (hT : Touch (fun q => q = g) w w') (hN : w'.rowIs g 3 (W * H) (fun k => .int .i64 (Num.tabAdd W r c (Num.hereV t x0 y0 x1 y1) (Num.rightV t y0 y1) T k))) :
    Cnv w' b tt W H tk (fun i j => A i j + Num.pcV t x0 y0 x1 y1 i j) (P + 1) S 0 := by
  have pb := Num.piece_bd ht hx hy
  refine .tab g _ (hT.row hR (fun e => hbg e)) hN hbg (fun i j hi hj => ?_) (fun k hk => ?_) hSb hSg (fun q hq => Nat.lt_of_lt_of_le (hlt q hq) hT.size)
  · rw [Num.tabAdd_at hi hcW, hA i j hi hj, pcV_in hs hr hc]
    congr 1
    (repeat' split) <;> omega
  · have := Num.tabAdd_bd (W := W) (r := r) (c := c) (D := 8192) hB pb.1 pb.2 k hk
    omega
/-- A share in the rows. -/
theorem Cnv.rowed {w w' : World} {b g : Nat} {tt : TypeId} {W H tk r c : Nat} {A : Nat → Nat → Int} {P : Int} {S : Nat → Prop} {V V' : Nat → Value} {R R' : Nat → List Num.Cl} {t x0 y0 x1 y1 : Int} (ht : t = 1 ∨ t = -1) (hx : Num.noL x0 x1) (hy : Num.noL y0 y1) (hs : Num.skipB y0 y1 = false) (hr : Num.rowV y0 y1 = r) (hc : Num.colV x0 x1 = c)
    (hR : w.rowIs b tt 7 (cv7 W H 1 tk 0 (.slice none 0 0) (.slice (some ⟨g, 0, none⟩) H H))) (hbg : ¬ rwS g H V b)
    (hA : ∀ i j, i < W → j < H → Num.rowA i (R j) = A i j) (hM : ∀ j, j < H → Num.mass (R j) ≤ 16384 * P) (hSb : S b) (hSg : ∀ q, rwS g H V q → S q) (hlt : ∀ q, S q → q < w.heap.size)
    (hT : Touch (rwS g H V) w w') (hG : Rws w' g H V' R') (hoth : ∀ j, j ≠ r → R' j = R j) (hrow : ∀ x, Num.rowA x (R' r) = Num.rowA x (R r) + Num.cellA x ((c : Int), Num.hereV t x0 y0 x1 y1, Num.rightV t y0 y1)) (hms : Num.mass (R' r) ≤ Num.mass (R r) + (Num.sz (Num.hereV t x0 y0 x1 y1) + Num.sz (Num.rightV t y0 y1))) (hnew : ∀ q, rwS g H V' q → rwS g H V q ∨ w.heap.size ≤ q) :
    ∃ S', Cnv w' b tt W H tk (fun i j => A i j + Num.pcV t x0 y0 x1 y1 i j) (P + 1) S' 1 ∧ ∀ q, S' q → S q ∨ w.heap.size ≤ q := by
  have pb := Num.piece_bd ht hx hy
  have z1 := Num.sz_bd pb.1.1 pb.1.2
  have z2 := Num.sz_bd pb.2.1 pb.2.2
  have hbl : b < w.heap.size := hR.lt
  refine ⟨fun q => S q ∨ (w.heap.size ≤ q ∧ q < w'.heap.size), .rws g V' R' (hT.row hR hbg) hG (fun e => ?_) (fun i j hi hj => ?_) (fun j hj => ?_) (.inl hSb) (fun q hq => ?_) (fun q hq => ?_), fun q hq => ?_⟩
  · rcases hnew b e with h | h
    · exact hbg h
    · omega
  · by_cases e : j = r
    · subst e
      rw [hrow, hA i j hi hj, pcV_in hs hr hc, if_pos rfl, Num.cellA_share]
    · rw [hoth j e, hA i j hi hj, pcV_in hs hr hc, if_neg (by omega)]; omega
  · by_cases e : j = r
    · subst e
      have := hM j hj
      omega
    · rw [hoth j e]
      have := hM j hj
      omega
  · rcases hnew q hq with h | h
    · exact .inl (hSg q h)
    · exact .inr ⟨h, hG.lt hq⟩
  · rcases hq with h | h
    · exact Nat.lt_of_lt_of_le (hlt q h) hT.size
    · exact h.2
  · rcases hq with h | h
    · exact .inl h
    · exact .inr h.1
end Go.Proofs.Ytkhcjkmifddlbab

/- CvP -/
namespace Go.Proofs.Ytkhcjkmifddlbab
open Go.RowKit Go.Deep

set_option maxRecDepth 100000 in
set_option maxHeartbeats 4000000 in
theorem layPiece_any (b W H tk : Nat) (tt : TypeId) (A : Nat → Nat → Int) (P st x0 y0 x1 y1 t : Int) (S : Nat → Prop) (w : World) (hC : Cnv w b tt W H tk A P S st) (hW : 1 ≤ W ∧ W ≤ 64) (hH : 1 ≤ H ∧ H ≤ 64) (hP : 0 ≤ P ∧ P ≤ 140737488355328)
    (ht : t = 1 ∨ t = -1) (h0 : -16384 ≤ x0 ∧ x0 ≤ 16384) (h1 : -16384 ≤ y0 ∧ y0 ≤ 16384) (h2 : -16384 ≤ x1 ∧ x1 ≤ 16384) (h3 : -16384 ≤ y1 ∧ y1 ≤ 16384) (hx : Num.noL x0 x1) (hy : Num.noL y0 y1) :
    Calls Try.prog 91 #[.pointer (some ⟨b, 0, none⟩), .agg #[.int .i64 x0, .int .i64 y0], .agg #[.int .i64 x1, .int .i64 y1], .int .i64 t] w fun e w' => e = .returned (.tuple #[]) ∧ Touch S w w' ∧ ∃ S', Cnv w' b tt W H tk (fun i j => A i j + Num.pcV t x0 y0 x1 y1 i j) (P + 1) S' st ∧ ∀ q, S' q → S q ∨ w.heap.size ≤ q := by
  have HC := hide hC
  obtain ⟨k0, k1, k2, k3, hbl⟩ := hC.cells
  have hsd : Num.skipB y0 y1 = (decide (y0 = y1) || decide (y0 < 0) || decide (y1 < 0)) := rfl
  cases hs : Num.skipB y0 y1
  · have hs' : y0 ≠ y1 ∧ 0 ≤ y0 ∧ 0 ≤ y1 := by rw [hs] at hsd; simp at hsd; omega
    have d1 : (y0 == y1) = false := by simp; exact hs'.1
    have d2 : ¬ y0 < 0 := by omega
    have d3 : ¬ y1 < 0 := by omega
    have pb := Num.piece_bd ht hx hy
    obtain ⟨r, hr⟩ : ∃ r : Nat, Num.rowV y0 y1 = r := ⟨(Num.rowV y0 y1).toNat, by
      unfold Num.rowV; have := Num.ls_or y0 y1; rw [Int.tdiv_eq_ediv_of_nonneg (by omega)]; omega⟩
    obtain ⟨c, hc⟩ : ∃ c : Nat, Num.colV x0 x1 = c := ⟨(Num.colV x0 x1).toNat, by
      unfold Num.colV; have := Num.ls_or (Num.gr x0 0) (Num.gr x1 0); have := Num.gr0 x0; have := Num.gr0 x1; rw [Int.tdiv_eq_ediv_of_nonneg (by omega)]; omega⟩
    have HSh := hide (fun w' => shareOf_any x0 y0 x1 y1 t w' ht h0 h1 h2 h3)
    rw [hr, hc] at HSh
    have HIn := hide (And.intro hs (And.intro hr hc))
    have HOut : Hid ((H : Int) ≤ r ∨ (W : Int) ≤ c → ∀ w', Below w.heap.size w w' → ∃ S', Cnv w' b tt W H tk (fun i j => A i j + Num.pcV t x0 y0 x1 y1 i j) (P + 1) S' st ∧ ∀ q, S' q → S q ∨ w.heap.size ≤ q) := fun ho w' hb =>
      ⟨S, (HC.out.below hb).mono (fun i j hi hj => by rw [pcV_out (.inr (by rw [hr, hc]; exact ho)) hi hj, Int.add_zero]) (by omega), fun q hq => .inl hq⟩
    obtain ⟨he, hHe⟩ : ∃ z, z = Num.hereV t x0 y0 x1 y1 := ⟨_, rfl⟩
    obtain ⟨ri, hRi⟩ : ∃ z, z = Num.rightV t y0 y1 := ⟨_, rfl⟩
    rw [← hHe, ← hRi] at HSh pb
    have HHe := hide hHe
    have HRi := hide hRi
    clear hC hs hsd hr hc hHe hRi
    go_enter Try.func91, Try.ntmps91
    go_wp2_with fail
    refine (HSh.out _).mono ?_
    rintro e w1 ⟨rfl, hb1⟩
    have hs1 := hb1.size
    rw [nblk_alloc, nblk_alloc] at hs1
    have HB1 : Hid (Below w.heap.size w w1) := Below.trans (((Below.refl _ _).alloc (Nat.le_refl _) _).alloc (by simp) _) (hb1.mono (by simp; omega))
    have HS1 := hide (sh4_row r c he ri w1 167)
    have HB2 := hide (HB1.out.alloc (by have := HB1.out.size; omega) (.cells #[.int .i64 (r : Int), .int .i64 (c : Int), .int .i64 he, .int .i64 ri] 167))
    obtain ⟨sb, hsb⟩ : ∃ sb, sb = w1.heap.size := ⟨_, rfl⟩
    obtain ⟨W2, hW2⟩ : ∃ W2, W2 = w1.alloc (.cells #[.int .i64 (r : Int), .int .i64 (c : Int), .int .i64 he, .int .i64 ri] 167) := ⟨_, rfl⟩
    have hs2 : W2.heap.size = sb + 1 := by rw [hW2, hsb]; simp
    rw [← hsb] at HS1
    rw [← hW2] at HS1 HB2
    clear hb1 HSh
    go_wp2_with fail
    try rw [← hW2, ← hsb]
    have HC2 := hide (HC.out.below HB2.out)
    obtain ⟨c0, c1, c2, c3, hbl2⟩ := HC2.out.cells
    have s0 := HS1.out.cell (i := 0) (by omega)
    have s1 := HS1.out.cell (i := 1) (by omega)
    have s2 := HS1.out.cell (i := 2) (by omega)
    have s3 := HS1.out.cell (i := 3) (by omega)
    change W2.cell? ⟨sb, 0, none⟩ = some (.int .i64 (r : Int)) at s0
    change W2.cell? ⟨sb, 1, none⟩ = some (.int .i64 (c : Int)) at s1
    change W2.cell? ⟨sb, 2, none⟩ = some (.int .i64 he) at s2
    change W2.cell? ⟨sb, 3, none⟩ = some (.int .i64 ri) at s3
    clear hW2 hsb k0 k1 k2 k3
    by_cases hrH : (H : Int) ≤ (r : Int)
    · have q1 : decide ((H : Int) ≤ (r : Int)) = true := by simpa using hrH
      have HO := hide (HOut.out (.inl hrH))
      go_quiet (fail)
      go_wp2
      refine bodyPost_ret (results_none rfl _ _ _) rfl ⟨rfl, ((Touch.refl S w).of_below HB2.out).drewN _, HO.out _ (below_drewN HB2.out _)⟩
    · have q1 : decide ((H : Int) ≤ (r : Int)) = false := by simpa using hrH
      by_cases hcW : (W : Int) ≤ (c : Int)
      · have q2 : decide ((W : Int) ≤ (c : Int)) = true := by simpa using hcW
        have HO := hide (HOut.out (.inr hcW))
        go_quiet (fail)
        go_wp2
        refine bodyPost_ret (results_none rfl _ _ _) rfl ⟨rfl, ((Touch.refl S w).of_below HB2.out).drewN _, HO.out _ (below_drewN HB2.out _)⟩
      · have q2 : decide ((W : Int) ≤ (c : Int)) = false := by simpa using hcW
        have HT2 := hide ((Touch.refl S w).of_below HB2.out)
        go_quiet (fail)
        obtain ⟨W3, hW3⟩ : ∃ W3, W3 = W2.drewN nq := ⟨_, rfl⟩
        have hC3 : Cnv W3 b tt W H tk A P S st := HC2.out.of_heap (by rw [hW3]; rfl)
        have HT3 : Hid (Touch S w W3) := by unfold Hid; rw [hW3]; exact HT2.out.drewN _
        have hs3 : W3.heap.size = sb + 1 := by rw [hW3]; exact hs2
        rw [← hW3]
        have c0 : W3.cell? ⟨b, 0, none⟩ = some (.int .i64 W) := by rw [hW3]; exact c0
        have c2 : W3.cell? ⟨b, 2, none⟩ = some (.int .i64 st) := by rw [hW3]; exact c2
        have s0 : W3.cell? ⟨sb, 0, none⟩ = some (.int .i64 (r : Int)) := by rw [hW3]; exact s0
        have s1 : W3.cell? ⟨sb, 1, none⟩ = some (.int .i64 (c : Int)) := by rw [hW3]; exact s1
        have s2 : W3.cell? ⟨sb, 2, none⟩ = some (.int .i64 he) := by rw [hW3]; exact s2
        have s3 : W3.cell? ⟨sb, 3, none⟩ = some (.int .i64 ri) := by rw [hW3]; exact s3
        clear hW3 HC2 HC HOut
        cases hC3 with
        | tab g T hR hT hbg hA hB hSb hSg hlt =>
          have HCall := hide (fun w' (e : w'.heap = W3.heap) => tabAdd_any b g W H r c he ri (8192 * P) T tt _ w' hW hH.2 (by omega) (by omega) (hR.of_block (by rw [e])) rfl rfl hbg (hT.of_block (by rw [e])) (by omega) hB pb.1 pb.2)
          have HFin : Hid (∀ w', Touch (fun q => q = g) W3 w' → w'.rowIs g 3 (W * H) (fun k => .int .i64 (Num.tabAdd W r c he ri T k)) → Cnv w' b tt W H tk (fun i j => A i j + Num.pcV t x0 y0 x1 y1 i j) (P + 1) S 0) := fun w' h1 h2 =>
            Cnv.tabbed ht hx hy HIn.out.1 HIn.out.2.1 HIn.out.2.2 (by omega) hR hbg hA hB hSb hSg hlt h1 (by rw [← HHe.out, ← HRi.out]; exact h2)
          have HSg := hide hSg
          clear hR hT hA hB hlt
          go_wp2_with fail
          go_region_with (go_at_call 108; refine (HCall.out W3.drew rfl).mono ?_; rintro e w4 ⟨rfl, hT4, hN4⟩)
          all_goals
            have hT4' : Touch (fun q => q = g) W3 w4 := ⟨hT4.os, hT4.tape, hT4.output, hT4.size, hT4.block⟩
            have HC4 := hide (HFin.out _ hT4' hN4)
            have HT4 := hide (HT3.out.trans' hT4' (fun q e => .inl (by rw [e]; exact HSg.out)))
            clear hT4 hN4 hT4'
            go_wp2
            go_end0
            exact ⟨rfl, HT4.out, S, HC4.out, fun q hq => .inl hq⟩
        | rws g V R hR hG hbg hA hM hSb hSg hlt =>
          have HCall := hide (fun w' (e : w'.heap = W3.heap) => rowsAdd_any b g H r c he ri (16384 * P) V R tt _ w' (by omega) (by omega) (hR.of_block (by rw [e])) rfl (hG.of_heap e) hbg (by omega) (hM r (by omega)) pb.1 pb.2)
          have HFin : Hid (∀ w' V' R', Touch (rwS g H V) W3 w' → Rws w' g H V' R' → (∀ j, j ≠ r → R' j = R j) → (∀ x, Num.rowA x (R' r) = Num.rowA x (R r) + Num.cellA x ((c : Int), he, ri)) → Num.mass (R' r) ≤ Num.mass (R r) + (Num.sz he + Num.sz ri) → (∀ q, rwS g H V' q → rwS g H V q ∨ W3.heap.size ≤ q) → ∃ S', Cnv w' b tt W H tk (fun i j => A i j + Num.pcV t x0 y0 x1 y1 i j) (P + 1) S' 1 ∧ ∀ q, S' q → S q ∨ W3.heap.size ≤ q) := fun w' V' R' t1 t2 t3 t4 t5 t6 =>
            Cnv.rowed ht hx hy HIn.out.1 HIn.out.2.1 HIn.out.2.2 hR hbg hA hM hSb hSg hlt t1 t2 t3 (by rw [← HHe.out, ← HRi.out]; exact t4) (by rw [← HHe.out, ← HRi.out]; exact t5) t6
          have HSg := hide hSg
          clear hR hG hA hM hlt
          go_wp2_with fail
          go_region_with (go_at_call 107; refine (HCall.out W3.drew rfl).mono ?_; rintro e w4 ⟨rfl, hT4, V', R', t2, t3, t4, t5, t6⟩)
          all_goals
            have hT4' : Touch (rwS g H V) W3 w4 := ⟨hT4.os, hT4.tape, hT4.output, hT4.size, hT4.block⟩
            have HC4 := hide (HFin.out _ V' R' hT4' t2 t3 t4 t5 t6)
            have HT4 := hide (HT3.out.trans' hT4' (fun q e => .inl (HSg.out q e)))
            have hs4 := HT3.out.size
            clear hT4 t2 t3 t4 t5 t6 hT4'
            go_wp2
            exact bodyPost_ret (results_none rfl _ _ _) rfl ⟨rfl, HT4.out, by
              obtain ⟨S', h1, h2⟩ := HC4.out
              exact ⟨S', h1, fun q hq => by rcases h2 q hq with h | h; exact .inl h; exact .inr (by omega)⟩⟩
  · have HOut : Hid (∀ w', Below w.heap.size w w' → ∃ S', Cnv w' b tt W H tk (fun i j => A i j + Num.pcV t x0 y0 x1 y1 i j) (P + 1) S' st ∧ ∀ q, S' q → S q ∨ w.heap.size ≤ q) := fun w' hb =>
      ⟨S, (HC.out.below hb).mono (fun i j hi hj => by rw [pcV_out (.inl hs) hi hj, Int.add_zero]) (by omega), fun q hq => .inl hq⟩
    rw [hs] at hsd
    clear hC hs
    have hB2 : Hid (Below w.heap.size w ((w.alloc (.cells #[.int .i64 x0, .int .i64 y0] 53)).alloc (.cells #[.int .i64 x1, .int .i64 y1] 53))) := ((Below.refl _ _).alloc (Nat.le_refl _) _).alloc (by simp) _
    by_cases e1 : y0 = y1
    · have d1 : (y0 == y1) = true := by simp; exact e1
      clear hsd e1
      go_enter Try.func91, Try.ntmps91
      go_wp2
      exact bodyPost_ret (results_none rfl _ _ _) rfl ⟨rfl, (Touch.refl S w).of_below hB2.out, HOut.out _ hB2.out⟩
    · have d1 : (y0 == y1) = false := by simp; exact e1
      by_cases e2 : y0 < 0
      · clear hsd e1
        go_enter Try.func91, Try.ntmps91
        go_wp2
        exact bodyPost_ret (results_none rfl _ _ _) rfl ⟨rfl, (Touch.refl S w).of_below hB2.out, HOut.out _ hB2.out⟩
      · have e3 : y1 < 0 := by simp at hsd; omega
        clear hsd e1
        go_enter Try.func91, Try.ntmps91
        go_wp2
        exact bodyPost_ret (results_none rfl _ _ _) rfl ⟨rfl, (Touch.refl S w).of_below hB2.out, HOut.out _ hB2.out⟩
end Go.Proofs.Ytkhcjkmifddlbab

/- Ct -/
namespace Go.Proofs.Ytkhcjkmifddlbab
open Go.RowKit Go.Deep

theorem info_int : (Try.prog.info? 3).map (fun i => (i.zero, i.size, i.bytes)) = some (some (.int .i64 0), 1, 8) := by kernel_rfl

/-- The cells of a row of ints. -/
def intC (l : List Int) : List Value := l.map (Value.int .i64)
theorem intC_snoc (l : List Int) (z : Int) : intC (l ++ [z]) = intC l ++ [.int .i64 z] := by simp [intC]

theorem start_line {p : Int} (h : -16384 ≤ p ∧ p ≤ 16384) : ∃ k : Nat, k ≤ 512 ∧ p - p.tmod 64 = Num.upK k ∧ p - p.tmod 64 = Num.dnK (512 - k) ∧ -64 < p.tmod 64 ∧ p.tmod 64 < 64 := by
  obtain ⟨e, h1, h2, h3, h4⟩ := Num.tdiv_facts p 64 (by omega)
  refine ⟨(p.tdiv 64 + 256).toNat, by omega, ?_, ?_, h1, h2⟩
  · unfold Num.upK; omega
  · unfold Num.dnK; omega

set_option maxRecDepth 100000 in
set_option maxHeartbeats 2000000 in
theorem linesBetween_any (p q : Int) (w : World) (hp : -16384 ≤ p ∧ p ≤ 16384) (hq : -16384 ≤ q ∧ q ≤ 16384) :
    Calls Try.prog 114 #[.int .i64 p, .int .i64 q] w fun e w' => ∃ v, e = .returned v ∧ Below w.heap.size w w' ∧ w'.ownsRow w.heap.size 3 1 v (Num.linesV p q).length (intC (Num.linesV p q)) := by
  obtain ⟨k0, hk0, hu, hd, t1, t2⟩ := start_line hp
  obtain ⟨n0, hn0⟩ : ∃ n0, n0 = p - p.tmod 64 := ⟨_, rfl⟩
  obtain ⟨i0, hi0, hz0, hz1, hz2⟩ := info_parts info_int
  obtain ⟨L, hL⟩ : ∃ L, L = Num.linesV p q := ⟨_, rfl⟩
  rw [← hL]
  have HL := hide hL
  rw [← hn0] at hu hd
  have b1 : -16500 ≤ n0 := by omega
  have b2 : n0 ≤ 16500 := by omega
  have b3 : n0 - 64 < p := by omega
  have b4 : p < n0 + 64 := by omega
  have HN := hide hn0
  have HU := hide hu
  have HD := hide hd
  clear hL hn0 hu hd
  by_cases hpq : p < q
  · go_enter Try.func114, Try.ntmps114
    go_wp2_with fail
    rw [← HN.out]
    go_wp2_with fail
    go_loopw [5, 6] (fun v t wr => ∃ j : Nat, j ≤ 513 ∧ t = .int .i64 (Num.upK j) ∧ (∀ k, k < j → Num.upK k < q) ∧ Below w.heap.size w wr ∧ wr.ownsRow w.heap.size 3 1 v (Num.upL p j).length (intC (Num.upL p j))) (fun _ t _ => (40000 - intOf t).toNat)
    case atStart =>
      refine ⟨k0, by omega, by rw [HU.out], fun k hk => ?_, Below.refl _ _, ?_⟩
      · have := HU.out; unfold Num.upK at this ⊢; omega
      · rw [Num.upL_start (fun k hk => by have := HU.out; unfold Num.upK at this ⊢; omega)]
        exact World.ownsRow_nil _ _ _ _
    case round =>
      obtain ⟨v, rfl⟩ : ∃ v, v = u5 := ⟨_, rfl⟩
      obtain ⟨j, hj, rfl, hall, hb, hown⟩ := hrel
      have hsz := hb.size
      have hlen := Num.upL_len p j
      have hUj : Num.upK j = 64 * ((j : Int) - 256) := rfl
      have HSu := hide (Num.upL_succ p j)
      have HAll := hide hall
      have hUs : Num.upK (j + 1) = Num.upK j + 64 := by unfold Num.upK; omega
      have HUs := hide hUs
      clear hall hUs
      by_cases hlt : Num.upK j < q
      · have hj2 : j + 1 ≤ 513 := by omega
        have HAll2 : Hid (∀ k, k < j + 1 → Num.upK k < q) := fun k hk => by
          rcases (show k < j ∨ k = j by omega) with h | h
          · exact HAll.out k h
          · rw [h]; exact hlt
        by_cases hgt : p < Num.upK j
        · have HE : Hid (Num.upL p (j + 1) = Num.upL p j ++ [Num.upK j]) := by unfold Hid; rw [HSu.out, if_pos hgt]
          have u1 : -100000 ≤ Num.upK j := by omega
          have u2 : Num.upK j ≤ 100000 := by omega
          obtain ⟨U, hU⟩ : ∃ U, U = Num.upK j := ⟨_, rfl⟩
          obtain ⟨M, hM⟩ : ∃ M, M = Num.upL p j := ⟨_, rfl⟩
          rw [← hU] at HE HUs hlt hgt u1 u2 ⊢
          rw [← hM] at HE hown hlen
          obtain ⟨ln, hln⟩ : ∃ ln, ln = M.length := ⟨_, rfl⟩
          obtain ⟨xs, hxs⟩ : ∃ xs, xs = intC M := ⟨_, rfl⟩
          rw [← hln, ← hxs] at hown
          rw [← hln] at hlen
          have HLn := hide hln
          have HXs := hide hxs
          clear hU hM hln hxs hUj
          go_wp2_with (at_builtin; refine wpList_append_lies _ rfl _ _ 76 rfl w.heap.size 3 i0 (.int .i64 0) 1 8 Try.underlying76 hi0 hz0 hz1 hz2 rfl (by omega) v ln xs rfl (hown.alloc _) ⟨wr.heap.size, 0, none⟩ 1 1 [.int .i64 U] rfl rfl ?e1 ?e2 (by omega) ?e3 ?e4 ?e5 (wr.heap.size + 1) (by simp) ?_)
          try (case e1 => exact news_sp wr [.int .i64 U] _ _ rfl)
          case e2 => first | rfl | (intro u hu; simp at hu; subst hu; rfl)
          case e3 => unfold maxLen; omega
          case e4 => omega
          case e5 => first | omega | (simp; omega)
          intro g cap w2 hown2 hgrow hat hlt2
          have hb2 : Below w.heap.size w w2 := (hb.alloc (by omega) _).grown hgrow (by simp; omega) (fun q hq => (hown.lt q hq).1)
          have HO2 : Hid (w2.ownsRow w.heap.size 3 1 (.slice (some ⟨g, 0, none⟩) (ln + 1) cap) (Num.upL p (j + 1)).length (intC (Num.upL p (j + 1)))) := by
            unfold Hid
            rw [HE.out, intC_snoc, ← HXs.out, List.length_append, ← HLn.out]
            exact hown2
          clear hown2 hgrow hat hown hb
          go_wp2
          go_roundw
          case rel => exact ⟨j + 1, hj2, by rw [HUs.out], HAll2.out, hb2, HO2.out⟩
          case measure => simp [intOf]; omega
        · have HE : Hid (Num.upL p (j + 1) = Num.upL p j) := by unfold Hid; rw [HSu.out, if_neg hgt, List.append_nil]
          have u1 : -100000 ≤ Num.upK j := by omega
          have u2 : Num.upK j ≤ 100000 := by omega
          obtain ⟨U, hU⟩ : ∃ U, U = Num.upK j := ⟨_, rfl⟩
          rw [← hU] at HUs hlt hgt u1 u2 ⊢
          have HO := hide hown
          clear hU hUj hown
          go_wp2
          go_roundw
          case rel => exact ⟨j + 1, hj2, by rw [HUs.out], HAll2.out, hb, by rw [HE.out]; exact HO.out⟩
          case measure => simp [intOf]; omega
      · have HE : Hid (L = Num.upL p j) := by
          unfold Hid
          rw [HL.out]
          exact Num.lines_up hpq hj HAll.out (fun k h1 h2 => by unfold Num.upK at hlt ⊢; omega)
        have HO := hide hown
        clear hown hUj
        go_wp2
        go_ret
        exact ⟨v, rfl, hb, by rw [HE.out]; exact HO.out⟩
  · go_enter Try.func114, Try.ntmps114
    go_wp2_with fail
    rw [← HN.out]
    go_wp2_with fail
    go_loopw [5, 6] (fun v t wr => ∃ j : Nat, j ≤ 513 ∧ t = .int .i64 (Num.dnK j) ∧ (∀ k, k < j → q < Num.dnK k) ∧ Below w.heap.size w wr ∧ wr.ownsRow w.heap.size 3 1 v (Num.dnL p j).length (intC (Num.dnL p j))) (fun _ t _ => (40000 + intOf t).toNat)
    case atStart =>
      refine ⟨512 - k0, by omega, by rw [HD.out], fun k hk => ?_, Below.refl _ _, ?_⟩
      · have := HD.out; unfold Num.dnK at this ⊢; omega
      · rw [Num.dnL_start (fun k hk => by have := HD.out; unfold Num.dnK at this ⊢; omega)]
        exact World.ownsRow_nil _ _ _ _
    case round =>
      obtain ⟨v, rfl⟩ : ∃ v, v = u5 := ⟨_, rfl⟩
      obtain ⟨j, hj, rfl, hall, hb, hown⟩ := hrel
      have hsz := hb.size
      have hlen := Num.dnL_len p j
      have hUj : Num.dnK j = 64 * (256 - (j : Int)) := rfl
      have HSu := hide (Num.dnL_succ p j)
      have HAll := hide hall
      have hUs : Num.dnK (j + 1) = Num.dnK j - 64 := by unfold Num.dnK; omega
      have HUs := hide hUs
      clear hall hUs
      by_cases hlt : q < Num.dnK j
      · have hj2 : j + 1 ≤ 513 := by omega
        have HAll2 : Hid (∀ k, k < j + 1 → q < Num.dnK k) := fun k hk => by
          rcases (show k < j ∨ k = j by omega) with h | h
          · exact HAll.out k h
          · rw [h]; exact hlt
        by_cases hgt : Num.dnK j < p
        · have HE : Hid (Num.dnL p (j + 1) = Num.dnL p j ++ [Num.dnK j]) := by unfold Hid; rw [HSu.out, if_pos hgt]
          have u1 : -100000 ≤ Num.dnK j := by omega
          have u2 : Num.dnK j ≤ 100000 := by omega
          obtain ⟨U, hU⟩ : ∃ U, U = Num.dnK j := ⟨_, rfl⟩
          obtain ⟨M, hM⟩ : ∃ M, M = Num.dnL p j := ⟨_, rfl⟩
          rw [← hU] at HE HUs hlt hgt u1 u2 ⊢
          rw [← hM] at HE hown hlen
          obtain ⟨ln, hln⟩ : ∃ ln, ln = M.length := ⟨_, rfl⟩
          obtain ⟨xs, hxs⟩ : ∃ xs, xs = intC M := ⟨_, rfl⟩
          rw [← hln, ← hxs] at hown
          rw [← hln] at hlen
          have HLn := hide hln
          have HXs := hide hxs
          clear hU hM hln hxs hUj
          go_wp2_with (at_builtin; refine wpList_append_lies _ rfl _ _ 76 rfl w.heap.size 3 i0 (.int .i64 0) 1 8 Try.underlying76 hi0 hz0 hz1 hz2 rfl (by omega) v ln xs rfl (hown.alloc _) ⟨wr.heap.size, 0, none⟩ 1 1 [.int .i64 U] rfl rfl ?f1 ?f2 (by omega) ?f3 ?f4 ?f5 (wr.heap.size + 1) (by simp) ?_)
          try (case f1 => exact news_sp wr [.int .i64 U] _ _ rfl)
          case f2 => first | rfl | (intro u hu; simp at hu; subst hu; rfl)
          case f3 => unfold maxLen; omega
          case f4 => omega
          case f5 => first | omega | (simp; omega)
          intro g cap w2 hown2 hgrow hat hlt2
          have hb2 : Below w.heap.size w w2 := (hb.alloc (by omega) _).grown hgrow (by simp; omega) (fun q hq => (hown.lt q hq).1)
          have HO2 : Hid (w2.ownsRow w.heap.size 3 1 (.slice (some ⟨g, 0, none⟩) (ln + 1) cap) (Num.dnL p (j + 1)).length (intC (Num.dnL p (j + 1)))) := by
            unfold Hid
            rw [HE.out, intC_snoc, ← HXs.out, List.length_append, ← HLn.out]
            exact hown2
          clear hown2 hgrow hat hown hb
          go_wp2
          go_roundw
          case rel => exact ⟨j + 1, hj2, by rw [HUs.out], HAll2.out, hb2, HO2.out⟩
          case measure => simp [intOf]; omega
        · have HE : Hid (Num.dnL p (j + 1) = Num.dnL p j) := by unfold Hid; rw [HSu.out, if_neg hgt, List.append_nil]
          have u1 : -100000 ≤ Num.dnK j := by omega
          have u2 : Num.dnK j ≤ 100000 := by omega
          obtain ⟨U, hU⟩ : ∃ U, U = Num.dnK j := ⟨_, rfl⟩
          rw [← hU] at HUs hlt hgt u1 u2 ⊢
          have HO := hide hown
          clear hU hUj hown
          go_wp2
          go_roundw
          case rel => exact ⟨j + 1, hj2, by rw [HUs.out], HAll2.out, hb, by rw [HE.out]; exact HO.out⟩
          case measure => simp [intOf]; omega
      · have HE : Hid (L = Num.dnL p j) := by
          unfold Hid
          rw [HL.out]
          exact Num.lines_dn (by omega) hj HAll.out (fun k h1 h2 => by unfold Num.dnK at hlt ⊢; omega)
        have HO := hide hown
        clear hown hUj
        go_wp2
        go_ret
        exact ⟨v, rfl, hb, by rw [HE.out]; exact HO.out⟩

set_option maxHeartbeats 400000 in
theorem meet_any (n p q a b : Int) (w : World) (hpq : p ≠ q) (hn : -16384 ≤ n ∧ n ≤ 16384) (hp : -16384 ≤ p ∧ p ≤ 16384) (hq : -16384 ≤ q ∧ q ≤ 16384) (ha : -16384 ≤ a ∧ a ≤ 16384) (hb : -16384 ≤ b ∧ b ≤ 16384) :
    Calls Try.prog 115 #[.int .i64 n, .int .i64 p, .int .i64 q, .int .i64 a, .int .i64 b] w fun e w' => e = .returned (.int .i64 (Num.atV a b p q n)) ∧ w' = w := by
  have m1 := Num.mul_bd (b - a) (n - p) 32768 32768 (by omega) (by omega)
  have HE := hide (Num.atV_eq (a := a) (b := b) (n := n) hpq)
  by_cases hlt : q - p < 0
  · have h1 := Num.hu_le (-((b - a) * (n - p))) (-(q - p)) 10000000000 (by omega) (by omega) (by omega) (by omega)
    go_enter Try.func115, Try.ntmps115
    go_wp2_with (go_at_call 81; refine (halfUp_any _ _ _ (by omega) (by omega) (by omega) (by omega)).mono ?_; rintro e w' ⟨rfl, rfl⟩)
    go_ret
    exact ⟨ret_int (by rw [HE.out, if_pos hlt]), rfl⟩
  · have h1 := Num.hu_le ((b - a) * (n - p)) (q - p) 10000000000 (by omega) (by omega) (by omega) (by omega)
    go_enter Try.func115, Try.ntmps115
    go_wp2_with (go_at_call 81; refine (halfUp_any _ _ _ (by omega) (by omega) (by omega) (by omega)).mono ?_; rintro e w' ⟨rfl, rfl⟩)
    go_ret
    exact ⟨ret_int (by rw [HE.out, if_neg (by omega)]), rfl⟩
end Go.Proofs.Ytkhcjkmifddlbab

/- CtB -/
namespace Go.Proofs.Ytkhcjkmifddlbab
open Go.RowKit Go.Deep

theorem intC_at (l : List Int) (i : Nat) (hi : i < l.length) : (intC l)[i]? = some (.int .i64 l[i]) := by simp [intC, hi]
theorem owns_int {w : World} {base b cap : Nat} {t : TypeId} {l : List Int} (h : w.ownsRow base t 1 (.slice (some ⟨b, 0, none⟩) l.length cap) l.length (intC l)) (i : Nat) (hi : i < l.length) : w.cell? ⟨b, i, none⟩ = some (.int .i64 l[i]) := by
  rw [h.cellAt i (by omega), intC_at l i hi]

theorem atRows_at {ax ay bx b2 : Int} {j : Nat} (hj : j < (Num.linesV ay b2).length) : (Num.rowsV ax ay bx b2).take (j + 1) = (Num.rowsV ax ay bx b2).take j ++ [(fun z => (Num.atV ax bx ay b2 z, z)) (Num.linesV ay b2)[j]] := by
  have hl : j < (Num.rowsV ax ay bx b2).length := by unfold Num.rowsV; simpa using hj
  rw [List.take_succ_eq_append_getElem hl]
  simp [Num.rowsV]

set_option maxRecDepth 100000 in
set_option maxHeartbeats 2000000 in
theorem atRows_any (ax ay bx b2 : Int) (w : World) (ha : (-16384 ≤ ax ∧ ax ≤ 16384) ∧ -16384 ≤ ay ∧ ay ≤ 16384) (hb : (-16384 ≤ bx ∧ bx ≤ 16384) ∧ -16384 ≤ b2 ∧ b2 ≤ 16384) :
    Calls Try.prog 104 #[.agg #[.int .i64 ax, .int .i64 ay], .agg #[.int .i64 bx, .int .i64 b2]] w fun e w' => ∃ v, e = .returned v ∧ Below w.heap.size w w' ∧ w'.ownsRow w.heap.size 53 2 v (Num.rowsV ax ay bx b2).length ((Num.rowsV ax ay bx b2).flatMap spC) ∧ ((Num.rowsV ax ay bx b2).length = 0 → v = .slice none 0 0) := by
  have hmem : ∀ z ∈ Num.linesV ay b2, (ay < z ∧ z < b2) ∨ (b2 < z ∧ z < ay) := fun z hz => Num.linesV_mem hz
  have hat0 : ∀ j (hj : j < (Num.linesV ay b2).length), (Num.rowsV ax ay bx b2).take (j + 1) = (Num.rowsV ax ay bx b2).take j ++ [(fun z => (Num.atV ax bx ay b2 z, z)) (Num.linesV ay b2)[j]] := fun j hj => atRows_at hj
  have hll : (Num.rowsV ax ay bx b2).length = (Num.linesV ay b2).length := by unfold Num.rowsV; simp
  have hle := Num.linesV_len ay b2
  obtain ⟨i0, hi0, hz0, hz1, hz2⟩ := info_parts info_spot
  have HL := hide (fun w => linesBetween_any ay b2 w ha.2 hb.2)
  obtain ⟨L, hL⟩ : ∃ L, L = Num.linesV ay b2 := ⟨_, rfl⟩
  obtain ⟨R, hR⟩ : ∃ R, R = Num.rowsV ax ay bx b2 := ⟨_, rfl⟩
  rw [← hL] at HL hmem hll hle
  have hat1 : ∀ j (hj : j < L.length), R.take (j + 1) = R.take j ++ [(fun z => (Num.atV ax bx ay b2 z, z)) L[j]] := by rw [hR, hL]; exact hat0
  rw [← hR] at hll ⊢
  have HAt := hide hat1
  have HMem := hide hmem
  clear hL hR hat0 hat1 hmem
  go_enter Try.func104, Try.ntmps104
  go_wp2_with fail
  refine (HL.out _).mono ?_
  rintro e w1 ⟨vL, rfl, hb1, hown1⟩
  have hs1 : w.heap.size + 1 < w1.heap.size := by have := hb1.size; simp at this; omega
  have hB1 : Below (w.heap.size + 2) ((w.alloc (.cells #[.int .i64 ax, .int .i64 ay] 53)).alloc (.cells #[.int .i64 bx, .int .i64 b2] 53)) w1 := hb1.mono (by simp)
  obtain ⟨ao, capL, rfl, hao⟩ := owns_formN hown1
  have HO1 := hide hown1
  have HAo := hide hao
  obtain ⟨m2, hm2⟩ : ∃ m2, m2 = L.length := ⟨_, rfl⟩
  rw [← hm2] at hle hll ⊢
  have HM2 := hide hm2
  have hbl : ∀ g2, ao = some ⟨g2, 0, none⟩ → w.heap.size + 2 ≤ g2 ∧ g2 < w1.heap.size := fun g2 e => by
    have := hown1.lt g2 (by rw [e]; rfl)
    simp at this; omega
  have HBl := hide hbl
  clear hb1 hown1 hao hm2 hbl
  go_wp2_with fail
  go_loopw [5, 15] (fun v t wr => ∃ j : Nat, j ≤ m2 ∧ t = .int .i64 j ∧ w1.heap.size ≤ wr.heap.size ∧ Below (w.heap.size + 2) ((w.alloc (.cells #[.int .i64 ax, .int .i64 ay] 53)).alloc (.cells #[.int .i64 bx, .int .i64 b2] 53)) wr ∧ wr.ownsRow (w.heap.size + 2) 53 2 v j ((R.take j).flatMap spC) ∧ (j = 0 → v = .slice none 0 0) ∧ ∀ g2, ao = some ⟨g2, 0, none⟩ → v.ownBlock ≠ some g2 ∧ wr.heap[g2]? = w1.heap[g2]?) (fun _ t _ => m2 - (intOf t).toNat)
  case atStart => exact ⟨0, by omega, rfl, Nat.le_refl _, hB1, by simpa using World.ownsRow_nil _ _ _ _, fun _ => rfl, fun g2 _ => ⟨by simp [Value.ownBlock], rfl⟩⟩
  case round =>
    obtain ⟨v, rfl⟩ : ∃ v, v = u5 := ⟨_, rfl⟩
    obtain ⟨j, hj, rfl, hsr, hB, hown, hnil, hne⟩ := hrel
    by_cases hlt : j < m2
    · have hjl : j < L.length := by rw [← HM2.out]; exact hlt
      obtain ⟨g2, rfl⟩ := HAo.out (by omega)
      obtain ⟨hne2, hblk⟩ := hne g2 rfl
      obtain ⟨gl1, gl2⟩ := HBl.out g2 rfl
      have hO2 := owns_of_block (w' := wr) HO1.out (fun b hbb => by simp [Value.ownBlock] at hbb; subst hbb; exact hblk)
      have cz := owns_int hO2 j hjl
      have hzm := HMem.out _ (List.getElem_mem hjl)
      have HTk := hide (HAt.out j hjl)
      obtain ⟨z, hz⟩ : ∃ z, z = L[j] := ⟨_, rfl⟩
      rw [← hz] at cz hzm HTk
      clear hO2 hz
      have zb : -16384 ≤ z ∧ z ≤ 16384 := by omega
      have hpq : ay ≠ b2 := by omega
      have HC := hide (fun w => meet_any z ay b2 ax bx w hpq zb ha.2 hb.2 ha.1 hb.1)
      obtain ⟨m, hm⟩ : ∃ m, m = Num.atV ax bx ay b2 z := ⟨_, rfl⟩
      rw [← hm] at HC
      have HTk2 : Hid (R.take (j + 1) = R.take j ++ [(m, z)]) := by unfold Hid; rw [HTk.out, hm]
      have hd1 : decide ((j : Int) < (m2 : Int)) = true := by simp; omega
      have sz0 : w.heap.size < wr.heap.size := by omega
      have sz1 : w.heap.size + 1 < wr.heap.size := by omega
      have a0 : wr.cell? ⟨w.heap.size, 0, none⟩ = some (.int .i64 ax) := (hB.cell (p := ⟨w.heap.size, 0, none⟩) (by simp)).trans (by go_simp)
      have a1 : wr.cell? ⟨w.heap.size, 1, none⟩ = some (.int .i64 ay) := (hB.cell (p := ⟨w.heap.size, 1, none⟩) (by simp)).trans (by go_simp)
      have e0 : wr.cell? ⟨w.heap.size + 1, 0, none⟩ = some (.int .i64 bx) := (hB.cell (p := ⟨w.heap.size + 1, 0, none⟩) (by simp)).trans (by go_simp)
      have e1 : wr.cell? ⟨w.heap.size + 1, 1, none⟩ = some (.int .i64 b2) := (hB.cell (p := ⟨w.heap.size + 1, 1, none⟩) (by simp)).trans (by go_simp)
      obtain ⟨xs, hxs⟩ : ∃ xs, xs = (R.take j).flatMap spC := ⟨_, rfl⟩
      rw [← hxs] at hown
      have HX := hide hxs
      have HNe := hide hne2
      have HBk := hide hblk
      clear hm hzm HTk hxs hne hne2 hblk hnil zb hpq
      go_wp2_with fail
      refine (HC.out _).mono ?_
      rintro e w' ⟨rfl, rfl⟩
      go_wp2_with (at_builtin; refine wpList_append_lies _ rfl _ _ 51 rfl (w.heap.size + 2) 53 i0 (.agg #[.int .i64 0, .int .i64 0]) 2 16 Try.underlying51 hi0 hz0 hz1 hz2 rfl (by omega) v j xs rfl (hown.alloc _) ⟨w'.heap.size, 0, none⟩ 1 1 [.int .i64 m, .int .i64 z] rfl rfl ?e1 ?e2 (by omega) ?e3 ?e4 ?e5 (w'.heap.size + 1) (by simp) ?_)
      try (case e1 => exact news_sp w' [.int .i64 m, .int .i64 z] _ _ rfl)
      case e2 => first | exact one_two _ _ | exact ⟨rfl, rfl⟩
      case e3 => unfold maxLen; omega
      case e4 => omega
      case e5 => first | omega | (simp; omega)
      intro g cap w4 hown4 hgrow hat hlt4
      have hb4 : Below (w.heap.size + 2) ((w.alloc (.cells #[.int .i64 ax, .int .i64 ay] 53)).alloc (.cells #[.int .i64 bx, .int .i64 b2] 53)) w4 := (hB.alloc (by omega) _).grown hgrow (by simp; omega) (fun q hq => (hown.lt q hq).1)
      have hs4 : w1.heap.size ≤ w4.heap.size := by have := hgrow.size; rw [nblk_alloc] at this; omega
      have HO4 : Hid (w4.ownsRow (w.heap.size + 2) 53 2 (.slice (some ⟨g, 0, none⟩) (j + 1) cap) (j + 1) ((R.take (j + 1)).flatMap spC)) := by
        unfold Hid
        have := push_sp (l := R.take j) (l' := R.take (j + 1)) (p := (m, z)) (m := j + 1) (by rw [← HX.out]; exact hown4) HTk2.out (by rw [List.length_take, hll]; omega)
        rw [List.length_take, hll, Nat.min_eq_left (by omega)] at this
        exact this
      have HNe2 : Hid ((Value.slice (some ⟨g, 0, none⟩) (j + 1) cap).ownBlock ≠ some g2) := by
        unfold Hid
        intro e
        simp [Value.ownBlock] at e
        rcases hat with hat | hat
        · exact HNe.out (by rw [hat, e])
        · omega
      have HBk2 : Hid (w4.heap[g2]? = w1.heap[g2]?) := by
        unfold Hid
        rw [hgrow.block g2 (by rw [nblk_alloc]; omega) (fun e => HNe.out e.symm), blk_alloc_lt _ _ _ (by omega)]
        exact HBk.out
      clear hown4 hgrow hat hown hB a0 a1 e0 e1 cz
      go_wp2
      go_roundw
      case rel => exact ⟨j + 1, by omega, by go_num, hs4, hb4, HO4.out, by omega, fun g3 e3 => by simp at e3; subst e3; exact ⟨HNe2.out, HBk2.out⟩⟩
      case measure => simp [intOf]; omega
    · have e : j = m2 := by omega
      have hd0 : decide ((j : Int) < (m2 : Int)) = false := by simp; omega
      have HO := hide hown
      have HB := hide hB
      have HNil := hide hnil
      clear hown hB hne hnil
      go_wp2
      go_ret
      refine ⟨v, rfl, Below.trans (by (repeat (any_goals (first | exact Below.refl _ _ | assumption | refine Below.drew ?_ | refine below_drewN ?_ _ | refine Below.setCell ?_ ?_ _ | refine Below.alloc ?_ ?_ _ | omega | (simp; done) | (simp; omega))))) (HB.out.mono (by omega)), ?_, fun h => HNil.out (by omega)⟩
      have h := owns_mono (base' := w.heap.size) HO.out (by omega)
      rw [List.take_of_length_le (by omega)] at h
      rw [hll, ← e]
      exact h

theorem atCols_at {ax ay bx b2 : Int} {j : Nat} (hj : j < (Num.linesV ax bx).length) : (Num.colsV ax ay bx b2).take (j + 1) = (Num.colsV ax ay bx b2).take j ++ [(fun z => (z, Num.atV ay b2 ax bx z)) (Num.linesV ax bx)[j]] := by
  have hl : j < (Num.colsV ax ay bx b2).length := by unfold Num.colsV; simpa using hj
  rw [List.take_succ_eq_append_getElem hl]
  simp [Num.colsV]

set_option maxRecDepth 100000 in
set_option maxHeartbeats 2000000 in
theorem atCols_any (ax ay bx b2 : Int) (w : World) (ha : (-16384 ≤ ax ∧ ax ≤ 16384) ∧ -16384 ≤ ay ∧ ay ≤ 16384) (hb : (-16384 ≤ bx ∧ bx ≤ 16384) ∧ -16384 ≤ b2 ∧ b2 ≤ 16384) :
    Calls Try.prog 105 #[.agg #[.int .i64 ax, .int .i64 ay], .agg #[.int .i64 bx, .int .i64 b2]] w fun e w' => ∃ v, e = .returned v ∧ Below w.heap.size w w' ∧ w'.ownsRow w.heap.size 53 2 v (Num.colsV ax ay bx b2).length ((Num.colsV ax ay bx b2).flatMap spC) ∧ ((Num.colsV ax ay bx b2).length = 0 → v = .slice none 0 0) := by
  have hmem : ∀ z ∈ Num.linesV ax bx, (ax < z ∧ z < bx) ∨ (bx < z ∧ z < ax) := fun z hz => Num.linesV_mem hz
  have hat0 : ∀ j (hj : j < (Num.linesV ax bx).length), (Num.colsV ax ay bx b2).take (j + 1) = (Num.colsV ax ay bx b2).take j ++ [(fun z => (z, Num.atV ay b2 ax bx z)) (Num.linesV ax bx)[j]] := fun j hj => atCols_at hj
  have hll : (Num.colsV ax ay bx b2).length = (Num.linesV ax bx).length := by unfold Num.colsV; simp
  have hle := Num.linesV_len ax bx
  obtain ⟨i0, hi0, hz0, hz1, hz2⟩ := info_parts info_spot
  have HL := hide (fun w => linesBetween_any ax bx w ha.1 hb.1)
  obtain ⟨L, hL⟩ : ∃ L, L = Num.linesV ax bx := ⟨_, rfl⟩
  obtain ⟨R, hR⟩ : ∃ R, R = Num.colsV ax ay bx b2 := ⟨_, rfl⟩
  rw [← hL] at HL hmem hll hle
  have hat1 : ∀ j (hj : j < L.length), R.take (j + 1) = R.take j ++ [(fun z => (z, Num.atV ay b2 ax bx z)) L[j]] := by rw [hR, hL]; exact hat0
  rw [← hR] at hll ⊢
  have HAt := hide hat1
  have HMem := hide hmem
  clear hL hR hat0 hat1 hmem
  go_enter Try.func105, Try.ntmps105
  go_wp2_with fail
  refine (HL.out _).mono ?_
  rintro e w1 ⟨vL, rfl, hb1, hown1⟩
  have hs1 : w.heap.size + 1 < w1.heap.size := by have := hb1.size; simp at this; omega
  have hB1 : Below (w.heap.size + 2) ((w.alloc (.cells #[.int .i64 ax, .int .i64 ay] 53)).alloc (.cells #[.int .i64 bx, .int .i64 b2] 53)) w1 := hb1.mono (by simp)
  obtain ⟨ao, capL, rfl, hao⟩ := owns_formN hown1
  have HO1 := hide hown1
  have HAo := hide hao
  obtain ⟨m2, hm2⟩ : ∃ m2, m2 = L.length := ⟨_, rfl⟩
  rw [← hm2] at hle hll ⊢
  have HM2 := hide hm2
  have hbl : ∀ g2, ao = some ⟨g2, 0, none⟩ → w.heap.size + 2 ≤ g2 ∧ g2 < w1.heap.size := fun g2 e => by
    have := hown1.lt g2 (by rw [e]; rfl)
    simp at this; omega
  have HBl := hide hbl
  clear hb1 hown1 hao hm2 hbl
  go_wp2_with fail
  go_loopw [5, 15] (fun v t wr => ∃ j : Nat, j ≤ m2 ∧ t = .int .i64 j ∧ w1.heap.size ≤ wr.heap.size ∧ Below (w.heap.size + 2) ((w.alloc (.cells #[.int .i64 ax, .int .i64 ay] 53)).alloc (.cells #[.int .i64 bx, .int .i64 b2] 53)) wr ∧ wr.ownsRow (w.heap.size + 2) 53 2 v j ((R.take j).flatMap spC) ∧ (j = 0 → v = .slice none 0 0) ∧ ∀ g2, ao = some ⟨g2, 0, none⟩ → v.ownBlock ≠ some g2 ∧ wr.heap[g2]? = w1.heap[g2]?) (fun _ t _ => m2 - (intOf t).toNat)
  case atStart => exact ⟨0, by omega, rfl, Nat.le_refl _, hB1, by simpa using World.ownsRow_nil _ _ _ _, fun _ => rfl, fun g2 _ => ⟨by simp [Value.ownBlock], rfl⟩⟩
  case round =>
    obtain ⟨v, rfl⟩ : ∃ v, v = u5 := ⟨_, rfl⟩
    obtain ⟨j, hj, rfl, hsr, hB, hown, hnil, hne⟩ := hrel
    by_cases hlt : j < m2
    · have hjl : j < L.length := by rw [← HM2.out]; exact hlt
      obtain ⟨g2, rfl⟩ := HAo.out (by omega)
      obtain ⟨hne2, hblk⟩ := hne g2 rfl
      obtain ⟨gl1, gl2⟩ := HBl.out g2 rfl
      have hO2 := owns_of_block (w' := wr) HO1.out (fun b hbb => by simp [Value.ownBlock] at hbb; subst hbb; exact hblk)
      have cz := owns_int hO2 j hjl
      have hzm := HMem.out _ (List.getElem_mem hjl)
      have HTk := hide (HAt.out j hjl)
      obtain ⟨z, hz⟩ : ∃ z, z = L[j] := ⟨_, rfl⟩
      rw [← hz] at cz hzm HTk
      clear hO2 hz
      have zb : -16384 ≤ z ∧ z ≤ 16384 := by omega
      have hpq : ax ≠ bx := by omega
      have HC := hide (fun w => meet_any z ax bx ay b2 w hpq zb ha.1 hb.1 ha.2 hb.2)
      obtain ⟨m, hm⟩ : ∃ m, m = Num.atV ay b2 ax bx z := ⟨_, rfl⟩
      rw [← hm] at HC
      have HTk2 : Hid (R.take (j + 1) = R.take j ++ [(z, m)]) := by unfold Hid; rw [HTk.out, hm]
      have hd1 : decide ((j : Int) < (m2 : Int)) = true := by simp; omega
      have sz0 : w.heap.size < wr.heap.size := by omega
      have sz1 : w.heap.size + 1 < wr.heap.size := by omega
      have a0 : wr.cell? ⟨w.heap.size, 0, none⟩ = some (.int .i64 ax) := (hB.cell (p := ⟨w.heap.size, 0, none⟩) (by simp)).trans (by go_simp)
      have a1 : wr.cell? ⟨w.heap.size, 1, none⟩ = some (.int .i64 ay) := (hB.cell (p := ⟨w.heap.size, 1, none⟩) (by simp)).trans (by go_simp)
      have e0 : wr.cell? ⟨w.heap.size + 1, 0, none⟩ = some (.int .i64 bx) := (hB.cell (p := ⟨w.heap.size + 1, 0, none⟩) (by simp)).trans (by go_simp)
      have e1 : wr.cell? ⟨w.heap.size + 1, 1, none⟩ = some (.int .i64 b2) := (hB.cell (p := ⟨w.heap.size + 1, 1, none⟩) (by simp)).trans (by go_simp)
      obtain ⟨xs, hxs⟩ : ∃ xs, xs = (R.take j).flatMap spC := ⟨_, rfl⟩
      rw [← hxs] at hown
      have HX := hide hxs
      have HNe := hide hne2
      have HBk := hide hblk
      clear hm hzm HTk hxs hne hne2 hblk hnil zb hpq
      go_wp2_with fail
      refine (HC.out _).mono ?_
      rintro e w' ⟨rfl, rfl⟩
      go_wp2_with (at_builtin; refine wpList_append_lies _ rfl _ _ 51 rfl (w.heap.size + 2) 53 i0 (.agg #[.int .i64 0, .int .i64 0]) 2 16 Try.underlying51 hi0 hz0 hz1 hz2 rfl (by omega) v j xs rfl (hown.alloc _) ⟨w'.heap.size, 0, none⟩ 1 1 [.int .i64 z, .int .i64 m] rfl rfl ?e1 ?e2 (by omega) ?e3 ?e4 ?e5 (w'.heap.size + 1) (by simp) ?_)
      try (case e1 => exact news_sp w' [.int .i64 z, .int .i64 m] _ _ rfl)
      case e2 => first | exact one_two _ _ | exact ⟨rfl, rfl⟩
      case e3 => unfold maxLen; omega
      case e4 => omega
      case e5 => first | omega | (simp; omega)
      intro g cap w4 hown4 hgrow hat hlt4
      have hb4 : Below (w.heap.size + 2) ((w.alloc (.cells #[.int .i64 ax, .int .i64 ay] 53)).alloc (.cells #[.int .i64 bx, .int .i64 b2] 53)) w4 := (hB.alloc (by omega) _).grown hgrow (by simp; omega) (fun q hq => (hown.lt q hq).1)
      have hs4 : w1.heap.size ≤ w4.heap.size := by have := hgrow.size; rw [nblk_alloc] at this; omega
      have HO4 : Hid (w4.ownsRow (w.heap.size + 2) 53 2 (.slice (some ⟨g, 0, none⟩) (j + 1) cap) (j + 1) ((R.take (j + 1)).flatMap spC)) := by
        unfold Hid
        have := push_sp (l := R.take j) (l' := R.take (j + 1)) (p := (z, m)) (m := j + 1) (by rw [← HX.out]; exact hown4) HTk2.out (by rw [List.length_take, hll]; omega)
        rw [List.length_take, hll, Nat.min_eq_left (by omega)] at this
        exact this
      have HNe2 : Hid ((Value.slice (some ⟨g, 0, none⟩) (j + 1) cap).ownBlock ≠ some g2) := by
        unfold Hid
        intro e
        simp [Value.ownBlock] at e
        rcases hat with hat | hat
        · exact HNe.out (by rw [hat, e])
        · omega
      have HBk2 : Hid (w4.heap[g2]? = w1.heap[g2]?) := by
        unfold Hid
        rw [hgrow.block g2 (by rw [nblk_alloc]; omega) (fun e => HNe.out e.symm), blk_alloc_lt _ _ _ (by omega)]
        exact HBk.out
      clear hown4 hgrow hat hown hB a0 a1 e0 e1 cz
      go_wp2
      go_roundw
      case rel => exact ⟨j + 1, by omega, by go_num, hs4, hb4, HO4.out, by omega, fun g3 e3 => by simp at e3; subst e3; exact ⟨HNe2.out, HBk2.out⟩⟩
      case measure => simp [intOf]; omega
    · have e : j = m2 := by omega
      have hd0 : decide ((j : Int) < (m2 : Int)) = false := by simp; omega
      have HO := hide hown
      have HB := hide hB
      have HNil := hide hnil
      clear hown hB hne hnil
      go_wp2
      go_ret
      refine ⟨v, rfl, Below.trans (by (repeat (any_goals (first | exact Below.refl _ _ | assumption | refine Below.drew ?_ | refine below_drewN ?_ _ | refine Below.setCell ?_ ?_ _ | refine Below.alloc ?_ ?_ _ | omega | (simp; done) | (simp; omega))))) (HB.out.mono (by omega)), ?_, fun h => HNil.out (by omega)⟩
      have h := owns_mono (base' := w.heap.size) HO.out (by omega)
      rw [List.take_of_length_le (by omega)] at h
      rw [hll, ← e]
      exact h

end Go.Proofs.Ytkhcjkmifddlbab
