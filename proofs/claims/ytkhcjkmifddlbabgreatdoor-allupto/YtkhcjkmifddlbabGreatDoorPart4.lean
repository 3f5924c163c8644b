import Derived.Test.YtkhcjkmifddlbabGreatDoorPart3
import Derived.Laws.AppendOwnNone
import Derived.Test.YtkhcjkmifddlbabGreatDoorPart2
set_option maxHeartbeats 8000000
namespace Go.Proofs.YtkhcjkmifddlbabGreatDoor
open Go.RowKit Go.Deep
def sp2 (x y:Int) (q:Nat):Value:=[Value.int .i64 x,.int .i64 y][q]?.getD undef
theorem sp2_row (x y:Int) (w:World) (t:TypeId):(w.alloc (.cells #[.int .i64 x,.int .i64 y] t)).rowIs w.heap.size t 2 (sp2 x y):=by
  refine World.rowIs_alloc w #[.int .i64 x,.int .i64 y] t (sp2 x y) (fun i hi=>?_)
  have hi:i<2:=hi
  rcases (show i=0∨i=1 by omega) with rfl | rfl <;> rfl
theorem sp2_cells {x y:Int} {w:World} {b:Nat} {t:TypeId} (h:w.rowIs b t 2 (sp2 x y)):w.cell? ⟨b,0,none⟩=some (.int .i64 x)∧w.cell? ⟨b,1,none⟩=some (.int .i64 y):=
  ⟨h.cell (i:=0) (by omega),h.cell (i:=1) (by omega)⟩
theorem sp2_set {x y:Int} {w:World} {b:Nat} {t:TypeId} (h:w.rowIs b t 2 (sp2 x y)) (x' y':Int):((w.setCell ⟨b,0,none⟩ (.int .i64 x')).setCell ⟨b,1,none⟩ (.int .i64 y')).rowIs b t 2 (sp2 x' y'):=by
  refine ((h.set 0 _).set 1 _).congr fun q hq=>?_
  rcases (show q=0∨q=1 by omega) with rfl | rfl <;> rfl
theorem set_otherB {w2:World} {h q:Nat} {v:Value} {b:Nat} (hb:b≠h):(w2.setCell ⟨h,q,none⟩ v).heap[b]? = w2.heap[b]?:=blk_setCell_other _ _ _ _ (by simpa using hb)
def cutU (ax ay:Int) (RR:List (Int×Int)) (j:Nat):List (Int×Int):=(ax,ay)::Num.cutF ax ay (RR.take j)
theorem cutU_succ {ax ay:Int} {RR:List (Int×Int)} {j:Nat} (hj:j<RR.length) {x y:Int} (hl:Num.lastS ax ay (RR.take j)=(x,y)) :
    cutU ax ay RR (j+1)=(cutU ax ay RR j++Num.colsV x y RR[j].1 RR[j].2)++[RR[j]]:=by
  unfold cutU
  rw [List.take_succ_eq_append_getElem hj,Num.cutF_snoc,hl]
  simp
theorem cutU_len (ax ay:Int) (RR:List (Int×Int)) (j:Nat) (hj:RR.length≤1027):(cutU ax ay RR j).length≤1054730:=by
  unfold cutU
  have h:=Num.cutF_len (RR.take j) ax ay
  have h2:(RR.take j).length≤1027:=Nat.le_trans (List.length_take_le' _ _) hj
  simp only [List.length_cons]
  omega
theorem cuts_yes {ax ay bx b2:Int} (ha:Num.inB ax ay=true) (hb:Num.inB bx b2=true):Num.cutsE ax ay bx b2=0∧Num.cutsL ax ay bx b2=cutU ax ay (Num.rowsV ax ay bx b2++[(bx,b2)]) (Num.rowsV ax ay bx b2++[(bx,b2)]).length:=by
  have e:Num.cutsE ax ay bx b2=0:=by unfold Num.cutsE;rw [ha,hb];rfl
  refine ⟨e,?_⟩
  unfold Num.cutsL
  rw [if_pos e]
  unfold cutU
  rw [List.take_length]
theorem cuts_no {ax ay bx b2:Int} (h:(Num.inB ax ay && Num.inB bx b2)=false):Num.cutsE ax ay bx b2=6∧Num.cutsL ax ay bx b2=[]:=by
  have e:Num.cutsE ax ay bx b2=6:=by unfold Num.cutsE;rw [h];rfl
  exact ⟨e,by unfold Num.cutsL;rw [if_neg (by rw [e];decide)]⟩
set_option maxRecDepth 100000 in
theorem chordCuts_any (ax ay bx b2:Int) (w:World) :
    Calls Tryz.prog 84 #[.agg #[.int .i64 ax,.int .i64 ay],.agg #[.int .i64 bx,.int .i64 b2]] w fun e w'=>∃v,e=.returned (.tuple #[v,.int .i64 (Num.cutsE ax ay bx b2)])∧Below w.heap.size w w'∧w'.ownsRow w.heap.size 42 2 v (Num.cutsL ax ay bx b2).length ((Num.cutsL ax ay bx b2).flatMap spC):=by
  cases ha:Num.inB ax ay
  · obtain ⟨e1,e2⟩:=cuts_no (ax:=ax) (ay:=ay) (bx:=bx) (b2:=b2) (by rw [ha];rfl)
    rw [e1,e2]
    clear e1 e2
    go_enter Tryz.func84,Tryz.ntmps84
    go_wp2_with (go_at_call 123;refine (inRange_exact _ _ _).mono ?_;rintro e w' ⟨rfl,rfl⟩)
    go_ret2
    exact ⟨_,rfl,by (repeat any_goals first | exact .refl _ _ | assumption | refine .drew ?_ | refine below_drewN ?_ _ | refine .setCell ?_ ?_ _ | refine .alloc ?_ ?_ _ | omega | (simp <;> omega)),World.ownsRow_nil _ _ _ _⟩
  cases hb:Num.inB bx b2
  · obtain ⟨e1,e2⟩:=cuts_no (ax:=ax) (ay:=ay) (bx:=bx) (b2:=b2) (by rw [ha,hb];rfl)
    rw [e1,e2]
    clear e1 e2
    go_enter Tryz.func84,Tryz.ntmps84
    go_wp2_with (go_at_call 123;refine (inRange_exact _ _ _).mono ?_;rintro e w' ⟨rfl,rfl⟩)
    go_ret2
    exact ⟨_,rfl,by (repeat any_goals first | exact .refl _ _ | assumption | refine .drew ?_ | refine below_drewN ?_ _ | refine .setCell ?_ ?_ _ | refine .alloc ?_ ?_ _ | omega | (simp <;> omega)),World.ownsRow_nil _ _ _ _⟩
  obtain ⟨eE,eL⟩:=cuts_yes ha hb
  have hRin:∀t∈Num.rowsV ax ay bx b2++[(bx,b2)],Num.inB t.1 t.2=true:=fun t ht=>by
    rcases List.mem_append.1 ht with ht | ht
    · exact Num.rowsV_in ha hb t ht
    · simp at ht;subst ht;exact hb
  have hRle:=Num.rowsV_len ax ay bx b2
  have HAR:=hide (fun w=>atRows_any ax ay bx b2 w (Num.inB_yes ha) (Num.inB_yes hb))
  obtain ⟨R,hR⟩:∃R,R=Num.rowsV ax ay bx b2:=⟨_,rfl⟩
  rw [←hR] at eL hRin hRle HAR
  obtain ⟨RR,hRR⟩:∃RR,RR=R++[(bx,b2)]:=⟨_,rfl⟩
  have hRRl:RR.length=R.length+1:=by rw [hRR];simp
  rw [←hRR] at eL hRin
  have HRf:Hid (RR.flatMap spC=R.flatMap spC++[.int .i64 bx,.int .i64 b2]):=by unfold Hid;rw [hRR];simp [spC]
  rw [eE,eL]
  have HIn:=hide hRin
  clear hR hRR eE eL hRin
  obtain ⟨i0,hi0,hz0,hz1,hz2⟩:=info_parts info_spot
  go_enter Tryz.func84,Tryz.ntmps84
  go_wp2_with (go_at_call 123;refine (inRange_exact _ _ _).mono ?_;rintro e w' ⟨rfl,rfl⟩)
  refine (HAR.out _).mono ?_
  rintro e w1 ⟨vR,rfl,hb1,hown1,_⟩
  have hs1:w.heap.size+1<w1.heap.size:=by have:=hb1.size;simp at this;omega
  have hs0:w.heap.size<w1.heap.size:=by omega
  have hB1:Below w.heap.size w w1:=Below.trans (by (repeat any_goals first | exact .refl _ _ | assumption | refine .drew ?_ | refine below_drewN ?_ _ | refine .setCell ?_ ?_ _ | refine .alloc ?_ ?_ _ | omega | (simp <;> omega))) (hb1.mono (by simp;omega))
  have a0:w1.cell? ⟨w.heap.size,0,none⟩=some (.int .i64 ax):=(hb1.cell (p:=⟨w.heap.size,0,none⟩) (by first | (simp;done) | (simp;omega))).trans (by go_simp)
  have a1:w1.cell? ⟨w.heap.size,1,none⟩=some (.int .i64 ay):=(hb1.cell (p:=⟨w.heap.size,1,none⟩) (by first | (simp;done) | (simp;omega))).trans (by go_simp)
  have e0:w1.cell? ⟨w.heap.size+1,0,none⟩=some (.int .i64 bx):=(hb1.cell (p:=⟨w.heap.size+1,0,none⟩) (by first | (simp;done) | (simp;omega))).trans (by go_simp)
  have e1:w1.cell? ⟨w.heap.size+1,1,none⟩=some (.int .i64 b2):=(hb1.cell (p:=⟨w.heap.size+1,1,none⟩) (by first | (simp;done) | (simp;omega))).trans (by go_simp)
  have hown1:=owns_mono (base':=w.heap.size+2) hown1 (by simp)
  clear hb1
  obtain ⟨m,hm⟩:∃m,m=R.length:=⟨_,rfl⟩
  obtain ⟨xs,hxs⟩:∃xs,xs=R.flatMap spC:=⟨_,rfl⟩
  rw [←hm,←hxs] at hown1
  rw [←hm] at hRRl hRle
  rw [←hxs] at HRf
  clear hm hxs
  go_wp2_with (at_builtin;refine wpList_append_lies _ rfl _ _ 88 rfl (w.heap.size+2) 42 i0 (.agg #[.int .i64 0,.int .i64 0]) 2 16 Tryz.underlying88 hi0 hz0 hz1 hz2 rfl (by omega) vR m xs rfl (hown1.alloc _) ⟨w1.heap.size,0,none⟩ 1 1 [.int .i64 bx,.int .i64 b2] rfl rfl ?e1 ?e2 (by omega) ?e3 ?e4 ?e5 (w1.heap.size+1) (by simp) ?_)
  try (case e1=>exact news_sp w1 [.int .i64 bx,.int .i64 b2] _ _ rfl)
  case e2=>first | exact one_two _ _ | exact ⟨rfl,rfl⟩
  case e3=>unfold maxLen;omega
  case e4=>omega
  case e5=>first | omega | (simp;omega)
  intro g6 cap6 w2 hown2 hgrow hat hlt2
  have hB2:Below w.heap.size w w2:=(hB1.alloc (by omega) _).grown hgrow (by simp;omega) (fun q hq=>by have:=(hown1.lt q hq).1;omega)
  have hs2:w.heap.size+1<w2.heap.size:=by have:=hgrow.size;rw [nblk_alloc] at this;omega
  have hs2':w.heap.size<w2.heap.size:=by omega
  have hty:∀b,b<w.heap.size+2→some b≠vR.ownBlock:=fun b hb e=>by have:=(hown1.lt b e.symm).1;omega
  have a0':w2.cell? ⟨w.heap.size,0,none⟩=some (.int .i64 ax):=(hgrow.cell_far ⟨w.heap.size,0,none⟩ (by simp;omega) (hty _ (by simp))).trans (by go_simp)
  have a1':w2.cell? ⟨w.heap.size,1,none⟩=some (.int .i64 ay):=(hgrow.cell_far ⟨w.heap.size,1,none⟩ (by simp;omega) (hty _ (by simp))).trans (by go_simp)
  have hg6:w.heap.size+2≤g6:=(hown2.lt g6 rfl).1
  rw [←HRf.out,←hRRl] at hown2
  have HO2:=hide hown2
  clear hown2 hgrow hat hown1 hB1 a0 a1 e0 e1 hty
  obtain ⟨n,hn⟩:∃n,n=RR.length:=⟨_,rfl⟩
  have hmn:m+1=n:=by omega
  rw [hmn]
  have HN:=hide hn
  have hRR2:RR.length≤1027:=by omega
  have n2:n≤1027:=by omega
  have HLt:=hide hRR2
  clear hn hmn hRRl hRle hRR2
  have HF0:=hide (sp2_row ax ay (w2.alloc (.cells #[.int .i64 ax,.int .i64 ay] 42)) 42)
  have HV0:=hide (World.ownsRow_lit (base:=w.heap.size) (e:=42) (size:=2) w2 #[.int .i64 ax,.int .i64 ay] 1 (by omega) (by unfold maxLen;omega) rfl)
  rw [nblk_alloc] at HF0
  obtain ⟨FB,hFB⟩:∃FB,FB=w2.heap.size+1:=⟨_,rfl⟩
  go_wp2_with fail
  rw [←hFB] at HF0 ⊢
  have hFB1:w2.heap.size<FB:=by omega
  have hFB2:FB<w2.heap.size+2:=by omega
  clear hFB
  go_loopw [7,32] (fun v t wr=>∃(j:Nat) (x y:Int),j≤n∧t=.int .i64 j∧FB<wr.heap.size∧Below w.heap.size w wr∧wr.rowIs FB 42 2 (sp2 x y)∧Num.lastS ax ay (RR.take j)=(x,y)∧wr.heap[g6]? = w2.heap[g6]?∧v.ownBlock≠some g6∧v.ownBlock≠some FB∧wr.ownsRow w.heap.size 42 2 v (cutU ax ay RR j).length ((cutU ax ay RR j).flatMap spC)) (fun _ t _=>n-(intOf t).toNat)
  case atStart=>
    refine ⟨0,ax,ay,by omega,rfl,?_,?_,HF0.out,rfl,?_,?_,?_,?_⟩
    · have:=HF0.out.lt;exact this
    · exact (hB2.alloc (by omega) _).alloc (by simp;omega) _
    · rw [blk_alloc_lt _ _ _ (by simp;omega),blk_alloc_lt _ _ _ (by omega)]
    · simp [Value.ownBlock];omega
    · simp [Value.ownBlock];omega
    · have e:cutU ax ay RR 0=[(ax,ay)]:=by simp [cutU,Num.cutF]
      rw [e]
      exact HV0.out.alloc _
  case round=>
    obtain ⟨v,rfl⟩:∃v,v=u7:=⟨_,rfl⟩
    obtain ⟨j,fx,fy,hj,rfl,hsr,hB,hFr,hlast,hblk,hne6,hneF,hown⟩:=hrel
    by_cases hlt:j<n
    · have hjl:j<RR.length:=by rw [←HN.out];exact hlt
      have hO6:=owns_of_block (w':=wr) HO2.out (fun b hbb=>by simp [Value.ownBlock] at hbb;subst hbb;exact hblk)
      obtain ⟨q0,q1⟩:=owns_sp hO6 j hjl
      have hlen:=cutU_len ax ay RR j HLt.out
      have hlen2:=cutU_len ax ay RR (j+1) HLt.out
      have HSu:=hide (cutU_succ hjl hlast)
      have hfin:Num.inB fx fy=true:=by
        have:=Num.lastS_in (RR.take j) ax ay ha (fun t ht=>HIn.out t (List.mem_of_mem_take ht))
        rw [hlast] at this
        exact this
      have htin:=HIn.out _ (List.getElem_mem hjl)
      have HLa:Hid (Num.lastS ax ay (RR.take (j+1))=RR[j]):=by unfold Hid;rw [List.take_succ_eq_append_getElem hjl,Num.lastS_snoc]
      obtain ⟨tt,htt⟩:∃tt,tt=RR[j]:=⟨_,rfl⟩
      rw [←htt] at q0 q1 HSu htin HLa
      obtain ⟨tx,ty⟩:=tt
      simp only at q0 q1 HSu htin
      have HC:=hide (fun w=>atCols_any fx fy tx ty w (Num.inB_yes hfin) (Num.inB_yes htin))
      have hcl:=Num.colsV_len fx fy tx ty
      obtain ⟨CV,hCV⟩:∃CV,CV=Num.colsV fx fy tx ty:=⟨_,rfl⟩
      rw [←hCV] at HC HSu hcl
      obtain ⟨f0,f1⟩:=sp2_cells hFr
      have HFr:=hide hFr
      have HBk:=hide hblk
      have HNe6:=hide hne6
      have HNeF:=hide hneF
      obtain ⟨U,hU⟩:∃U,U=cutU ax ay RR j:=⟨_,rfl⟩
      rw [←hU] at HSu hown hlen
      have hd1:decide ((j:Int)<(n:Int))=true:=by simp;omega
      have hg6w:g6<wr.heap.size:=(hO6.lt g6 rfl).2
      clear hO6 htt hfin htin hCV hU hlast hFr hblk hne6 hneF
      go_wp2_with fail
      refine (HC.out _).mono ?_
      rintro e w5 ⟨vC,rfl,hb5,hown5,hnil5⟩
      have hs5:wr.heap.size<w5.heap.size:=by have:=hb5.size;simp at this;omega
      have k0:w5.cell? ⟨wr.heap.size,0,none⟩=some (.int .i64 tx):=(hb5.cell (p:=⟨wr.heap.size,0,none⟩) (by simp)).trans (by go_simp)
      have k1:w5.cell? ⟨wr.heap.size,1,none⟩=some (.int .i64 ty):=(hb5.cell (p:=⟨wr.heap.size,1,none⟩) (by simp)).trans (by go_simp)
      have hB5:Below w.heap.size w w5:=(hB.alloc (by omega) _).trans (hb5.mono (by simp;omega))
      have HF5:=hide (row_below (HFr.out.alloc (.cells #[.int .i64 tx,.int .i64 ty] 42)) hb5 (by simp;omega))
      have hownA:=hown.alloc (.cells #[.int .i64 tx,.int .i64 ty] 42)
      have hownV:=owns_of_block hownA (fun b hbb=>hb5.block b (hownA.lt b hbb).2)
      have hvlt:∀b,v.ownBlock=some b→b<wr.heap.size:=fun b hbb=>(hown.lt b hbb).2
      have HBk5:Hid (w5.heap[g6]? = w2.heap[g6]?):=by
        unfold Hid
        rw [hb5.block g6 (by simp;omega),blk_alloc_lt _ _ _ hg6w]
        exact HBk.out
      have HVl:=hide hvlt
      clear hb5 hownA hown hB f0 f1 q0 q1 hvlt
      by_cases hc0:CV.length=0
      · have hv0:=hnil5 hc0
        have hCV0:CV=[]:=List.eq_nil_of_length_eq_zero hc0
        subst hv0 hCV0
        rw [List.append_nil] at HSu
        obtain ⟨ln,hln⟩:∃ln,ln=U.length:=⟨_,rfl⟩
        obtain ⟨ys,hys⟩:∃ys,ys=U.flatMap spC:=⟨_,rfl⟩
        rw [←hln,←hys] at hownV
        rw [←hln] at hlen
        have HLn:=hide hln
        have HYs:=hide hys
        clear hln hys hnil5 hown5
        go_wp2_with (at_builtin;first | refine wpList_append_own_none rfl _ _ 88 rfl w.heap.size 42 i0 2 Tryz.underlying88 hi0 v ln ys rfl hownV rfl ?_ | refine wpList_append_lies _ rfl _ _ 88 rfl w.heap.size 42 i0 (.agg #[.int .i64 0,.int .i64 0]) 2 16 Tryz.underlying88 hi0 hz0 hz1 hz2 rfl (by omega) v ln ys rfl (hownV.alloc _) ⟨w5.heap.size,0,none⟩ 1 1 [.int .i64 tx,.int .i64 ty] rfl rfl ?h1 ?h2 (by omega) ?h3 ?h4 ?h5 (w5.heap.size+1) (by simp) ?_)
        try (case h1=>exact news_sp w5 [.int .i64 tx,.int .i64 ty] _ _ rfl)
        case h2=>first | exact one_two _ _ | exact ⟨rfl,rfl⟩
        case h3=>unfold maxLen;omega
        case h4=>omega
        case h5=>first | omega | (simp;omega)
        intro g8 cap8 w8 hown8 hgrow8 hat8 hlt8
        have hs8:=hgrow8.size
        rw [nblk_alloc] at hs8
        have hb8:Below w.heap.size w w8:=(hB5.alloc (by omega) _).grown hgrow8 (by simp;omega) (fun q hq=>(hownV.lt q hq).1)
        have hF8:w8.rowIs FB 42 2 (sp2 fx fy):=(HF5.out.alloc _).of_block (hgrow8.block FB (by rw [nblk_alloc];omega) (fun e=>HNeF.out e.symm))
        obtain ⟨f0,f1⟩:=sp2_cells hF8
        have z0:=hF8.frozen 0
        have z1:=hF8.frozen 1
        have hF8lt:=hF8.lt
        have HF9:=hide (sp2_set hF8 tx ty)
        have hbk8:w8.heap[g6]? = w2.heap[g6]?:=by
          rw [hgrow8.block g6 (by rw [nblk_alloc];omega) (fun e=>HNe6.out e.symm),blk_alloc_lt _ _ _ (by omega)]
          exact HBk5.out
        have hg6F:g6≠FB:=by omega
        have HBk9:Hid (((w8.setCell ⟨FB,0,none⟩ (.int .i64 tx)).setCell ⟨FB,1,none⟩ (.int .i64 ty)).heap[g6]? = w2.heap[g6]?):=by
          unfold Hid
          rw [set_otherB hg6F,set_otherB hg6F]
          exact hbk8
        have hn6':(Value.slice (some ⟨g8,0,none⟩) (ln+1) cap8).ownBlock≠some g6:=fun e=>by
          simp [Value.ownBlock] at e
          rcases hat8 with hat8 | hat8
          · exact HNe6.out (by rw [hat8,e])
          · omega
        have hnF':(Value.slice (some ⟨g8,0,none⟩) (ln+1) cap8).ownBlock≠some FB:=fun e=>by
          simp [Value.ownBlock] at e
          rcases hat8 with hat8 | hat8
          · exact HNeF.out (by rw [hat8,e])
          · omega
        have HO9:Hid (((w8.setCell ⟨FB,0,none⟩ (.int .i64 tx)).setCell ⟨FB,1,none⟩ (.int .i64 ty)).ownsRow w.heap.size 42 2 (.slice (some ⟨g8,0,none⟩) (ln+1) cap8) (cutU ax ay RR (j+1)).length ((cutU ax ay RR (j+1)).flatMap spC)):=by
          unfold Hid
          have h:=push_sp (l:=U) (l':=cutU ax ay RR (j+1)) (p:=(tx,ty)) (m:=ln+1) (by rw [←HYs.out];exact hown8) HSu.out (by rw [HLn.out])
          exact owns_of_block h (fun b hbb=>by rw [set_otherB (fun e=>hnF' (by rw [hbb,e])),set_otherB (fun e=>hnF' (by rw [hbb,e]))])
        have HB9:Hid (Below w.heap.size w ((w8.setCell ⟨FB,0,none⟩ (.int .i64 tx)).setCell ⟨FB,1,none⟩ (.int .i64 ty))):=(hb8.setCell (by show w.heap.size≤FB;omega) _).setCell (by show w.heap.size≤FB;omega) _
        have HN9:=hide (And.intro hn6' hnF')
        have hs9:FB<((w8.setCell ⟨FB,0,none⟩ (.int .i64 tx)).setCell ⟨FB,1,none⟩ (.int .i64 ty)).heap.size:=HF9.out.lt
        have HS9:=hide hs9
        have hnw:some wr.heap.size≠v.ownBlock:=fun e=>by have:=(hownV.lt _ e.symm);exact absurd (HVl.out _ e.symm) (Nat.lt_irrefl _)
        have p0:w8.cell? ⟨wr.heap.size,0,none⟩=some (.int .i64 tx):=(hgrow8.cell_far ⟨wr.heap.size,0,none⟩ (by simp;omega) hnw).trans (by go_simp)
        have p1:w8.cell? ⟨wr.heap.size,1,none⟩=some (.int .i64 ty):=(hgrow8.cell_far ⟨wr.heap.size,1,none⟩ (by simp;omega) hnw).trans (by go_simp)
        have hwr8:wr.heap.size<w8.heap.size:=by omega
        have hFBr:FB<wr.heap.size:=hsr
        clear hown8 hgrow8 hat8 hF8 hbk8 hn6' hnF' hb8 hnw hownV hs9
        go_wp2
        go_roundw
        case rel=>exact ⟨j+1,tx,ty,by omega,by go_num,HS9.out,HB9.out,HF9.out,HLa.out,HBk9.out,HN9.out.1,HN9.out.2,HO9.out⟩
        case measure=>simp [intOf];omega
      · obtain ⟨gC,capC,rfl,hgC1,hgC2⟩:=hown5.form (by omega)
        have HNews:=hide (news_row hown5)
        have HFl:=hide (flat2_len CV)
        have HOne:=hide (flat2_one CV)
        obtain ⟨lc,hlc⟩:∃lc,lc=CV.length:=⟨_,rfl⟩
        obtain ⟨zs,hzs⟩:∃zs,zs=CV.flatMap spC:=⟨_,rfl⟩
        obtain ⟨lu,hlu⟩:∃lu,lu=U.length:=⟨_,rfl⟩
        obtain ⟨us,hus⟩:∃us,us=U.flatMap spC:=⟨_,rfl⟩
        rw [←hzs] at HNews HFl HOne
        rw [←hlc] at HFl hc0 hcl ⊢
        rw [←hlu,←hus] at hownV
        rw [←hlu] at hlen
        have HSum:Hid ((U++CV).length=lu+lc∧(U++CV).flatMap spC=us++zs):=by
          unfold Hid;rw [hlu,hlc,hus,hzs];simp
        clear hlc hzs hlu hus hnil5 hown5
        go_wp2_with (at_builtin;refine wpList_append_lies _ rfl _ _ 88 rfl w.heap.size 42 i0 (.agg #[.int .i64 0,.int .i64 0]) 2 16 Tryz.underlying88 hi0 hz0 hz1 hz2 rfl (by omega) v lu us rfl hownV ⟨gC,0,none⟩ lc capC zs rfl HFl.out HNews.out HOne.out (by omega) ?r3 ?r4 ?r5 w5.heap.size rfl ?_)
        case r3=>unfold maxLen;omega
        case r4=>omega
        case r5=>first | omega | (simp;omega)
        intro g7 cap7 w7 hown7 hgrow7 hat7 hlt7
        have hs7:=hgrow7.size
        have hB7:Below w.heap.size w w7:=hB5.grown hgrow7 (by omega) (fun q hq=>(hownV.lt q hq).1)
        have hFBlt:FB<w5.heap.size:=by omega
        have HF7:=hide (HF5.out.of_block (hgrow7.block FB hFBlt (fun e=>HNeF.out e.symm)))
        have HBk7:Hid (w7.heap[g6]? = w2.heap[g6]?):=by
          unfold Hid
          rw [hgrow7.block g6 (by omega) (fun e=>HNe6.out e.symm)]
          exact HBk5.out
        have hnk:some wr.heap.size≠v.ownBlock:=fun e=>by have:=HVl.out _ e.symm;omega
        have k0':w7.cell? ⟨wr.heap.size,0,none⟩=some (.int .i64 tx):=(hgrow7.cell_far ⟨wr.heap.size,0,none⟩ hs5 hnk).trans k0
        have k1':w7.cell? ⟨wr.heap.size,1,none⟩=some (.int .i64 ty):=(hgrow7.cell_far ⟨wr.heap.size,1,none⟩ hs5 hnk).trans k1
        have hs7':wr.heap.size<w7.heap.size:=by omega
        have HNe6':Hid ((Value.slice (some ⟨g7,0,none⟩) (lu+lc) cap7).ownBlock≠some g6):=by
          unfold Hid
          intro e
          simp [Value.ownBlock] at e
          rcases hat7 with hat7 | hat7
          · exact HNe6.out (by rw [hat7,e])
          · omega
        have HNeF':Hid ((Value.slice (some ⟨g7,0,none⟩) (lu+lc) cap7).ownBlock≠some FB):=by
          unfold Hid
          intro e
          simp [Value.ownBlock] at e
          rcases hat7 with hat7 | hat7
          · exact HNeF.out (by rw [hat7,e])
          · omega
        have HNw':Hid (some wr.heap.size≠(Value.slice (some ⟨g7,0,none⟩) (lu+lc) cap7).ownBlock):=by
          unfold Hid
          intro e
          simp [Value.ownBlock] at e
          rcases hat7 with hat7 | hat7
          · have:=HVl.out g7 hat7;omega
          · omega
        clear hgrow7 hat7 hownV hB5 k0 k1 HF5 HBk5 HNe6 HNeF
        obtain ⟨v7,hv7⟩:∃v7,v7=Value.slice (some ⟨g7,0,none⟩) (lu+lc) cap7:=⟨_,rfl⟩
        rw [←hv7] at HNe6' HNeF' HNw' hown7 ⊢
        have HNe6:=HNe6'
        have HNeF:=HNeF'
        have HNw:=HNw'
        clear hv7 HNe6' HNeF' HNw'
        obtain ⟨ln,hln⟩:∃ln,ln=lu+lc:=⟨_,rfl⟩
        obtain ⟨ys,hys⟩:∃ys,ys=us++zs:=⟨_,rfl⟩
        rw [←hln,←hys] at hown7
        rw [←hln,←hys] at HSum
        have hlen':ln≤1100000:=by omega
        have HLn:Hid (ln=(U++CV).length):=HSum.out.1.symm
        have HYs:Hid (ys=(U++CV).flatMap spC):=HSum.out.2.symm
        clear hln hys
        go_wp2_with (at_builtin;refine wpList_append_lies _ rfl _ _ 88 rfl w.heap.size 42 i0 (.agg #[.int .i64 0,.int .i64 0]) 2 16 Tryz.underlying88 hi0 hz0 hz1 hz2 rfl (by omega) v7 ln ys rfl (hown7.alloc _) ⟨w7.heap.size,0,none⟩ 1 1 [.int .i64 tx,.int .i64 ty] rfl rfl ?l1 ?l2 (by omega) ?l3 ?l4 ?l5 (w7.heap.size+1) (by simp) ?_)
        try (case l1=>exact news_sp w7 [.int .i64 tx,.int .i64 ty] _ _ rfl)
        case l2=>first | exact one_two _ _ | exact ⟨rfl,rfl⟩
        case l3=>unfold maxLen;omega
        case l4=>omega
        case l5=>first | omega | (simp;omega)
        intro g8 cap8 w8 hown8 hgrow8 hat8 hlt8
        have hs8:=hgrow8.size
        rw [nblk_alloc] at hs8
        have hb8:Below w.heap.size w w8:=(hB7.alloc (by omega) _).grown hgrow8 (by simp;omega) (fun q hq=>(hown7.lt q hq).1)
        have hF8:w8.rowIs FB 42 2 (sp2 fx fy):=(HF7.out.alloc _).of_block (hgrow8.block FB (by rw [nblk_alloc];omega) (fun e=>HNeF.out e.symm))
        obtain ⟨f0,f1⟩:=sp2_cells hF8
        have z0:=hF8.frozen 0
        have z1:=hF8.frozen 1
        have hF8lt:=hF8.lt
        have HF9:=hide (sp2_set hF8 tx ty)
        have hbk8:w8.heap[g6]? = w2.heap[g6]?:=by
          rw [hgrow8.block g6 (by rw [nblk_alloc];omega) (fun e=>HNe6.out e.symm),blk_alloc_lt _ _ _ (by omega)]
          exact HBk7.out
        have hg6F:g6≠FB:=by omega
        have HBk9:Hid (((w8.setCell ⟨FB,0,none⟩ (.int .i64 tx)).setCell ⟨FB,1,none⟩ (.int .i64 ty)).heap[g6]? = w2.heap[g6]?):=by
          unfold Hid
          rw [set_otherB hg6F,set_otherB hg6F]
          exact hbk8
        have hn6':(Value.slice (some ⟨g8,0,none⟩) (ln+1) cap8).ownBlock≠some g6:=fun e=>by
          simp [Value.ownBlock] at e
          rcases hat8 with hat8 | hat8
          · exact HNe6.out (by rw [hat8,e])
          · omega
        have hnF':(Value.slice (some ⟨g8,0,none⟩) (ln+1) cap8).ownBlock≠some FB:=fun e=>by
          simp [Value.ownBlock] at e
          rcases hat8 with hat8 | hat8
          · exact HNeF.out (by rw [hat8,e])
          · omega
        have HO9:Hid (((w8.setCell ⟨FB,0,none⟩ (.int .i64 tx)).setCell ⟨FB,1,none⟩ (.int .i64 ty)).ownsRow w.heap.size 42 2 (.slice (some ⟨g8,0,none⟩) (ln+1) cap8) (cutU ax ay RR (j+1)).length ((cutU ax ay RR (j+1)).flatMap spC)):=by
          unfold Hid
          have h:=push_sp (l:=(U++CV)) (l':=cutU ax ay RR (j+1)) (p:=(tx,ty)) (m:=ln+1) (by rw [←HYs.out];exact hown8) HSu.out (by rw [HLn.out])
          exact owns_of_block h (fun b hbb=>by rw [set_otherB (fun e=>hnF' (by rw [hbb,e])),set_otherB (fun e=>hnF' (by rw [hbb,e]))])
        have HB9:Hid (Below w.heap.size w ((w8.setCell ⟨FB,0,none⟩ (.int .i64 tx)).setCell ⟨FB,1,none⟩ (.int .i64 ty))):=(hb8.setCell (by show w.heap.size≤FB;omega) _).setCell (by show w.heap.size≤FB;omega) _
        have HN9:=hide (And.intro hn6' hnF')
        have hs9:FB<((w8.setCell ⟨FB,0,none⟩ (.int .i64 tx)).setCell ⟨FB,1,none⟩ (.int .i64 ty)).heap.size:=HF9.out.lt
        have HS9:=hide hs9
        have hnw:some wr.heap.size≠v7.ownBlock:=fun e=>by have:=(hown7.lt _ e.symm);exact HNw.out e
        have p0:w8.cell? ⟨wr.heap.size,0,none⟩=some (.int .i64 tx):=(hgrow8.cell_far ⟨wr.heap.size,0,none⟩ (by simp;omega) hnw).trans (by go_simp)
        have p1:w8.cell? ⟨wr.heap.size,1,none⟩=some (.int .i64 ty):=(hgrow8.cell_far ⟨wr.heap.size,1,none⟩ (by simp;omega) hnw).trans (by go_simp)
        have hwr8:wr.heap.size<w8.heap.size:=by omega
        have hFBr:FB<wr.heap.size:=hsr
        clear hown8 hgrow8 hat8 hF8 hbk8 hn6' hnF' hb8 hnw hown7 hs9
        go_wp2
        go_roundw
        case rel=>exact ⟨j+1,tx,ty,by omega,by go_num,HS9.out,HB9.out,HF9.out,HLa.out,HBk9.out,HN9.out.1,HN9.out.2,HO9.out⟩
        case measure=>simp [intOf];omega
    · have e:j=n:=by omega
      have hd0:decide ((j:Int)<(n:Int))=false:=by simp;omega
      have HO:=hide hown
      have HB:=hide hB
      clear hown hB hFr hlast hblk hne6 hneF
      go_wp2
      go_ret2
      refine ⟨v,rfl,HB.out,?_⟩
      have h:=HO.out
      rw [e,HN.out] at h
      exact h
theorem glyphCuts_any (ax ay bx b2:Int) (w:World) :
    Calls Tryz.prog 42 #[.agg #[.int .i64 ax,.int .i64 ay],.agg #[.int .i64 bx,.int .i64 b2]] w fun e w'=>∃v,e=.returned (.tuple #[v,.int .i64 (Num.cutsE ax ay bx b2)])∧Below w.heap.size w w'∧w'.ownsRow w.heap.size 42 2 v (Num.cutsL ax ay bx b2).length ((Num.cutsL ax ay bx b2).flatMap spC):=by
  go_enter Tryz.func42,Tryz.ntmps42
  go_wp2_with fail
  refine (chordCuts_any _ _ _ _ _).mono ?_
  rintro e w1 ⟨v,rfl,hb,hown⟩
  have hb0:Below w.heap.size w w1:=Below.trans (by (repeat any_goals first | exact .refl _ _ | assumption | refine .drew ?_ | refine below_drewN ?_ _ | refine .setCell ?_ ?_ _ | refine .alloc ?_ ?_ _ | omega | (simp <;> omega))) (hb.mono (by simp;omega))
  have HW:=hide (owns_mono (base':=w.heap.size) hown (by simp;omega))
  clear hown hb
  go_wp2
  go_ret2
  exact ⟨v,rfl,hb0,HW.out⟩
def sg9 (k x0 y0 x1 y1 x2 y2 x3 y3:Int) (q:Nat):Value:=[Value.int .i64 k,.int .i64 x0,.int .i64 y0,.int .i64 x1,.int .i64 y1,.int .i64 x2,.int .i64 y2,.int .i64 x3,.int .i64 y3][q]?.getD undef
theorem sg9_row (k x0 y0 x1 y1 x2 y2 x3 y3:Int) (w:World) (t:TypeId):(w.alloc (.cells #[.int .i64 k,.int .i64 x0,.int .i64 y0,.int .i64 x1,.int .i64 y1,.int .i64 x2,.int .i64 y2,.int .i64 x3,.int .i64 y3] t)).rowIs w.heap.size t 9 (sg9 k x0 y0 x1 y1 x2 y2 x3 y3):=by
  refine World.rowIs_alloc w #[.int .i64 k,.int .i64 x0,.int .i64 y0,.int .i64 x1,.int .i64 y1,.int .i64 x2,.int .i64 y2,.int .i64 x3,.int .i64 y3] t (sg9 k x0 y0 x1 y1 x2 y2 x3 y3) (fun i hi=>?_)
  have hi:i<9:=hi
  rcases (show i=0∨i=1∨i=2∨i=3∨i=4∨i=5∨i=6∨i=7∨i=8 by omega) with rfl | rfl | rfl | rfl | rfl | rfl | rfl | rfl | rfl <;> rfl
theorem sg9_cells {k x0 y0 x1 y1 x2 y2 x3 y3:Int} {w:World} {b:Nat} {t:TypeId} (h:w.rowIs b t 9 (sg9 k x0 y0 x1 y1 x2 y2 x3 y3)) :
    w.cell? ⟨b,0,none⟩=some (.int .i64 k)∧w.cell? ⟨b,1,none⟩=some (.int .i64 x0)∧w.cell? ⟨b,2,none⟩=some (.int .i64 y0)∧w.cell? ⟨b,3,none⟩=some (.int .i64 x1)∧w.cell? ⟨b,4,none⟩=some (.int .i64 y1)∧w.cell? ⟨b,5,none⟩=some (.int .i64 x2)∧w.cell? ⟨b,6,none⟩=some (.int .i64 y2)∧w.cell? ⟨b,7,none⟩=some (.int .i64 x3)∧w.cell? ⟨b,8,none⟩=some (.int .i64 y3):=
  ⟨h.cell (i:=0) (by omega),h.cell (i:=1) (by omega),h.cell (i:=2) (by omega),h.cell (i:=3) (by omega),h.cell (i:=4) (by omega),h.cell (i:=5) (by omega),h.cell (i:=6) (by omega),h.cell (i:=7) (by omega),h.cell (i:=8) (by omega)⟩
def spotsU (g:Num.Sg) (N j:Nat):List (Int×Int):=(List.range j).map fun (i:Nat)=>(Num.spotX g N i,Num.spotY g N i)
theorem spotsU_succ (g:Num.Sg) (N j:Nat):spotsU g N (j+1)=spotsU g N j++[(Num.spotX g N j,Num.spotY g N j)]:=by
  unfold spotsU;rw [List.range_succ,List.map_append];rfl
theorem spotsU_len (g:Num.Sg) (N j:Nat):(spotsU g N j).length=j:=by simp [spotsU]
theorem curveN_eq {g:Num.Sg} (hr:Num.rangeB g=true):(Num.curveN g:Int)=Num.stepsV (Num.needV g)∧1≤Num.curveN g∧Num.curveN g≤111:=by
  have h:=Num.needV_bd hr
  have h1:=Num.stepsV_pos h.2
  have h2:=Num.stepsV_le h.2
  unfold Num.curveN
  omega
theorem curve_yes {g:Num.Sg} (hk:Num.kindB g=true) (hr:Num.rangeB g=true):Num.curveE g=0∧Num.curveL g=spotsU g (Num.curveN g) (Num.curveN g+1):=by
  have e:Num.curveE g=0:=by unfold Num.curveE;rw [hk,hr];rfl
  refine ⟨e,?_⟩
  unfold Num.curveL
  rw [if_pos e]
  rfl
theorem curve_no {g:Num.Sg} {E:Int} (h:Num.curveE g=E) (hE:E≠0):Num.curveL g=[]:=by
  unfold Num.curveL
  rw [if_neg (by omega)]
set_option maxRecDepth 100000 in
theorem chordCurve_any (k x0 y0 x1 y1 x2 y2 x3 y3:Int) (w:World) :
    Calls Tryz.prog 77 #[.agg #[.int .i64 k,.int .i64 x0,.int .i64 y0,.int .i64 x1,.int .i64 y1,.int .i64 x2,.int .i64 y2,.int .i64 x3,.int .i64 y3]] w fun e w'=>∃v,e=.returned (.tuple #[v,.int .i64 (Num.curveE (⟨k,x0,y0,x1,y1,x2,y2,x3,y3⟩:Num.Sg))])∧Below w.heap.size w w'∧w'.ownsRow w.heap.size 42 2 v (Num.curveL (⟨k,x0,y0,x1,y1,x2,y2,x3,y3⟩:Num.Sg)).length ((Num.curveL (⟨k,x0,y0,x1,y1,x2,y2,x3,y3⟩:Num.Sg)).flatMap spC):=by
  cases hk:Num.kindB (⟨k,x0,y0,x1,y1,x2,y2,x3,y3⟩:Num.Sg)
  · have hE:Num.curveE (⟨k,x0,y0,x1,y1,x2,y2,x3,y3⟩:Num.Sg)=3:=by unfold Num.curveE;rw [hk];rfl
    rw [hE,curve_no hE (by decide)]
    obtain ⟨k0,k1,k2⟩:=Num.kind_no hk
    simp only at k0 k1 k2
    have t0:(k != 0)=true:=by simpa using k0
    have t1:(k != 1)=true:=by simpa using k1
    have t2:(k != 2)=true:=by simpa using k2
    clear hk hE k0 k1 k2
    go_enter Tryz.func77,Tryz.ntmps77
    go_wp2
    go_ret2
    exact ⟨_,rfl,by (repeat any_goals first | exact .refl _ _ | assumption | refine .drew ?_ | refine below_drewN ?_ _ | refine .setCell ?_ ?_ _ | refine .alloc ?_ ?_ _ | omega | (simp <;> omega)),World.ownsRow_nil _ _ _ _⟩
  cases hr:Num.rangeB (⟨k,x0,y0,x1,y1,x2,y2,x3,y3⟩:Num.Sg)
  · have hE:Num.curveE (⟨k,x0,y0,x1,y1,x2,y2,x3,y3⟩:Num.Sg)=6:=by unfold Num.curveE;rw [hk,hr];rfl
    rw [hE,curve_no hE (by decide)]
    have HC:=hide (segRange_any k x0 y0 x1 y1 x2 y2 x3 y3 (w.alloc (.cells #[.int .i64 k,.int .i64 x0,.int .i64 y0,.int .i64 x1,.int .i64 y1,.int .i64 x2,.int .i64 y2,.int .i64 x3,.int .i64 y3] 44)))
    rw [hr] at HC
    have hkk:k=0∨k=1∨k=2:=Num.kind_yes hk
    clear hk hr hE
    rcases hkk with rfl | rfl | rfl
    all_goals
      go_enter Tryz.func77,Tryz.ntmps77
      go_wp2_with fail
      refine HC.out.mono ?_
      rintro e w1 ⟨rfl,hb⟩
      have hb0:Below w.heap.size w w1:=Below.trans (by (repeat any_goals first | exact .refl _ _ | assumption | refine .drew ?_ | refine below_drewN ?_ _ | refine .setCell ?_ ?_ _ | refine .alloc ?_ ?_ _ | omega | (simp <;> omega))) (hb.mono (by simp))
      clear hb
      go_wp2
      go_ret2
      exact ⟨_,rfl,hb0,World.ownsRow_nil _ _ _ _⟩
  · obtain ⟨eE,eL⟩:=curve_yes hk hr
    obtain ⟨eN,n1,n2⟩:=curveN_eq hr
    rw [eE,eL]
    have hkk:k=0∨k=1∨k=2:=Num.kind_yes hk
    have HC:=hide (fun w=>segRange_any k x0 y0 x1 y1 x2 y2 x3 y3 w)
    rw [hr] at HC
    have HD:=hide (fun w=>chords_any k x0 y0 x1 y1 x2 y2 x3 y3 w hr)
    obtain ⟨N,hN⟩:∃N,N=Num.curveN (⟨k,x0,y0,x1,y1,x2,y2,x3,y3⟩:Num.Sg):=⟨_,rfl⟩
    rw [←hN] at eN n1 n2 ⊢
    rw [←eN] at HD
    have HF:=hide (fun (i:Int) w (h1:0≤i) (h2:i≤(N:Int))=>spotOf_any k x0 y0 x1 y1 x2 y2 x3 y3 i N w hr h1 h2 (by omega) (by omega))
    have HRow:=hide (sg9_row k x0 y0 x1 y1 x2 y2 x3 y3 w 44)
    have HCe:=hide (fun (w:World) (b:Nat) (h:w.rowIs b 44 9 (sg9 k x0 y0 x1 y1 x2 y2 x3 y3))=>sg9_cells h)
    obtain ⟨F9,hF9⟩:∃F9,F9=sg9 k x0 y0 x1 y1 x2 y2 x3 y3:=⟨_,rfl⟩
    rw [←hF9] at HRow HCe
    obtain ⟨GG,hGG⟩:∃GG:Num.Sg,GG=(⟨k,x0,y0,x1,y1,x2,y2,x3,y3⟩:Num.Sg):=⟨_,rfl⟩
    rw [←hGG] at HF ⊢
    clear hk hr hN eN eE eL hF9 hGG
    obtain ⟨i0,hi0,hz0,hz1,hz2⟩:=info_parts info_spot
    rcases hkk with rfl | rfl | rfl
    all_goals
      go_enter Tryz.func77,Tryz.ntmps77
      go_wp2_with fail
      refine (HC.out _).mono ?_
      rintro e w1 ⟨rfl,hb⟩
      have hs1:w.heap.size<w1.heap.size:=by have:=hb.size;simp at this;omega
      have HR1:=hide (row_below HRow.out hb HRow.out.lt)
      have hb0:Below w.heap.size w w1:=Below.trans (by (repeat any_goals first | exact .refl _ _ | assumption | refine .drew ?_ | refine below_drewN ?_ _ | refine .setCell ?_ ?_ _ | refine .alloc ?_ ?_ _ | omega | (simp <;> omega))) (hb.mono (by simp))
      obtain ⟨c0,c1,c2,c3,c4,c5,c6,c7,c8⟩:=HCe.out _ _ HR1.out
      clear hb
      go_wp2_with fail
      refine (HD.out _).mono ?_
      rintro e w2 ⟨rfl,hb⟩
      have hs2:w.heap.size<w2.heap.size:=by have:=hb.size;omega
      have HR2:=hide (row_below HR1.out hb HR1.out.lt)
      have hb2:Below w.heap.size w w2:=hb0.trans (hb.mono (by omega))
      clear hb hb0 c0 c1 c2 c3 c4 c5 c6 c7 c8
      go_wp2_with fail
      go_loopw [4,6] (fun v t wr=>∃j:Nat,j≤N+1∧t=.int .i64 j∧Below w.heap.size w wr∧wr.rowIs w.heap.size 44 9 F9∧wr.ownsRow (w.heap.size+1) 42 2 v j ((spotsU GG N j).flatMap spC)) (fun _ t _=>N+1-(intOf t).toNat)
      case atStart=>exact ⟨0,by omega,rfl,hb2,HR2.out,World.ownsRow_nil _ _ _ _⟩
      case round=>
        obtain ⟨v,rfl⟩:∃v,v=u4:=⟨_,rfl⟩
        obtain ⟨j,hj,rfl,hb,hrow,hown⟩:=hrel
        have hsz:=hrow.lt
        by_cases hlt:j<N+1
        · have hd1:decide ((j:Int)≤(N:Int))=true:=by simp;omega
          obtain ⟨c0,c1,c2,c3,c4,c5,c6,c7,c8⟩:=HCe.out _ _ hrow
          have HW:=hide hrow
          clear hrow
          go_wp2_with fail
          refine (HF.out j _ (by omega) (by omega)).mono ?_
          rintro e w3 ⟨rfl,hb3⟩
          have hs3:=hb3.size
          have hown3:=owns_of_block hown (fun b hbb=>hb3.block b (hown.lt b hbb).2)
          have hB3:Below w.heap.size w w3:=hb.trans (hb3.mono (by omega))
          have HW3:=hide (row_below HW.out hb3 HW.out.lt)
          have HSu:=hide (spotsU_succ GG N j)
          have HLe:=hide (spotsU_len GG N j)
          clear hb hb3 hown c0 c1 c2 c3 c4 c5 c6 c7 c8
          obtain ⟨sx,hsx⟩:∃sx,sx=Num.spotX GG N j:=⟨_,rfl⟩
          obtain ⟨sy,hsy⟩:∃sy,sy=Num.spotY GG N j:=⟨_,rfl⟩
          rw [←hsx,←hsy] at HSu ⊢
          obtain ⟨xs,hxs⟩:∃xs,xs=(spotsU GG N j).flatMap spC:=⟨_,rfl⟩
          rw [←hxs] at hown3
          have HX:=hide hxs
          clear hsx hsy hxs
          go_wp2_with (at_builtin;refine wpList_append_lies _ rfl _ _ 88 rfl (w.heap.size+1) 42 i0 (.agg #[.int .i64 0,.int .i64 0]) 2 16 Tryz.underlying88 hi0 hz0 hz1 hz2 rfl (by omega) v j xs rfl ((hown3.alloc _).alloc _) ⟨w3.heap.size+1,0,none⟩ 1 1 [.int .i64 sx,.int .i64 sy] rfl rfl ?e1 ?e2 (by omega) ?e3 ?e4 ?e5 (w3.heap.size+1+1) (by simp) ?_)
          try (case e1=>exact news_sp (w3.alloc _) [.int .i64 sx,.int .i64 sy] _ _ (by simp))
          case e2=>first | exact one_two _ _ | exact ⟨rfl,rfl⟩
          case e3=>unfold maxLen;omega
          case e4=>omega
          case e5=>first | omega | (simp;omega)
          intro g cap w4 hown4 hgrow hat hlt4
          have hb4:Below w.heap.size w w4:=((hB3.alloc (by omega) _).alloc (by simp;omega) _).grown hgrow (by simp;omega) (fun q hq=>by have:=(hown3.lt q hq).1;omega)
          have hR4:w4.rowIs w.heap.size 44 9 F9:=((HW3.out.alloc _).alloc _).of_block (hgrow.block _ (by simp;omega) (fun e=>by have:=(hown3.lt _ e.symm).1;omega))
          have HO4:Hid (w4.ownsRow (w.heap.size+1) 42 2 (.slice (some ⟨g,0,none⟩) (j+1) cap) (j+1) ((spotsU GG N (j+1)).flatMap spC)):=by
            unfold Hid
            have:=push_sp (l:=spotsU GG N j) (l':=spotsU GG N (j+1)) (p:=(sx,sy)) (m:=j+1) (by rw [←HX.out];exact hown4) HSu.out (by rw [HLe.out])
            rw [spotsU_len] at this
            exact this
          have HR4:=hide hR4
          clear hown4 hgrow hat hown3 hR4 HW3 HW
          go_wp2
          go_roundw
          case rel=>exact ⟨j+1,by omega,by go_num,hb4,HR4.out,HO4.out⟩
          case measure=>simp [intOf];omega
        · have e:j=N+1:=by omega
          have hd0:decide ((j:Int)≤(N:Int))=false:=by simp;omega
          have HO:=hide hown
          have HB:=hide hb
          clear hown hrow hb
          go_wp2
          go_ret2
          refine ⟨v,rfl,HB.out,?_⟩
          have h:=owns_mono HO.out (Nat.le_succ w.heap.size)
          rw [e] at h
          rw [spotsU_len]
          exact h
theorem glyphCurve_any (k x0 y0 x1 y1 x2 y2 x3 y3:Int) (w:World) :
    Calls Tryz.prog 34 #[.agg #[.int .i64 k,.int .i64 x0,.int .i64 y0,.int .i64 x1,.int .i64 y1,.int .i64 x2,.int .i64 y2,.int .i64 x3,.int .i64 y3]] w fun e w'=>∃v,e=.returned (.tuple #[v,.int .i64 (Num.curveE (⟨k,x0,y0,x1,y1,x2,y2,x3,y3⟩:Num.Sg))])∧Below w.heap.size w w'∧w'.ownsRow w.heap.size 42 2 v (Num.curveL (⟨k,x0,y0,x1,y1,x2,y2,x3,y3⟩:Num.Sg)).length ((Num.curveL (⟨k,x0,y0,x1,y1,x2,y2,x3,y3⟩:Num.Sg)).flatMap spC):=by
  go_enter Tryz.func34,Tryz.ntmps34
  go_wp2_with fail
  refine (chordCurve_any _ _ _ _ _ _ _ _ _ _).mono ?_
  rintro e w1 ⟨v,rfl,hb,hown⟩
  have hb0:Below w.heap.size w w1:=Below.trans (by (repeat any_goals first | exact .refl _ _ | assumption | refine .drew ?_ | refine below_drewN ?_ _ | refine .setCell ?_ ?_ _ | refine .alloc ?_ ?_ _ | omega | (simp <;> omega))) (hb.mono (by simp))
  have HW:=hide (owns_mono (base':=w.heap.size) hown (by simp))
  clear hown hb
  go_wp2
  go_ret2
  exact ⟨v,rfl,hb0,HW.out⟩
theorem refInRange_exact (x y:Int) (w:World) :
    Calls Tryz.prog 76 #[.agg #[.int .i64 x,.int .i64 y]] w fun e w'=>e=.returned (.bool (Num.inB x y))∧w'=w.alloc (.cells #[.int .i64 x,.int .i64 y] 42):=by
  go_enter Tryz.func76,Tryz.ntmps76
  go_wp2
  all_goals
    go_ret
    refine ⟨ret_bool ?_,rfl⟩
    simp only [Num.inB,Num.wi]
    simp [*]
    try omega
theorem owns_set {w:World} {base:Nat} {t:TypeId} {sz:Nat} {v:Value} {n:Nat} {xs:List Value} (h:w.ownsRow base t sz v n xs) {p:Addr} {u:Value} (hp:v.ownBlock≠some p.block):(w.setCell p u).ownsRow base t sz v n xs:=
  owns_of_block h fun b hb=>blk_setCell_other _ _ _ _ (fun e=>hp (by rw [hb,e]))
set_option maxRecDepth 100000 in
theorem refCurve0 (x0 y0 x1 y1 x2 y2 x3 y3:Int) (w:World) :
    Calls Tryz.prog 35 #[.agg #[.int .i64 0,.int .i64 x0,.int .i64 y0,.int .i64 x1,.int .i64 y1,.int .i64 x2,.int .i64 y2,.int .i64 x3,.int .i64 y3]] w fun e w'=>∃v,e=.returned (.tuple #[v,.int .i64 (Num.curveE (⟨0,x0,y0,x1,y1,x2,y2,x3,y3⟩:Num.Sg))])∧Below w.heap.size w w'∧w'.ownsRow w.heap.size 42 2 v (Num.curveL (⟨0,x0,y0,x1,y1,x2,y2,x3,y3⟩:Num.Sg)).length ((Num.curveL (⟨0,x0,y0,x1,y1,x2,y2,x3,y3⟩:Num.Sg)).flatMap spC):=by
  obtain ⟨E,hE⟩:∃E,E=Num.curveE (⟨0,x0,y0,x1,y1,x2,y2,x3,y3⟩:Num.Sg):=⟨_,rfl⟩
  obtain ⟨L,hL⟩:∃L,L=Num.curveL (⟨0,x0,y0,x1,y1,x2,y2,x3,y3⟩:Num.Sg):=⟨_,rfl⟩
  rw [←hE,←hL]
  have HNo:Hid (Num.rangeB (⟨0,x0,y0,x1,y1,x2,y2,x3,y3⟩:Num.Sg)=false→E=6∧L=[]):=fun hr=>by
    have hE2:Num.curveE (⟨0,x0,y0,x1,y1,x2,y2,x3,y3⟩:Num.Sg)=6:=by unfold Num.curveE;rw [hr];rfl
    exact ⟨by rw [hE,hE2],by rw [hL];exact curve_no hE2 (by decide)⟩
  have HYes:Hid (Num.rangeB (⟨0,x0,y0,x1,y1,x2,y2,x3,y3⟩:Num.Sg)=true→(E=0∧L=spotsU (⟨0,x0,y0,x1,y1,x2,y2,x3,y3⟩:Num.Sg) (Num.curveN (⟨0,x0,y0,x1,y1,x2,y2,x3,y3⟩:Num.Sg)) (Num.curveN (⟨0,x0,y0,x1,y1,x2,y2,x3,y3⟩:Num.Sg)+1))∧((Num.curveN (⟨0,x0,y0,x1,y1,x2,y2,x3,y3⟩:Num.Sg):Int)=Num.stepsV (Num.needV (⟨0,x0,y0,x1,y1,x2,y2,x3,y3⟩:Num.Sg))∧1≤Num.curveN (⟨0,x0,y0,x1,y1,x2,y2,x3,y3⟩:Num.Sg)∧Num.curveN (⟨0,x0,y0,x1,y1,x2,y2,x3,y3⟩:Num.Sg)≤111)):=fun hr=>by
    rw [hE,hL];exact ⟨curve_yes rfl hr,curveN_eq hr⟩
  clear hE hL
  have HRg:Hid (Num.rangeB (⟨0,x0,y0,x1,y1,x2,y2,x3,y3⟩:Num.Sg)=(Num.inB x0 y0 && Num.inB x3 y3)):=by unfold Hid;simp [Num.rangeB]
  have HRow:=hide (sg9_row 0 x0 y0 x1 y1 x2 y2 x3 y3 w 44)
  obtain ⟨F9,hF9⟩:∃F9,F9=sg9 0 x0 y0 x1 y1 x2 y2 x3 y3:=⟨_,rfl⟩
  have HCe:=hide (fun (w:World) (b:Nat) (h:w.rowIs b 44 9 (sg9 0 x0 y0 x1 y1 x2 y2 x3 y3))=>sg9_cells h)
  rw [←hF9] at HRow HCe
  clear hF9
  obtain ⟨i0,hi0,hz0,hz1,hz2⟩:=info_parts info_spot
  go_enter Tryz.func35,Tryz.ntmps35
  go_wp2_with fail
  go_loopw [6] (fun t wr=>∃j:Nat,j≤4∧t=.int .i64 j∧Below (w.heap.size+3) (((w.alloc (.cells #[.int .i64 0,.int .i64 x0,.int .i64 y0,.int .i64 x1,.int .i64 y1,.int .i64 x2,.int .i64 y2,.int .i64 x3,.int .i64 y3] 44)).alloc (.cells #[.bool true,.bool true,.bool false,.bool false] 145)).alloc (.cells #[.int .i64 x0,.int .i64 y0,.int .i64 x3,.int .i64 y3,.int .i64 x1,.int .i64 y1,.int .i64 x2,.int .i64 y2] 146)) wr∧(1≤j→Num.inB x0 y0=true)∧(2≤j→Num.inB x3 y3=true)) (fun t _=>4-(intOf t).toNat)
  case atStart=>exact ⟨0,by omega,rfl,Below.refl _ _,by omega,by omega⟩
  case round=>
    obtain ⟨j,hj,rfl,hb,r0,r1⟩:=hrel
    have hs:=hb.size
    simp at hs
    have y0s:w.heap.size<wr.heap.size:=by omega
    have y1s:w.heap.size+1<wr.heap.size:=by omega
    have y2s:w.heap.size+1+1<wr.heap.size:=by omega
    have HR:=hide (And.intro r0 r1)
    clear r0 r1
    have hbw:Below w.heap.size w wr:=Below.trans (by (repeat any_goals first | exact .refl _ _ | assumption | refine .drew ?_ | refine below_drewN ?_ _ | refine .setCell ?_ ?_ _ | refine .alloc ?_ ?_ _ | omega | (simp <;> omega))) (hb.mono (by omega))
    have HB:=hide hb
    have HBW:=hide hbw
    rcases (show j=0∨j=1∨j=2∨j=3∨j=4 by omega) with rfl | rfl | rfl | rfl | rfl
    · have l0:wr.cell? ⟨w.heap.size+1+1,0,none⟩=some (.int .i64 x0):=(hb.cell (p:=⟨w.heap.size+1+1,0,none⟩) (by first | (simp;done) | (simp;omega))).trans (by go_simp)
      have l1:wr.cell? ⟨w.heap.size+1+1,1,none⟩=some (.int .i64 y0):=(hb.cell (p:=⟨w.heap.size+1+1,1,none⟩) (by first | (simp;done) | (simp;omega))).trans (by go_simp)
      have l2:wr.cell? ⟨w.heap.size+1,0,none⟩=some (.bool true):=(hb.cell (p:=⟨w.heap.size+1,0,none⟩) (by first | (simp;done) | (simp;omega))).trans (by go_simp)
      clear hb hbw
      cases hin:Num.inB x0 y0
      · have HE:=hide (HNo.out (by rw [HRg.out];simp [hin]))
        go_wp2_with (go_at_call 76;refine (refInRange_exact _ _ _).mono ?_;rintro e w' ⟨rfl,rfl⟩)
        go_ret2
        obtain ⟨rfl,rfl⟩:=HE.out
        exact ⟨_,rfl,HBW.out.alloc (by omega) _,World.ownsRow_nil _ _ _ _⟩
      · go_wp2_with (go_at_call 76;refine (refInRange_exact _ _ _).mono ?_;rintro e w' ⟨rfl,rfl⟩)
        go_roundw
        case rel=>exact ⟨1,by omega,rfl,HB.out.alloc (by omega) _,fun _=>by first | exact hin | trivial,by omega⟩
        case measure=>simp [intOf]
    · have l0:wr.cell? ⟨w.heap.size+1+1,2,none⟩=some (.int .i64 x3):=(hb.cell (p:=⟨w.heap.size+1+1,2,none⟩) (by first | (simp;done) | (simp;omega))).trans (by go_simp)
      have l1:wr.cell? ⟨w.heap.size+1+1,3,none⟩=some (.int .i64 y3):=(hb.cell (p:=⟨w.heap.size+1+1,3,none⟩) (by first | (simp;done) | (simp;omega))).trans (by go_simp)
      have l2:wr.cell? ⟨w.heap.size+1,1,none⟩=some (.bool true):=(hb.cell (p:=⟨w.heap.size+1,1,none⟩) (by first | (simp;done) | (simp;omega))).trans (by go_simp)
      clear hb hbw
      cases hin:Num.inB x3 y3
      · have HE:=hide (HNo.out (by rw [HRg.out];simp [hin]))
        go_wp2_with (go_at_call 76;refine (refInRange_exact _ _ _).mono ?_;rintro e w' ⟨rfl,rfl⟩)
        go_ret2
        obtain ⟨rfl,rfl⟩:=HE.out
        exact ⟨_,rfl,HBW.out.alloc (by omega) _,World.ownsRow_nil _ _ _ _⟩
      · go_wp2_with (go_at_call 76;refine (refInRange_exact _ _ _).mono ?_;rintro e w' ⟨rfl,rfl⟩)
        go_roundw
        case rel=>exact ⟨2,by omega,rfl,HB.out.alloc (by omega) _,fun _=>HR.out.1 (by omega),fun _=>by first | exact hin | trivial⟩
        case measure=>simp [intOf]
    · have l0:wr.cell? ⟨w.heap.size+1+1,4,none⟩=some (.int .i64 x1):=(hb.cell (p:=⟨w.heap.size+1+1,4,none⟩) (by first | (simp;done) | (simp;omega))).trans (by go_simp)
      have l1:wr.cell? ⟨w.heap.size+1+1,5,none⟩=some (.int .i64 y1):=(hb.cell (p:=⟨w.heap.size+1+1,5,none⟩) (by first | (simp;done) | (simp;omega))).trans (by go_simp)
      have l2:wr.cell? ⟨w.heap.size+1,2,none⟩=some (.bool false):=(hb.cell (p:=⟨w.heap.size+1,2,none⟩) (by first | (simp;done) | (simp;omega))).trans (by go_simp)
      clear hb hbw
      go_wp2_with (go_at_call 76;refine (refInRange_exact _ _ _).mono ?_;rintro e w' ⟨rfl,rfl⟩)
      go_roundw
      case rel=>exact ⟨3,by omega,rfl,HB.out.alloc (by omega) _,fun _=>HR.out.1 (by omega),fun _=>HR.out.2 (by omega)⟩
      case measure=>simp [intOf]
    · have l0:wr.cell? ⟨w.heap.size+1+1,6,none⟩=some (.int .i64 x2):=(hb.cell (p:=⟨w.heap.size+1+1,6,none⟩) (by first | (simp;done) | (simp;omega))).trans (by go_simp)
      have l1:wr.cell? ⟨w.heap.size+1+1,7,none⟩=some (.int .i64 y2):=(hb.cell (p:=⟨w.heap.size+1+1,7,none⟩) (by first | (simp;done) | (simp;omega))).trans (by go_simp)
      have l2:wr.cell? ⟨w.heap.size+1,3,none⟩=some (.bool false):=(hb.cell (p:=⟨w.heap.size+1,3,none⟩) (by first | (simp;done) | (simp;omega))).trans (by go_simp)
      clear hb hbw
      go_wp2_with (go_at_call 76;refine (refInRange_exact _ _ _).mono ?_;rintro e w' ⟨rfl,rfl⟩)
      go_roundw
      case rel=>exact ⟨4,by omega,rfl,HB.out.alloc (by omega) _,fun _=>HR.out.1 (by omega),fun _=>HR.out.2 (by omega)⟩
      case measure=>simp [intOf]
    · have hr:Num.rangeB (⟨0,x0,y0,x1,y1,x2,y2,x3,y3⟩:Num.Sg)=true:=by
        rw [HRg.out,HR.out.1 (by omega),HR.out.2 (by omega)];rfl
      have q0:=Num.inB_yes (HR.out.1 (by omega))
      have q1:=Num.inB_yes (HR.out.2 (by omega))
      obtain ⟨⟨eE,eL⟩,eN,n1,n2⟩:=HYes.out hr
      have HP:=hide (fun w=>parts_any 0 x0 y0 x1 y1 x2 y2 x3 y3 w hr)
      obtain ⟨N,hN⟩:∃N,N=Num.curveN (⟨0,x0,y0,x1,y1,x2,y2,x3,y3⟩:Num.Sg):=⟨_,rfl⟩
      rw [←hN] at eN n1 n2 eL
      rw [←eN] at HP
      have hN1:N=1:=by have e:=Num.stepsV_zero (d:=Num.needV (⟨0,x0,y0,x1,y1,x2,y2,x3,y3⟩:Num.Sg)) (by simp [Num.needV]);omega
      have HSp:Hid (∀j:Nat,j≤N→Num.mx ((N:Int)-j) j x0 x3=Num.spotX (⟨0,x0,y0,x1,y1,x2,y2,x3,y3⟩:Num.Sg) N j∧Num.mx ((N:Int)-j) j y0 y3=Num.spotY (⟨0,x0,y0,x1,y1,x2,y2,x3,y3⟩:Num.Sg) N j):=fun j hj=>by
        subst hN1
        unfold Num.spotX Num.spotY Num.mx
        rcases (show j=0∨j=1 by omega) with rfl | rfl <;> simp
      clear hN1
      have hrow0:wr.rowIs w.heap.size 44 9 F9:=row_below ((HRow.out.alloc _).alloc _) hb (by omega)
      obtain ⟨c0,c1,c2,c3,c4,c5,c6,c7,c8⟩:=HCe.out _ _ hrow0
      have HR0:=hide hrow0
      have HSX:Hid (∀j:Nat,Num.spotX (⟨0,x0,y0,x1,y1,x2,y2,x3,y3⟩:Num.Sg) N j=Num.spotX (⟨0,x0,y0,x1,y1,x2,y2,x3,y3⟩:Num.Sg) N j):=fun j=>by rfl
      have HSY:Hid (∀j:Nat,Num.spotY (⟨0,x0,y0,x1,y1,x2,y2,x3,y3⟩:Num.Sg) N j=Num.spotY (⟨0,x0,y0,x1,y1,x2,y2,x3,y3⟩:Num.Sg) N j):=fun j=>by rfl
      obtain ⟨GG,hGG⟩:∃GG:Num.Sg,GG=(⟨0,x0,y0,x1,y1,x2,y2,x3,y3⟩:Num.Sg):=⟨_,rfl⟩
      rw [←hGG] at HSX HSY eL
      rw [←hGG] at HSp
      clear HNo HYes
      subst eE eL
      clear hb hbw hrow0 hr eN hN hGG
      go_wp2_with fail
      refine (HP.out _).mono ?_
      rintro e w2 ⟨rfl,hb2⟩
      have hs2:=hb2.size
      have hbW:Below w.heap.size w w2:=HBW.out.trans (hb2.mono (by omega))
      have HR2:=hide (row_below HR0.out hb2 HR0.out.lt)
      clear hb2 c0 c1 c2 c3 c4 c5 c6 c7 c8
      go_wp2_with fail
      go_loopw [9,10] (fun v t wr=>∃j:Nat,j≤N+1∧t=.int .i64 j∧Below w.heap.size w wr∧wr.rowIs w.heap.size 44 9 F9∧wr.ownsRow (w.heap.size+1) 42 2 v j ((spotsU GG N j).flatMap spC)) (fun _ t _=>N+1-(intOf t).toNat)
      case atStart=>exact ⟨0,by omega,rfl,hbW,HR2.out,World.ownsRow_nil _ _ _ _⟩
      case round=>
        obtain ⟨v,rfl⟩:∃v,v=u9:=⟨_,rfl⟩
        obtain ⟨j,hj,rfl,hb,hrow,hown⟩:=hrel
        have hsz:=hrow.lt
        by_cases hlt:j<N+1
        · have hd1:decide ((j:Int)≤(N:Int))=true:=by simp;omega
          obtain ⟨c0,c1,c2,c3,c4,c5,c6,c7,c8⟩:=HCe.out _ _ hrow
          have HW:=hide hrow
          clear hrow
          go_wp2_with fail
          refine (mix_any _ _ _ _ _ _ _ (by omega) (by omega) (by omega) (by omega) (by omega) (by omega) (by omega)).mono ?_
          rintro e w3 ⟨rfl,hb3⟩
          have hs3:=hb3.size
          have hown3:=owns_of_block hown (fun b hbb=>hb3.block b (hown.lt b hbb).2)
          have hB3:Below w.heap.size w w3:=hb.trans (hb3.mono (by omega))
          have HW3:=hide (row_below HW.out hb3 HW.out.lt)
          have HSu:=hide (spotsU_succ GG N j)
          have HLe:=hide (spotsU_len GG N j)
          clear hb hb3 hown c0 c1 c2 c3 c4 c5 c6 c7 c8
          obtain ⟨c0,c1,c2,c3,c4,c5,c6,c7,c8⟩:=HCe.out _ _ HW3.out
          obtain ⟨sx,hsx⟩:∃sx,sx=Num.spotX GG N j:=⟨_,rfl⟩
          obtain ⟨sy,hsy⟩:∃sy,sy=Num.spotY GG N j:=⟨_,rfl⟩
          rw [←hsx,←hsy] at HSu
          obtain ⟨xs,hxs⟩:∃xs,xs=(spotsU GG N j).flatMap spC:=⟨_,rfl⟩
          rw [←hxs] at hown3
          have HX:=hide hxs
          have zz:w.heap.size<w3.heap.size:=by omega
          rw [(HSp.out j (by omega)).1,(HSp.out j (by omega)).2,←hsx,←hsy]
          clear hsx hsy hxs
          go_wp2_with (at_builtin;refine wpList_append_lies _ rfl _ _ 88 rfl (w.heap.size+1) 42 i0 (.agg #[.int .i64 0,.int .i64 0]) 2 16 Tryz.underlying88 hi0 hz0 hz1 hz2 rfl (by omega) v j xs rfl ((hown3.alloc _).alloc _) ⟨w3.heap.size+1,0,none⟩ 1 1 [.int .i64 sx,.int .i64 sy] rfl rfl ?e1 ?e2 (by omega) ?e3 ?e4 ?e5 (w3.heap.size+1+1) (by simp) ?_)
          try (case e1=>exact news_sp (w3.alloc _) [.int .i64 sx,.int .i64 sy] _ _ (by simp))
          case e2=>first | exact one_two _ _ | exact ⟨rfl,rfl⟩
          case e3=>unfold maxLen;omega
          case e4=>omega
          case e5=>first | omega | (simp;omega)
          intro g cap w4 hown4 hgrow hat hlt4
          have hb4:Below w.heap.size w w4:=((hB3.alloc (by omega) _).alloc (by simp;omega) _).grown hgrow (by simp;omega) (fun q hq=>by have:=(hown3.lt q hq).1;omega)
          have hR4:w4.rowIs w.heap.size 44 9 F9:=((HW3.out.alloc _).alloc _).of_block (hgrow.block _ (by simp;omega) (fun e=>by have:=(hown3.lt _ e.symm).1;omega))
          have HO4:Hid (w4.ownsRow (w.heap.size+1) 42 2 (.slice (some ⟨g,0,none⟩) (j+1) cap) (j+1) ((spotsU GG N (j+1)).flatMap spC)):=by
            unfold Hid
            have:=push_sp (l:=spotsU GG N j) (l':=spotsU GG N (j+1)) (p:=(sx,sy)) (m:=j+1) (by rw [←HX.out];exact hown4) HSu.out (by rw [HLe.out])
            rw [spotsU_len] at this
            exact this
          have HR4:=hide hR4
          clear hown4 hgrow hat hown3 hR4 HW3 HW
          go_wp2
          go_roundw
          case rel=>exact ⟨j+1,by omega,by go_num,hb4,HR4.out,HO4.out⟩
          case measure=>simp [intOf];omega
        · have e:j=N+1:=by omega
          have hd0:decide ((j:Int)≤(N:Int))=false:=by simp;omega
          have HO:=hide hown
          have HBz:=hide hb
          clear hown hrow hb
          go_wp2
          go_ret2
          refine ⟨v,rfl,HBz.out,?_⟩
          have h:=owns_mono HO.out (Nat.le_succ w.heap.size)
          rw [e] at h
          rw [spotsU_len]
          exact h
set_option maxRecDepth 100000 in
theorem refCurve1 (x0 y0 x1 y1 x2 y2 x3 y3:Int) (w:World) :
    Calls Tryz.prog 35 #[.agg #[.int .i64 1,.int .i64 x0,.int .i64 y0,.int .i64 x1,.int .i64 y1,.int .i64 x2,.int .i64 y2,.int .i64 x3,.int .i64 y3]] w fun e w'=>∃v,e=.returned (.tuple #[v,.int .i64 (Num.curveE (⟨1,x0,y0,x1,y1,x2,y2,x3,y3⟩:Num.Sg))])∧Below w.heap.size w w'∧w'.ownsRow w.heap.size 42 2 v (Num.curveL (⟨1,x0,y0,x1,y1,x2,y2,x3,y3⟩:Num.Sg)).length ((Num.curveL (⟨1,x0,y0,x1,y1,x2,y2,x3,y3⟩:Num.Sg)).flatMap spC):=by
  obtain ⟨E,hE⟩:∃E,E=Num.curveE (⟨1,x0,y0,x1,y1,x2,y2,x3,y3⟩:Num.Sg):=⟨_,rfl⟩
  obtain ⟨L,hL⟩:∃L,L=Num.curveL (⟨1,x0,y0,x1,y1,x2,y2,x3,y3⟩:Num.Sg):=⟨_,rfl⟩
  rw [←hE,←hL]
  have HNo:Hid (Num.rangeB (⟨1,x0,y0,x1,y1,x2,y2,x3,y3⟩:Num.Sg)=false→E=6∧L=[]):=fun hr=>by
    have hE2:Num.curveE (⟨1,x0,y0,x1,y1,x2,y2,x3,y3⟩:Num.Sg)=6:=by unfold Num.curveE;rw [hr];rfl
    exact ⟨by rw [hE,hE2],by rw [hL];exact curve_no hE2 (by decide)⟩
  have HYes:Hid (Num.rangeB (⟨1,x0,y0,x1,y1,x2,y2,x3,y3⟩:Num.Sg)=true→(E=0∧L=spotsU (⟨1,x0,y0,x1,y1,x2,y2,x3,y3⟩:Num.Sg) (Num.curveN (⟨1,x0,y0,x1,y1,x2,y2,x3,y3⟩:Num.Sg)) (Num.curveN (⟨1,x0,y0,x1,y1,x2,y2,x3,y3⟩:Num.Sg)+1))∧((Num.curveN (⟨1,x0,y0,x1,y1,x2,y2,x3,y3⟩:Num.Sg):Int)=Num.stepsV (Num.needV (⟨1,x0,y0,x1,y1,x2,y2,x3,y3⟩:Num.Sg))∧1≤Num.curveN (⟨1,x0,y0,x1,y1,x2,y2,x3,y3⟩:Num.Sg)∧Num.curveN (⟨1,x0,y0,x1,y1,x2,y2,x3,y3⟩:Num.Sg)≤111)):=fun hr=>by
    rw [hE,hL];exact ⟨curve_yes rfl hr,curveN_eq hr⟩
  clear hE hL
  have HRg:Hid (Num.rangeB (⟨1,x0,y0,x1,y1,x2,y2,x3,y3⟩:Num.Sg)=(Num.inB x0 y0 && Num.inB x3 y3 && Num.inB x1 y1)):=by unfold Hid;simp [Num.rangeB]
  have HRow:=hide (sg9_row 1 x0 y0 x1 y1 x2 y2 x3 y3 w 44)
  obtain ⟨F9,hF9⟩:∃F9,F9=sg9 1 x0 y0 x1 y1 x2 y2 x3 y3:=⟨_,rfl⟩
  have HCe:=hide (fun (w:World) (b:Nat) (h:w.rowIs b 44 9 (sg9 1 x0 y0 x1 y1 x2 y2 x3 y3))=>sg9_cells h)
  rw [←hF9] at HRow HCe
  clear hF9
  obtain ⟨i0,hi0,hz0,hz1,hz2⟩:=info_parts info_spot
  go_enter Tryz.func35,Tryz.ntmps35
  go_wp2_with fail
  go_loopw [6] (fun t wr=>∃j:Nat,j≤4∧t=.int .i64 j∧Below (w.heap.size+3) (((w.alloc (.cells #[.int .i64 1,.int .i64 x0,.int .i64 y0,.int .i64 x1,.int .i64 y1,.int .i64 x2,.int .i64 y2,.int .i64 x3,.int .i64 y3] 44)).alloc (.cells #[.bool true,.bool true,.bool true,.bool false] 145)).alloc (.cells #[.int .i64 x0,.int .i64 y0,.int .i64 x3,.int .i64 y3,.int .i64 x1,.int .i64 y1,.int .i64 x2,.int .i64 y2] 146)) wr∧(1≤j→Num.inB x0 y0=true)∧(2≤j→Num.inB x3 y3=true)∧(3≤j→Num.inB x1 y1=true)) (fun t _=>4-(intOf t).toNat)
  case atStart=>exact ⟨0,by omega,rfl,Below.refl _ _,by omega,by omega,by omega⟩
  case round=>
    obtain ⟨j,hj,rfl,hb,r0,r1,r2⟩:=hrel
    have hs:=hb.size
    simp at hs
    have y0s:w.heap.size<wr.heap.size:=by omega
    have y1s:w.heap.size+1<wr.heap.size:=by omega
    have y2s:w.heap.size+1+1<wr.heap.size:=by omega
    have HR:=hide (And.intro r0 (And.intro r1 r2))
    clear r0 r1 r2
    have hbw:Below w.heap.size w wr:=Below.trans (by (repeat any_goals first | exact .refl _ _ | assumption | refine .drew ?_ | refine below_drewN ?_ _ | refine .setCell ?_ ?_ _ | refine .alloc ?_ ?_ _ | omega | (simp <;> omega))) (hb.mono (by omega))
    have HB:=hide hb
    have HBW:=hide hbw
    rcases (show j=0∨j=1∨j=2∨j=3∨j=4 by omega) with rfl | rfl | rfl | rfl | rfl
    · have l0:wr.cell? ⟨w.heap.size+1+1,0,none⟩=some (.int .i64 x0):=(hb.cell (p:=⟨w.heap.size+1+1,0,none⟩) (by first | (simp;done) | (simp;omega))).trans (by go_simp)
      have l1:wr.cell? ⟨w.heap.size+1+1,1,none⟩=some (.int .i64 y0):=(hb.cell (p:=⟨w.heap.size+1+1,1,none⟩) (by first | (simp;done) | (simp;omega))).trans (by go_simp)
      have l2:wr.cell? ⟨w.heap.size+1,0,none⟩=some (.bool true):=(hb.cell (p:=⟨w.heap.size+1,0,none⟩) (by first | (simp;done) | (simp;omega))).trans (by go_simp)
      clear hb hbw
      cases hin:Num.inB x0 y0
      · have HE:=hide (HNo.out (by rw [HRg.out];simp [hin]))
        go_wp2_with (go_at_call 76;refine (refInRange_exact _ _ _).mono ?_;rintro e w' ⟨rfl,rfl⟩)
        go_ret2
        obtain ⟨rfl,rfl⟩:=HE.out
        exact ⟨_,rfl,HBW.out.alloc (by omega) _,World.ownsRow_nil _ _ _ _⟩
      · go_wp2_with (go_at_call 76;refine (refInRange_exact _ _ _).mono ?_;rintro e w' ⟨rfl,rfl⟩)
        go_roundw
        case rel=>exact ⟨1,by omega,rfl,HB.out.alloc (by omega) _,fun _=>by first | exact hin | trivial,by omega,by omega⟩
        case measure=>simp [intOf]
    · have l0:wr.cell? ⟨w.heap.size+1+1,2,none⟩=some (.int .i64 x3):=(hb.cell (p:=⟨w.heap.size+1+1,2,none⟩) (by first | (simp;done) | (simp;omega))).trans (by go_simp)
      have l1:wr.cell? ⟨w.heap.size+1+1,3,none⟩=some (.int .i64 y3):=(hb.cell (p:=⟨w.heap.size+1+1,3,none⟩) (by first | (simp;done) | (simp;omega))).trans (by go_simp)
      have l2:wr.cell? ⟨w.heap.size+1,1,none⟩=some (.bool true):=(hb.cell (p:=⟨w.heap.size+1,1,none⟩) (by first | (simp;done) | (simp;omega))).trans (by go_simp)
      clear hb hbw
      cases hin:Num.inB x3 y3
      · have HE:=hide (HNo.out (by rw [HRg.out];simp [hin]))
        go_wp2_with (go_at_call 76;refine (refInRange_exact _ _ _).mono ?_;rintro e w' ⟨rfl,rfl⟩)
        go_ret2
        obtain ⟨rfl,rfl⟩:=HE.out
        exact ⟨_,rfl,HBW.out.alloc (by omega) _,World.ownsRow_nil _ _ _ _⟩
      · go_wp2_with (go_at_call 76;refine (refInRange_exact _ _ _).mono ?_;rintro e w' ⟨rfl,rfl⟩)
        go_roundw
        case rel=>exact ⟨2,by omega,rfl,HB.out.alloc (by omega) _,fun _=>HR.out.1 (by omega),fun _=>by first | exact hin | trivial,by omega⟩
        case measure=>simp [intOf]
    · have l0:wr.cell? ⟨w.heap.size+1+1,4,none⟩=some (.int .i64 x1):=(hb.cell (p:=⟨w.heap.size+1+1,4,none⟩) (by first | (simp;done) | (simp;omega))).trans (by go_simp)
      have l1:wr.cell? ⟨w.heap.size+1+1,5,none⟩=some (.int .i64 y1):=(hb.cell (p:=⟨w.heap.size+1+1,5,none⟩) (by first | (simp;done) | (simp;omega))).trans (by go_simp)
      have l2:wr.cell? ⟨w.heap.size+1,2,none⟩=some (.bool true):=(hb.cell (p:=⟨w.heap.size+1,2,none⟩) (by first | (simp;done) | (simp;omega))).trans (by go_simp)
      clear hb hbw
      cases hin:Num.inB x1 y1
      · have HE:=hide (HNo.out (by rw [HRg.out];simp [hin]))
        go_wp2_with (go_at_call 76;refine (refInRange_exact _ _ _).mono ?_;rintro e w' ⟨rfl,rfl⟩)
        go_ret2
        obtain ⟨rfl,rfl⟩:=HE.out
        exact ⟨_,rfl,HBW.out.alloc (by omega) _,World.ownsRow_nil _ _ _ _⟩
      · go_wp2_with (go_at_call 76;refine (refInRange_exact _ _ _).mono ?_;rintro e w' ⟨rfl,rfl⟩)
        go_roundw
        case rel=>exact ⟨3,by omega,rfl,HB.out.alloc (by omega) _,fun _=>HR.out.1 (by omega),fun _=>HR.out.2.1 (by omega),fun _=>by first | exact hin | trivial⟩
        case measure=>simp [intOf]
    · have l0:wr.cell? ⟨w.heap.size+1+1,6,none⟩=some (.int .i64 x2):=(hb.cell (p:=⟨w.heap.size+1+1,6,none⟩) (by first | (simp;done) | (simp;omega))).trans (by go_simp)
      have l1:wr.cell? ⟨w.heap.size+1+1,7,none⟩=some (.int .i64 y2):=(hb.cell (p:=⟨w.heap.size+1+1,7,none⟩) (by first | (simp;done) | (simp;omega))).trans (by go_simp)
      have l2:wr.cell? ⟨w.heap.size+1,3,none⟩=some (.bool false):=(hb.cell (p:=⟨w.heap.size+1,3,none⟩) (by first | (simp;done) | (simp;omega))).trans (by go_simp)
      clear hb hbw
      go_wp2_with (go_at_call 76;refine (refInRange_exact _ _ _).mono ?_;rintro e w' ⟨rfl,rfl⟩)
      go_roundw
      case rel=>exact ⟨4,by omega,rfl,HB.out.alloc (by omega) _,fun _=>HR.out.1 (by omega),fun _=>HR.out.2.1 (by omega),fun _=>HR.out.2.2 (by omega)⟩
      case measure=>simp [intOf]
    · have hr:Num.rangeB (⟨1,x0,y0,x1,y1,x2,y2,x3,y3⟩:Num.Sg)=true:=by
        rw [HRg.out,HR.out.1 (by omega),HR.out.2.1 (by omega),HR.out.2.2 (by omega)];rfl
      have q0:=Num.inB_yes (HR.out.1 (by omega))
      have q1:=Num.inB_yes (HR.out.2.1 (by omega))
      have q2:=Num.inB_yes (HR.out.2.2 (by omega))
      obtain ⟨⟨eE,eL⟩,eN,n1,n2⟩:=HYes.out hr
      have HP:=hide (fun w=>parts_any 1 x0 y0 x1 y1 x2 y2 x3 y3 w hr)
      obtain ⟨N,hN⟩:∃N,N=Num.curveN (⟨1,x0,y0,x1,y1,x2,y2,x3,y3⟩:Num.Sg):=⟨_,rfl⟩
      rw [←hN] at eN n1 n2 eL
      rw [←eN] at HP
      have hrow0:wr.rowIs w.heap.size 44 9 F9:=row_below ((HRow.out.alloc _).alloc _) hb (by omega)
      obtain ⟨c0,c1,c2,c3,c4,c5,c6,c7,c8⟩:=HCe.out _ _ hrow0
      have HR0:=hide hrow0
      have HSX:Hid (∀j:Nat,Num.spotX (⟨1,x0,y0,x1,y1,x2,y2,x3,y3⟩:Num.Sg) N j=Num.hu (Num.qSum ((N:Int)-j) j x0 x1 x3) ((N:Int)*N)):=fun j=>by unfold Num.spotX;rw [if_pos rfl]
      have HSY:Hid (∀j:Nat,Num.spotY (⟨1,x0,y0,x1,y1,x2,y2,x3,y3⟩:Num.Sg) N j=Num.hu (Num.qSum ((N:Int)-j) j y0 y1 y3) ((N:Int)*N)):=fun j=>by unfold Num.spotY;rw [if_pos rfl]
      obtain ⟨GG,hGG⟩:∃GG:Num.Sg,GG=(⟨1,x0,y0,x1,y1,x2,y2,x3,y3⟩:Num.Sg):=⟨_,rfl⟩
      rw [←hGG] at HSX HSY eL
      clear HNo HYes
      subst eE eL
      clear hb hbw hrow0 hr eN hN hGG
      go_wp2_with fail
      refine (HP.out _).mono ?_
      rintro e w2 ⟨rfl,hb2⟩
      have hs2:=hb2.size
      have hbW:Below w.heap.size w w2:=HBW.out.trans (hb2.mono (by omega))
      have HR2:=hide (row_below HR0.out hb2 HR0.out.lt)
      clear hb2 c0 c1 c2 c3 c4 c5 c6 c7 c8
      go_wp2_with fail
      go_loopw [9,10] (fun v t wr=>∃j:Nat,j≤N+1∧t=.int .i64 j∧Below w.heap.size w wr∧wr.rowIs w.heap.size 44 9 F9∧wr.ownsRow (w.heap.size+1) 42 2 v j ((spotsU GG N j).flatMap spC)) (fun _ t _=>N+1-(intOf t).toNat)
      case atStart=>exact ⟨0,by omega,rfl,hbW,HR2.out,World.ownsRow_nil _ _ _ _⟩
      case round=>
        obtain ⟨v,rfl⟩:∃v,v=u9:=⟨_,rfl⟩
        obtain ⟨j,hj,rfl,hb,hrow,hown⟩:=hrel
        have hsz:=hrow.lt
        by_cases hlt:j<N+1
        · have hd1:decide ((j:Int)≤(N:Int))=true:=by simp;omega
          obtain ⟨c0,c1,c2,c3,c4,c5,c6,c7,c8⟩:=HCe.out _ _ hrow
          have HW:=hide hrow
          clear hrow
          go_wp2_with fail
          refine (mix_any _ _ _ _ _ _ _ (by omega) (by omega) (by omega) (by omega) (by omega) (by omega) (by omega)).mono ?_
          rintro e w3 ⟨rfl,hb3⟩
          have hs3:=hb3.size
          have hown3:=owns_of_block hown (fun b hbb=>hb3.block b (hown.lt b hbb).2)
          have hB3:Below w.heap.size w w3:=hb.trans (hb3.mono (by omega))
          have HW3:=hide (row_below HW.out hb3 HW.out.lt)
          have HSu:=hide (spotsU_succ GG N j)
          have HLe:=hide (spotsU_len GG N j)
          clear hb hb3 hown c0 c1 c2 c3 c4 c5 c6 c7 c8
          obtain ⟨c0,c1,c2,c3,c4,c5,c6,c7,c8⟩:=HCe.out _ _ HW3.out
          obtain ⟨sx,hsx⟩:∃sx,sx=Num.spotX GG N j:=⟨_,rfl⟩
          obtain ⟨sy,hsy⟩:∃sy,sy=Num.spotY GG N j:=⟨_,rfl⟩
          rw [←hsx,←hsy] at HSu
          obtain ⟨xs,hxs⟩:∃xs,xs=(spotsU GG N j).flatMap spC:=⟨_,rfl⟩
          rw [←hxs] at hown3
          have HX:=hide hxs
          have zz:w.heap.size<w3.heap.size:=by omega
          have HSxy:=hide (And.intro (HSX.out j) (HSY.out j))
          obtain ⟨m0,hm0⟩:∃m0,m0=Num.mx ((N:Int)-j) j x0 x3:=⟨_,rfl⟩
          obtain ⟨m1,hm1⟩:∃m1,m1=Num.mx ((N:Int)-j) j y0 y3:=⟨_,rfl⟩
          rw [←hm0,←hm1]
          rw [←hsx,←hsy] at HSxy
          clear hsx hsy hxs hm0 hm1
          go_wp2_with fail
          refine (quads_any _ _ _ _ _ _ _ _ _ _ _ _ (by omega) (by omega) (by omega) (by omega) q0.1 q0.2 q2.1 q2.2 q1.1 q1.2).mono ?_
          rw [←HSxy.out.1,←HSxy.out.2]
          rintro e w5 ⟨rfl,hb5⟩
          obtain ⟨hc5,hf5⟩:=bcell hb5
          have zz5:w3.heap.size<w5.heap.size:=by have:=hb5.size;simp at this;omega
          have g0:w5.cell? ⟨w3.heap.size,0,none⟩=some (.int .i64 m0):=by rw [hc5 _ _ (by simp)];go_simp
          have g1:w5.cell? ⟨w3.heap.size,1,none⟩=some (.int .i64 m1):=by rw [hc5 _ _ (by simp)];go_simp
          have f0:w5.frozen? ⟨w3.heap.size,0,none⟩=false:=by rw [hf5 _ _ (by simp)];go_simp
          have f1:w5.frozen? ⟨w3.heap.size,1,none⟩=false:=by rw [hf5 _ _ (by simp)];go_simp
          have hB5:Below w.heap.size w w5:=(hB3.alloc (by omega) _).trans (hb5.mono (by simp;omega))
          have hownA:=hown3.alloc (.cells #[.int .i64 m0,.int .i64 m1] 42)
          have hown5:=owns_of_block hownA (fun b hbb=>hb5.block b (hownA.lt b hbb).2)
          have hne5:v.ownBlock≠some w3.heap.size:=fun e=>by have:=(hown3.lt _ e).2;omega
          have HW5:=hide (row_below (HW3.out.alloc (.cells #[.int .i64 m0,.int .i64 m1] 42)) hb5 (by simp;omega))
          clear hb5 hc5 hf5 hownA c0 c1 c2 c3 c4 c5 c6 c7 c8
          go_wp2_with (at_builtin;refine wpList_append_lies _ rfl _ _ 88 rfl (w.heap.size+1) 42 i0 (.agg #[.int .i64 0,.int .i64 0]) 2 16 Tryz.underlying88 hi0 hz0 hz1 hz2 rfl (by omega) v j xs rfl (((owns_set (p:=⟨w3.heap.size,1,none⟩) (owns_set (p:=⟨w3.heap.size,0,none⟩) hown5 hne5) hne5)).alloc _) ⟨w5.heap.size,0,none⟩ 1 1 [.int .i64 sx,.int .i64 sy] rfl rfl ?e1 ?e2 (by omega) ?e3 ?e4 ?e5 (w5.heap.size+1) (by simp) ?_)
          try (case e1=>exact news_sp _ [.int .i64 sx,.int .i64 sy] _ _ (by simp))
          case e2=>first | exact one_two _ _ | exact ⟨rfl,rfl⟩
          case e3=>unfold maxLen;omega
          case e4=>omega
          case e5=>first | omega | (simp;omega)
          intro g cap w4 hown4 hgrow hat hlt4
          have hb4:Below w.heap.size w w4:=(((hB5.setCell (by simp;omega) _).setCell (by simp;omega) _).alloc (by simp;omega) _).grown hgrow (by simp;omega) (fun q hq=>by have:=(hown3.lt q hq).1;omega)
          have hR4:w4.rowIs w.heap.size 44 9 F9:=(((HW5.out.setOther (by simp;omega) _).setOther (by simp;omega) _).alloc _).of_block (hgrow.block _ (by simp;omega) (fun e=>by have:=(hown3.lt _ e.symm).1;omega))
          have HO4:Hid (w4.ownsRow (w.heap.size+1) 42 2 (.slice (some ⟨g,0,none⟩) (j+1) cap) (j+1) ((spotsU GG N (j+1)).flatMap spC)):=by
            unfold Hid
            have:=push_sp (l:=spotsU GG N j) (l':=spotsU GG N (j+1)) (p:=(sx,sy)) (m:=j+1) (by rw [←HX.out];exact hown4) HSu.out (by rw [HLe.out])
            rw [spotsU_len] at this
            exact this
          have HR4:=hide hR4
          clear hown4 hgrow hat hown3 hR4 HW3 HW hown5 g0 g1 f0 f1 hne5
          go_wp2
          go_roundw
          case rel=>exact ⟨j+1,by omega,by go_num,hb4,HR4.out,HO4.out⟩
          case measure=>simp [intOf];omega
        · have e:j=N+1:=by omega
          have hd0:decide ((j:Int)≤(N:Int))=false:=by simp;omega
          have HO:=hide hown
          have HBz:=hide hb
          clear hown hrow hb
          go_wp2
          go_ret2
          refine ⟨v,rfl,HBz.out,?_⟩
          have h:=owns_mono HO.out (Nat.le_succ w.heap.size)
          rw [e] at h
          rw [spotsU_len]
          exact h
set_option maxRecDepth 100000 in
theorem refCurve2 (x0 y0 x1 y1 x2 y2 x3 y3:Int) (w:World) :
    Calls Tryz.prog 35 #[.agg #[.int .i64 2,.int .i64 x0,.int .i64 y0,.int .i64 x1,.int .i64 y1,.int .i64 x2,.int .i64 y2,.int .i64 x3,.int .i64 y3]] w fun e w'=>∃v,e=.returned (.tuple #[v,.int .i64 (Num.curveE (⟨2,x0,y0,x1,y1,x2,y2,x3,y3⟩:Num.Sg))])∧Below w.heap.size w w'∧w'.ownsRow w.heap.size 42 2 v (Num.curveL (⟨2,x0,y0,x1,y1,x2,y2,x3,y3⟩:Num.Sg)).length ((Num.curveL (⟨2,x0,y0,x1,y1,x2,y2,x3,y3⟩:Num.Sg)).flatMap spC):=by
  obtain ⟨E,hE⟩:∃E,E=Num.curveE (⟨2,x0,y0,x1,y1,x2,y2,x3,y3⟩:Num.Sg):=⟨_,rfl⟩
  obtain ⟨L,hL⟩:∃L,L=Num.curveL (⟨2,x0,y0,x1,y1,x2,y2,x3,y3⟩:Num.Sg):=⟨_,rfl⟩
  rw [←hE,←hL]
  have HNo:Hid (Num.rangeB (⟨2,x0,y0,x1,y1,x2,y2,x3,y3⟩:Num.Sg)=false→E=6∧L=[]):=fun hr=>by
    have hE2:Num.curveE (⟨2,x0,y0,x1,y1,x2,y2,x3,y3⟩:Num.Sg)=6:=by unfold Num.curveE;rw [hr];rfl
    exact ⟨by rw [hE,hE2],by rw [hL];exact curve_no hE2 (by decide)⟩
  have HYes:Hid (Num.rangeB (⟨2,x0,y0,x1,y1,x2,y2,x3,y3⟩:Num.Sg)=true→(E=0∧L=spotsU (⟨2,x0,y0,x1,y1,x2,y2,x3,y3⟩:Num.Sg) (Num.curveN (⟨2,x0,y0,x1,y1,x2,y2,x3,y3⟩:Num.Sg)) (Num.curveN (⟨2,x0,y0,x1,y1,x2,y2,x3,y3⟩:Num.Sg)+1))∧((Num.curveN (⟨2,x0,y0,x1,y1,x2,y2,x3,y3⟩:Num.Sg):Int)=Num.stepsV (Num.needV (⟨2,x0,y0,x1,y1,x2,y2,x3,y3⟩:Num.Sg))∧1≤Num.curveN (⟨2,x0,y0,x1,y1,x2,y2,x3,y3⟩:Num.Sg)∧Num.curveN (⟨2,x0,y0,x1,y1,x2,y2,x3,y3⟩:Num.Sg)≤111)):=fun hr=>by
    rw [hE,hL];exact ⟨curve_yes rfl hr,curveN_eq hr⟩
  clear hE hL
  have HRg:Hid (Num.rangeB (⟨2,x0,y0,x1,y1,x2,y2,x3,y3⟩:Num.Sg)=(Num.inB x0 y0 && Num.inB x3 y3 && Num.inB x1 y1 && Num.inB x2 y2)):=by unfold Hid;simp [Num.rangeB]
  have HRow:=hide (sg9_row 2 x0 y0 x1 y1 x2 y2 x3 y3 w 44)
  obtain ⟨F9,hF9⟩:∃F9,F9=sg9 2 x0 y0 x1 y1 x2 y2 x3 y3:=⟨_,rfl⟩
  have HCe:=hide (fun (w:World) (b:Nat) (h:w.rowIs b 44 9 (sg9 2 x0 y0 x1 y1 x2 y2 x3 y3))=>sg9_cells h)
  rw [←hF9] at HRow HCe
  clear hF9
  obtain ⟨i0,hi0,hz0,hz1,hz2⟩:=info_parts info_spot
  go_enter Tryz.func35,Tryz.ntmps35
  go_wp2_with fail
  go_loopw [6] (fun t wr=>∃j:Nat,j≤4∧t=.int .i64 j∧Below (w.heap.size+3) (((w.alloc (.cells #[.int .i64 2,.int .i64 x0,.int .i64 y0,.int .i64 x1,.int .i64 y1,.int .i64 x2,.int .i64 y2,.int .i64 x3,.int .i64 y3] 44)).alloc (.cells #[.bool true,.bool true,.bool true,.bool true] 145)).alloc (.cells #[.int .i64 x0,.int .i64 y0,.int .i64 x3,.int .i64 y3,.int .i64 x1,.int .i64 y1,.int .i64 x2,.int .i64 y2] 146)) wr∧(1≤j→Num.inB x0 y0=true)∧(2≤j→Num.inB x3 y3=true)∧(3≤j→Num.inB x1 y1=true)∧(4≤j→Num.inB x2 y2=true)) (fun t _=>4-(intOf t).toNat)
  case atStart=>exact ⟨0,by omega,rfl,Below.refl _ _,by omega,by omega,by omega,by omega⟩
  case round=>
    obtain ⟨j,hj,rfl,hb,r0,r1,r2,r3⟩:=hrel
    have hs:=hb.size
    simp at hs
    have y0s:w.heap.size<wr.heap.size:=by omega
    have y1s:w.heap.size+1<wr.heap.size:=by omega
    have y2s:w.heap.size+1+1<wr.heap.size:=by omega
    have HR:=hide (And.intro r0 (And.intro r1 (And.intro r2 r3)))
    clear r0 r1 r2 r3
    have hbw:Below w.heap.size w wr:=Below.trans (by (repeat any_goals first | exact .refl _ _ | assumption | refine .drew ?_ | refine below_drewN ?_ _ | refine .setCell ?_ ?_ _ | refine .alloc ?_ ?_ _ | omega | (simp <;> omega))) (hb.mono (by omega))
    have HB:=hide hb
    have HBW:=hide hbw
    rcases (show j=0∨j=1∨j=2∨j=3∨j=4 by omega) with rfl | rfl | rfl | rfl | rfl
    · have l0:wr.cell? ⟨w.heap.size+1+1,0,none⟩=some (.int .i64 x0):=(hb.cell (p:=⟨w.heap.size+1+1,0,none⟩) (by first | (simp;done) | (simp;omega))).trans (by go_simp)
      have l1:wr.cell? ⟨w.heap.size+1+1,1,none⟩=some (.int .i64 y0):=(hb.cell (p:=⟨w.heap.size+1+1,1,none⟩) (by first | (simp;done) | (simp;omega))).trans (by go_simp)
      have l2:wr.cell? ⟨w.heap.size+1,0,none⟩=some (.bool true):=(hb.cell (p:=⟨w.heap.size+1,0,none⟩) (by first | (simp;done) | (simp;omega))).trans (by go_simp)
      clear hb hbw
      cases hin:Num.inB x0 y0
      · have HE:=hide (HNo.out (by rw [HRg.out];simp [hin]))
        go_wp2_with (go_at_call 76;refine (refInRange_exact _ _ _).mono ?_;rintro e w' ⟨rfl,rfl⟩)
        go_ret2
        obtain ⟨rfl,rfl⟩:=HE.out
        exact ⟨_,rfl,HBW.out.alloc (by omega) _,World.ownsRow_nil _ _ _ _⟩
      · go_wp2_with (go_at_call 76;refine (refInRange_exact _ _ _).mono ?_;rintro e w' ⟨rfl,rfl⟩)
        go_roundw
        case rel=>exact ⟨1,by omega,rfl,HB.out.alloc (by omega) _,fun _=>by first | exact hin | trivial,by omega,by omega,by omega⟩
        case measure=>simp [intOf]
    · have l0:wr.cell? ⟨w.heap.size+1+1,2,none⟩=some (.int .i64 x3):=(hb.cell (p:=⟨w.heap.size+1+1,2,none⟩) (by first | (simp;done) | (simp;omega))).trans (by go_simp)
      have l1:wr.cell? ⟨w.heap.size+1+1,3,none⟩=some (.int .i64 y3):=(hb.cell (p:=⟨w.heap.size+1+1,3,none⟩) (by first | (simp;done) | (simp;omega))).trans (by go_simp)
      have l2:wr.cell? ⟨w.heap.size+1,1,none⟩=some (.bool true):=(hb.cell (p:=⟨w.heap.size+1,1,none⟩) (by first | (simp;done) | (simp;omega))).trans (by go_simp)
      clear hb hbw
      cases hin:Num.inB x3 y3
      · have HE:=hide (HNo.out (by rw [HRg.out];simp [hin]))
        go_wp2_with (go_at_call 76;refine (refInRange_exact _ _ _).mono ?_;rintro e w' ⟨rfl,rfl⟩)
        go_ret2
        obtain ⟨rfl,rfl⟩:=HE.out
        exact ⟨_,rfl,HBW.out.alloc (by omega) _,World.ownsRow_nil _ _ _ _⟩
      · go_wp2_with (go_at_call 76;refine (refInRange_exact _ _ _).mono ?_;rintro e w' ⟨rfl,rfl⟩)
        go_roundw
        case rel=>exact ⟨2,by omega,rfl,HB.out.alloc (by omega) _,fun _=>HR.out.1 (by omega),fun _=>by first | exact hin | trivial,by omega,by omega⟩
        case measure=>simp [intOf]
    · have l0:wr.cell? ⟨w.heap.size+1+1,4,none⟩=some (.int .i64 x1):=(hb.cell (p:=⟨w.heap.size+1+1,4,none⟩) (by first | (simp;done) | (simp;omega))).trans (by go_simp)
      have l1:wr.cell? ⟨w.heap.size+1+1,5,none⟩=some (.int .i64 y1):=(hb.cell (p:=⟨w.heap.size+1+1,5,none⟩) (by first | (simp;done) | (simp;omega))).trans (by go_simp)
      have l2:wr.cell? ⟨w.heap.size+1,2,none⟩=some (.bool true):=(hb.cell (p:=⟨w.heap.size+1,2,none⟩) (by first | (simp;done) | (simp;omega))).trans (by go_simp)
      clear hb hbw
      cases hin:Num.inB x1 y1
      · have HE:=hide (HNo.out (by rw [HRg.out];simp [hin]))
        go_wp2_with (go_at_call 76;refine (refInRange_exact _ _ _).mono ?_;rintro e w' ⟨rfl,rfl⟩)
        go_ret2
        obtain ⟨rfl,rfl⟩:=HE.out
        exact ⟨_,rfl,HBW.out.alloc (by omega) _,World.ownsRow_nil _ _ _ _⟩
      · go_wp2_with (go_at_call 76;refine (refInRange_exact _ _ _).mono ?_;rintro e w' ⟨rfl,rfl⟩)
        go_roundw
        case rel=>exact ⟨3,by omega,rfl,HB.out.alloc (by omega) _,fun _=>HR.out.1 (by omega),fun _=>HR.out.2.1 (by omega),fun _=>by first | exact hin | trivial,by omega⟩
        case measure=>simp [intOf]
    · have l0:wr.cell? ⟨w.heap.size+1+1,6,none⟩=some (.int .i64 x2):=(hb.cell (p:=⟨w.heap.size+1+1,6,none⟩) (by first | (simp;done) | (simp;omega))).trans (by go_simp)
      have l1:wr.cell? ⟨w.heap.size+1+1,7,none⟩=some (.int .i64 y2):=(hb.cell (p:=⟨w.heap.size+1+1,7,none⟩) (by first | (simp;done) | (simp;omega))).trans (by go_simp)
      have l2:wr.cell? ⟨w.heap.size+1,3,none⟩=some (.bool true):=(hb.cell (p:=⟨w.heap.size+1,3,none⟩) (by first | (simp;done) | (simp;omega))).trans (by go_simp)
      clear hb hbw
      cases hin:Num.inB x2 y2
      · have HE:=hide (HNo.out (by rw [HRg.out];simp [hin]))
        go_wp2_with (go_at_call 76;refine (refInRange_exact _ _ _).mono ?_;rintro e w' ⟨rfl,rfl⟩)
        go_ret2
        obtain ⟨rfl,rfl⟩:=HE.out
        exact ⟨_,rfl,HBW.out.alloc (by omega) _,World.ownsRow_nil _ _ _ _⟩
      · go_wp2_with (go_at_call 76;refine (refInRange_exact _ _ _).mono ?_;rintro e w' ⟨rfl,rfl⟩)
        go_roundw
        case rel=>exact ⟨4,by omega,rfl,HB.out.alloc (by omega) _,fun _=>HR.out.1 (by omega),fun _=>HR.out.2.1 (by omega),fun _=>HR.out.2.2.1 (by omega),fun _=>by first | exact hin | trivial⟩
        case measure=>simp [intOf]
    · have hr:Num.rangeB (⟨2,x0,y0,x1,y1,x2,y2,x3,y3⟩:Num.Sg)=true:=by
        rw [HRg.out,HR.out.1 (by omega),HR.out.2.1 (by omega),HR.out.2.2.1 (by omega),HR.out.2.2.2 (by omega)];rfl
      have q0:=Num.inB_yes (HR.out.1 (by omega))
      have q1:=Num.inB_yes (HR.out.2.1 (by omega))
      have q2:=Num.inB_yes (HR.out.2.2.1 (by omega))
      have q3:=Num.inB_yes (HR.out.2.2.2 (by omega))
      obtain ⟨⟨eE,eL⟩,eN,n1,n2⟩:=HYes.out hr
      have HP:=hide (fun w=>parts_any 2 x0 y0 x1 y1 x2 y2 x3 y3 w hr)
      obtain ⟨N,hN⟩:∃N,N=Num.curveN (⟨2,x0,y0,x1,y1,x2,y2,x3,y3⟩:Num.Sg):=⟨_,rfl⟩
      rw [←hN] at eN n1 n2 eL
      rw [←eN] at HP
      have hrow0:wr.rowIs w.heap.size 44 9 F9:=row_below ((HRow.out.alloc _).alloc _) hb (by omega)
      obtain ⟨c0,c1,c2,c3,c4,c5,c6,c7,c8⟩:=HCe.out _ _ hrow0
      have HR0:=hide hrow0
      have HSX:Hid (∀j:Nat,Num.spotX (⟨2,x0,y0,x1,y1,x2,y2,x3,y3⟩:Num.Sg) N j=Num.hu (Num.cSum ((N:Int)-j) j x0 x1 x2 x3) ((N:Int)*N*N)):=fun j=>by unfold Num.spotX;rw [if_neg (by show ¬(2:Int)=1;decide),if_pos rfl]
      have HSY:Hid (∀j:Nat,Num.spotY (⟨2,x0,y0,x1,y1,x2,y2,x3,y3⟩:Num.Sg) N j=Num.hu (Num.cSum ((N:Int)-j) j y0 y1 y2 y3) ((N:Int)*N*N)):=fun j=>by unfold Num.spotY;rw [if_neg (by show ¬(2:Int)=1;decide),if_pos rfl]
      obtain ⟨GG,hGG⟩:∃GG:Num.Sg,GG=(⟨2,x0,y0,x1,y1,x2,y2,x3,y3⟩:Num.Sg):=⟨_,rfl⟩
      rw [←hGG] at HSX HSY eL
      clear HNo HYes
      subst eE eL
      clear hb hbw hrow0 hr eN hN hGG
      go_wp2_with fail
      refine (HP.out _).mono ?_
      rintro e w2 ⟨rfl,hb2⟩
      have hs2:=hb2.size
      have hbW:Below w.heap.size w w2:=HBW.out.trans (hb2.mono (by omega))
      have HR2:=hide (row_below HR0.out hb2 HR0.out.lt)
      clear hb2 c0 c1 c2 c3 c4 c5 c6 c7 c8
      go_wp2_with fail
      go_loopw [9,10] (fun v t wr=>∃j:Nat,j≤N+1∧t=.int .i64 j∧Below w.heap.size w wr∧wr.rowIs w.heap.size 44 9 F9∧wr.ownsRow (w.heap.size+1) 42 2 v j ((spotsU GG N j).flatMap spC)) (fun _ t _=>N+1-(intOf t).toNat)
      case atStart=>exact ⟨0,by omega,rfl,hbW,HR2.out,World.ownsRow_nil _ _ _ _⟩
      case round=>
        obtain ⟨v,rfl⟩:∃v,v=u9:=⟨_,rfl⟩
        obtain ⟨j,hj,rfl,hb,hrow,hown⟩:=hrel
        have hsz:=hrow.lt
        by_cases hlt:j<N+1
        · have hd1:decide ((j:Int)≤(N:Int))=true:=by simp;omega
          obtain ⟨c0,c1,c2,c3,c4,c5,c6,c7,c8⟩:=HCe.out _ _ hrow
          have HW:=hide hrow
          clear hrow
          go_wp2_with fail
          refine (mix_any _ _ _ _ _ _ _ (by omega) (by omega) (by omega) (by omega) (by omega) (by omega) (by omega)).mono ?_
          rintro e w3 ⟨rfl,hb3⟩
          have hs3:=hb3.size
          have hown3:=owns_of_block hown (fun b hbb=>hb3.block b (hown.lt b hbb).2)
          have hB3:Below w.heap.size w w3:=hb.trans (hb3.mono (by omega))
          have HW3:=hide (row_below HW.out hb3 HW.out.lt)
          have HSu:=hide (spotsU_succ GG N j)
          have HLe:=hide (spotsU_len GG N j)
          clear hb hb3 hown c0 c1 c2 c3 c4 c5 c6 c7 c8
          obtain ⟨c0,c1,c2,c3,c4,c5,c6,c7,c8⟩:=HCe.out _ _ HW3.out
          obtain ⟨sx,hsx⟩:∃sx,sx=Num.spotX GG N j:=⟨_,rfl⟩
          obtain ⟨sy,hsy⟩:∃sy,sy=Num.spotY GG N j:=⟨_,rfl⟩
          rw [←hsx,←hsy] at HSu
          obtain ⟨xs,hxs⟩:∃xs,xs=(spotsU GG N j).flatMap spC:=⟨_,rfl⟩
          rw [←hxs] at hown3
          have HX:=hide hxs
          have zz:w.heap.size<w3.heap.size:=by omega
          have HSxy:=hide (And.intro (HSX.out j) (HSY.out j))
          obtain ⟨m0,hm0⟩:∃m0,m0=Num.mx ((N:Int)-j) j x0 x3:=⟨_,rfl⟩
          obtain ⟨m1,hm1⟩:∃m1,m1=Num.mx ((N:Int)-j) j y0 y3:=⟨_,rfl⟩
          rw [←hm0,←hm1]
          rw [←hsx,←hsy] at HSxy
          clear hsx hsy hxs hm0 hm1
          go_wp2_with fail
          refine (cubics_any _ _ _ _ _ _ _ _ _ _ _ _ (by omega) (by omega) (by omega) (by omega) q0.1 q0.2 q2.1 q2.2 q3.1 q3.2 q1.1 q1.2).mono ?_
          rw [←HSxy.out.1,←HSxy.out.2]
          rintro e w5 ⟨rfl,hb5⟩
          obtain ⟨hc5,hf5⟩:=bcell hb5
          have zz5:w3.heap.size<w5.heap.size:=by have:=hb5.size;simp at this;omega
          have g0:w5.cell? ⟨w3.heap.size,0,none⟩=some (.int .i64 m0):=by rw [hc5 _ _ (by simp)];go_simp
          have g1:w5.cell? ⟨w3.heap.size,1,none⟩=some (.int .i64 m1):=by rw [hc5 _ _ (by simp)];go_simp
          have f0:w5.frozen? ⟨w3.heap.size,0,none⟩=false:=by rw [hf5 _ _ (by simp)];go_simp
          have f1:w5.frozen? ⟨w3.heap.size,1,none⟩=false:=by rw [hf5 _ _ (by simp)];go_simp
          have hB5:Below w.heap.size w w5:=(hB3.alloc (by omega) _).trans (hb5.mono (by simp;omega))
          have hownA:=hown3.alloc (.cells #[.int .i64 m0,.int .i64 m1] 42)
          have hown5:=owns_of_block hownA (fun b hbb=>hb5.block b (hownA.lt b hbb).2)
          have hne5:v.ownBlock≠some w3.heap.size:=fun e=>by have:=(hown3.lt _ e).2;omega
          have HW5:=hide (row_below (HW3.out.alloc (.cells #[.int .i64 m0,.int .i64 m1] 42)) hb5 (by simp;omega))
          clear hb5 hc5 hf5 hownA c0 c1 c2 c3 c4 c5 c6 c7 c8
          go_wp2_with (at_builtin;refine wpList_append_lies _ rfl _ _ 88 rfl (w.heap.size+1) 42 i0 (.agg #[.int .i64 0,.int .i64 0]) 2 16 Tryz.underlying88 hi0 hz0 hz1 hz2 rfl (by omega) v j xs rfl (((owns_set (p:=⟨w3.heap.size,1,none⟩) (owns_set (p:=⟨w3.heap.size,0,none⟩) hown5 hne5) hne5)).alloc _) ⟨w5.heap.size,0,none⟩ 1 1 [.int .i64 sx,.int .i64 sy] rfl rfl ?e1 ?e2 (by omega) ?e3 ?e4 ?e5 (w5.heap.size+1) (by simp) ?_)
          try (case e1=>exact news_sp _ [.int .i64 sx,.int .i64 sy] _ _ (by simp))
          case e2=>first | exact one_two _ _ | exact ⟨rfl,rfl⟩
          case e3=>unfold maxLen;omega
          case e4=>omega
          case e5=>first | omega | (simp;omega)
          intro g cap w4 hown4 hgrow hat hlt4
          have hb4:Below w.heap.size w w4:=(((hB5.setCell (by simp;omega) _).setCell (by simp;omega) _).alloc (by simp;omega) _).grown hgrow (by simp;omega) (fun q hq=>by have:=(hown3.lt q hq).1;omega)
          have hR4:w4.rowIs w.heap.size 44 9 F9:=(((HW5.out.setOther (by simp;omega) _).setOther (by simp;omega) _).alloc _).of_block (hgrow.block _ (by simp;omega) (fun e=>by have:=(hown3.lt _ e.symm).1;omega))
          have HO4:Hid (w4.ownsRow (w.heap.size+1) 42 2 (.slice (some ⟨g,0,none⟩) (j+1) cap) (j+1) ((spotsU GG N (j+1)).flatMap spC)):=by
            unfold Hid
            have:=push_sp (l:=spotsU GG N j) (l':=spotsU GG N (j+1)) (p:=(sx,sy)) (m:=j+1) (by rw [←HX.out];exact hown4) HSu.out (by rw [HLe.out])
            rw [spotsU_len] at this
            exact this
          have HR4:=hide hR4
          clear hown4 hgrow hat hown3 hR4 HW3 HW hown5 g0 g1 f0 f1 hne5
          go_wp2
          go_roundw
          case rel=>exact ⟨j+1,by omega,by go_num,hb4,HR4.out,HO4.out⟩
          case measure=>simp [intOf];omega
        · have e:j=N+1:=by omega
          have hd0:decide ((j:Int)≤(N:Int))=false:=by simp;omega
          have HO:=hide hown
          have HBz:=hide hb
          clear hown hrow hb
          go_wp2
          go_ret2
          refine ⟨v,rfl,HBz.out,?_⟩
          have h:=owns_mono HO.out (Nat.le_succ w.heap.size)
          rw [e] at h
          rw [spotsU_len]
          exact h
theorem refCurve_any (k x0 y0 x1 y1 x2 y2 x3 y3:Int) (w:World) :
    Calls Tryz.prog 35 #[.agg #[.int .i64 k,.int .i64 x0,.int .i64 y0,.int .i64 x1,.int .i64 y1,.int .i64 x2,.int .i64 y2,.int .i64 x3,.int .i64 y3]] w fun e w'=>∃v,e=.returned (.tuple #[v,.int .i64 (Num.curveE (⟨k,x0,y0,x1,y1,x2,y2,x3,y3⟩:Num.Sg))])∧Below w.heap.size w w'∧w'.ownsRow w.heap.size 42 2 v (Num.curveL (⟨k,x0,y0,x1,y1,x2,y2,x3,y3⟩:Num.Sg)).length ((Num.curveL (⟨k,x0,y0,x1,y1,x2,y2,x3,y3⟩:Num.Sg)).flatMap spC):=by
  cases hk:Num.kindB (⟨k,x0,y0,x1,y1,x2,y2,x3,y3⟩:Num.Sg)
  · have hE:Num.curveE (⟨k,x0,y0,x1,y1,x2,y2,x3,y3⟩:Num.Sg)=3:=by unfold Num.curveE;rw [hk];rfl
    rw [hE,curve_no hE (by decide)]
    obtain ⟨k0,k1,k2⟩:=Num.kind_no hk
    simp only at k0 k1 k2
    clear hk hE
    by_cases hlt:k<0
    · go_enter Tryz.func35,Tryz.ntmps35
      go_wp2
      go_ret2
      exact ⟨_,rfl,by (repeat any_goals first | exact .refl _ _ | assumption | refine .drew ?_ | refine below_drewN ?_ _ | refine .setCell ?_ ?_ _ | refine .alloc ?_ ?_ _ | omega | (simp <;> omega)),World.ownsRow_nil _ _ _ _⟩
    · have hgt:2<k:=by omega
      go_enter Tryz.func35,Tryz.ntmps35
      go_wp2
      go_ret2
      exact ⟨_,rfl,by (repeat any_goals first | exact .refl _ _ | assumption | refine .drew ?_ | refine below_drewN ?_ _ | refine .setCell ?_ ?_ _ | refine .alloc ?_ ?_ _ | omega | (simp <;> omega)),World.ownsRow_nil _ _ _ _⟩
  · have hkk:k=0∨k=1∨k=2:=Num.kind_yes hk
    clear hk
    rcases hkk with rfl | rfl | rfl
    · exact refCurve0 _ _ _ _ _ _ _ _ _
    · exact refCurve1 _ _ _ _ _ _ _ _ _
    · exact refCurve2 _ _ _ _ _ _ _ _ _
end Go.Proofs.YtkhcjkmifddlbabGreatDoor
