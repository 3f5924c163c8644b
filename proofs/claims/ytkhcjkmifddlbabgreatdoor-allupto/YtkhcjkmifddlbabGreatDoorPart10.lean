import Derived.Test.YtkhcjkmifddlbabGreatDoorPart9
import Derived.Test.YtkhcjkmifddlbabGreatDoorPart8
import Derived.Test.YtkhcjkmifddlbabGreatDoorPart7
set_option maxHeartbeats 8000000
namespace Go.Proofs.YtkhcjkmifddlbabGreatDoor
open Go.RowKit Go.Deep
set_option maxRecDepth 100000 in
theorem layRing_any (b W H tk base:Nat) (tt:TypeId) (A:Nat→Nat→Int) (P st t:Int) (S:Nat→Prop) (vR:Value) (l:List (Int×Int)) (w:World) (hC:Cnv w b tt W H tk A P S st) (hW:1≤W∧W≤64) (hH:1≤H∧H≤64) (hP:0≤P∧P+1100000*l.length≤140737487255328)
    (ht:t=1∨t = -1) (hl:∀p∈l,Num.inB p.1 p.2=true) (hO:w.ownsRow base 42 2 vR l.length (l.flatMap spC)) (hd:∀q,vR.ownBlock=some q→¬S q) :
    Calls Tryz.prog 185 #[.pointer (some ⟨b,0,none⟩),vR,.int .i64 t] w fun e w'=>e=.returned (.tuple #[])∧Touch S w w'∧∃S',Cnv w' b tt W H tk (fun i j=>A i j+t*Num.ringF (Num.chA i j) l) (P+1100000*l.length) S' st∧∀q,S' q→S q∨w.heap.size≤q:=by
  obtain ⟨ao,cap0,rfl,hao⟩:=owns_formN hO
  have HO:=hide hO
  have HAo:=hide hao
  have HL:=hide hl
  have HD:=hide hd
  have HC:=hide hC
  have HCh:Hid (∀(i j:Int) (k:Nat),Num.sumZ (Num.chF (Num.chA i j) l) (k+1)=Num.sumZ (Num.chF (Num.chA i j) l) k+Num.chordV (Num.ats l k).1 (Num.ats l k).2 (Num.ats l (Num.nxR l.length k)).1 (Num.ats l (Num.nxR l.length k)).2 i j):=fun i j k=>rfl
  obtain ⟨n,hn⟩:∃n,n=l.length:=⟨_,rfl⟩
  have HR:Hid (∀i j:Int,Num.ringF (Num.chA i j) l=Num.sumZ (Num.chF (Num.chA i j) l) n):=fun i j=>by rw [hn];rfl
  rw [←hn] at hP HAo HCh ⊢
  have HN:=hide hn
  clear hC hn hO hao hl hd
  go_enter Tryz.func185,Tryz.ntmps185
  go_wp2_with fail
  go_loopw [11] (fun t' wr=>∃(k:Nat) (S':Nat→Prop),k≤n∧t'=.int .i64 k∧Touch S w wr∧(∀q,ao=some ⟨q,0,none⟩→wr.heap[q]? = w.heap[q]?) ∧
      Cnv wr b tt W H tk (fun i j=>A i j+t*Num.sumZ (Num.chF (Num.chA i j) l) k) (P+1100000*k) S' st∧∀q,S' q→S q∨w.heap.size≤q) (fun t' _=>n-(intOf t').toNat)
  case atStart=>exact ⟨0,S,by omega,rfl,Touch.refl S w,fun _ _=>rfl,HC.out.mono (fun i j _ _=>by simp [Num.sumZ]) (by simp),fun q hq=>.inl hq⟩
  case round=>
    obtain ⟨k,S',hk,rfl,hto,hblk,hcv,hS'⟩:=hrel
    have hsz:=hto.size
    by_cases hlt:k<n
    · have hkl:k<l.length:=by rw [←HN.out];exact hlt
      obtain ⟨q,rfl⟩:=HAo.out (by omega)
      have hqw:q<w.heap.size:=(HO.out.lt q rfl).2
      have hOr:=owns_of_block (w':=wr) HO.out (fun q' hq=>by
        have e:q'=q:=by simp [Value.ownBlock] at hq;exact hq.symm
        subst e;exact hblk q' rfl)
      obtain ⟨d0,d1⟩:=owns_sp hOr k hkl
      obtain ⟨e0,e1⟩:=owns_sp hOr 0 (by omega)
      have hqS:¬S' q:=fun e=>by
        rcases hS' q e with h | h
        · exact HD.out q rfl h
        · omega
      have hin1:=HL.out l[k] (List.getElem_mem hkl)
      have hac:Num.ats l k=l[k]:=Num.ats_at hkl
      have hd1:decide ((k:Int)<(n:Int))=true:=by simp;omega
      have i0':(0:Int)≤(k:Int):=by omega
      have i1':(k:Int)<(n:Int):=by omega
      have i2':(0:Int)<(n:Int):=by omega
      have hqr:q<wr.heap.size:=by omega
      by_cases hl2:k+1<n
      · have hkl2:k+1<l.length:=by rw [←HN.out];exact hl2
        obtain ⟨f0,f1⟩:=owns_sp hOr (k+1) hkl2
        have hin2:=HL.out l[k+1] (List.getElem_mem hkl2)
        have hnx:Num.ats l (Num.nxR n k)=l[k+1]:=by unfold Num.nxR;rw [if_pos hl2];exact Num.ats_at hkl2
        have HSt:=hide (fun i j=>HCh.out i j k)
        rw [hac,hnx] at HSt
        obtain ⟨p,hp⟩:∃p,p=l[k]:=⟨_,rfl⟩
        obtain ⟨r,hr⟩:∃r,r=l[k+1]:=⟨_,rfl⟩
        rw [←hp,←hr] at HSt
        rw [←hp] at d0 d1 hin1
        rw [←hr] at f0 f1 hin2
        clear hp hr hac hnx
        obtain ⟨px,py⟩:=p
        obtain ⟨rx,ry⟩:=r
        simp only at d0 d1 f0 f1 hin1 hin2 HSt e0 e1
        have i3':(k:Int)+1<(n:Int):=by omega
        have HCall:=hide (fun w' (hb:Below wr.heap.size wr w')=>layChord_any b W H tk tt _ (P+1100000*k) st px py rx ry t S' w' (hcv.below hb) hW hH (by omega) ht hin1 hin2)
        have HTo:=hide hto
        have HS':=hide hS'
        have HBl:=hide (hblk q rfl)
        obtain ⟨ex,hex⟩:∃ex,ex=l[0].1:=⟨_,rfl⟩
        obtain ⟨ey,hey⟩:∃ey,ey=l[0].2:=⟨_,rfl⟩
        rw [←hex] at e0
        rw [←hey] at e1
        clear hOr hcv hto hblk hS' hex hey
        go_wp2_with fail
        refine (HCall.out _ (by (repeat any_goals first | exact .refl _ _ | assumption | refine .drew ?_ | refine below_drewN ?_ _ | refine .setCell ?_ ?_ _ | refine .alloc ?_ ?_ _ | omega | (simp <;> omega)))).mono ?_
        rintro e w3 ⟨rfl,hT3,S2,hC3,hS2⟩
        have hs3:=hT3.size
        rw [nblk_alloc,nblk_alloc] at hs3
        have HT3:Hid (Touch S w w3):=((HTo.out.alloc _).alloc _).trans' hT3 (fun q e=>HS'.out q e)
        have HB3:Hid (w3.heap[q]? = w.heap[q]?):=by
          unfold Hid
          rw [hT3.block q (by simp;omega) hqS,blk_alloc_lt _ _ _ (by simp;omega),blk_alloc_lt _ _ _ hqr]
          exact HBl.out
        have HC3:Hid (Cnv w3 b tt W H tk (fun i j=>A i j+t*Num.sumZ (Num.chF (Num.chA i j) l) (k+1)) (P+1100000*((k+1:Nat):Int)) S2 st):=
          hC3.mono (fun i j _ _=>by rw [HSt.out,Int.mul_add];omega) (by omega)
        have HS3:Hid (∀q,S2 q→S q∨w.heap.size≤q):=fun q hq=>by
          rcases hS2 q hq with h | h
          · exact HS'.out q h
          · simp at h;exact .inr (by omega)
        clear hT3 hC3 hS2 HCall
        go_wp2
        go_roundw
        case rel=>exact ⟨k+1,S2,by omega,by go_num,HT3.out,fun q' e=>by cases e;exact HB3.out,HC3.out,HS3.out⟩
        case measure=>simp [intOf];omega
      · have hk1:k+1=n:=by omega
        have h0l:0<l.length:=by omega
        have hin2:=HL.out l[0] (List.getElem_mem h0l)
        have hnx:Num.ats l (Num.nxR n k)=l[0]:=by unfold Num.nxR;rw [if_neg hl2];exact Num.ats_at h0l
        have HSt:=hide (fun i j=>HCh.out i j k)
        rw [hac,hnx] at HSt
        obtain ⟨p,hp⟩:∃p,p=l[k]:=⟨_,rfl⟩
        obtain ⟨r,hr⟩:∃r,r=l[0]:=⟨_,rfl⟩
        rw [←hp,←hr] at HSt
        rw [←hp] at d0 d1 hin1
        rw [←hr] at e0 e1 hin2
        clear hp hr hac hnx
        obtain ⟨px,py⟩:=p
        obtain ⟨rx,ry⟩:=r
        simp only at d0 d1 hin1 hin2 HSt e0 e1
        have i3':¬(k:Int)+1<(n:Int):=by omega
        have HCall:=hide (fun w' (hb:Below wr.heap.size wr w')=>layChord_any b W H tk tt _ (P+1100000*k) st px py rx ry t S' w' (hcv.below hb) hW hH (by omega) ht hin1 hin2)
        have HTo:=hide hto
        have HS':=hide hS'
        have HBl:=hide (hblk q rfl)
        clear hOr hcv hto hblk hS'
        go_wp2_with fail
        refine (HCall.out _ (by (repeat any_goals first | exact .refl _ _ | assumption | refine .drew ?_ | refine below_drewN ?_ _ | refine .setCell ?_ ?_ _ | refine .alloc ?_ ?_ _ | omega | (simp <;> omega)))).mono ?_
        rintro e w3 ⟨rfl,hT3,S2,hC3,hS2⟩
        have hs3:=hT3.size
        rw [nblk_alloc,nblk_alloc] at hs3
        have HT3:Hid (Touch S w w3):=((HTo.out.alloc _).alloc _).trans' hT3 (fun q e=>HS'.out q e)
        have HB3:Hid (w3.heap[q]? = w.heap[q]?):=by
          unfold Hid
          rw [hT3.block q (by simp;omega) hqS,blk_alloc_lt _ _ _ (by simp;omega),blk_alloc_lt _ _ _ hqr]
          exact HBl.out
        have HC3:Hid (Cnv w3 b tt W H tk (fun i j=>A i j+t*Num.sumZ (Num.chF (Num.chA i j) l) (k+1)) (P+1100000*((k+1:Nat):Int)) S2 st):=
          hC3.mono (fun i j _ _=>by rw [HSt.out,Int.mul_add];omega) (by omega)
        have HS3:Hid (∀q,S2 q→S q∨w.heap.size≤q):=fun q hq=>by
          rcases hS2 q hq with h | h
          · exact HS'.out q h
          · simp at h;exact .inr (by omega)
        clear hT3 hC3 hS2 HCall
        go_wp2
        go_roundw
        case rel=>exact ⟨k+1,S2,by omega,by go_num,HT3.out,fun q' e=>by cases e;exact HB3.out,HC3.out,HS3.out⟩
        case measure=>simp [intOf];omega
    · have e:k=n:=by omega
      have hd0:decide ((k:Int)<(n:Int))=false:=by simp;omega
      have HFin:Hid (Touch S w wr∧∃S',Cnv wr b tt W H tk (fun i j=>A i j+t*Num.ringF (Num.chA i j) l) (P+1100000*n) S' st∧∀q,S' q→S q∨w.heap.size≤q):=
        ⟨hto,S',hcv.mono (fun i j _ _=>by rw [HR.out,e]) (by omega),hS'⟩
      clear hto hblk hcv hS'
      go_wp2
      go_end0
      exact ⟨rfl,HFin.out⟩
theorem tidyCnv_any (b W H tk:Nat) (tt:TypeId) (A:Nat→Nat→Int) (P st:Int) (S:Nat→Prop) (w:World) (hC:Cnv w b tt W H tk A P S st) (hH:H≤64) :
    Calls Tryz.prog 186 #[.pointer (some ⟨b,6,none⟩)] w fun e w'=>e=.returned (.tuple #[])∧Touch S w w'∧∃S',Cnv w' b tt W H tk A P S' st∧∀q,S' q→S q∨w.heap.size≤q:=by
  have hC0:=hC
  cases hC with
  | tab g T hR hT hbg hA hB hSb hSg hlt=>
    refine (tidyNil_any b tt _ w hR rfl).mono ?_
    rintro e w' ⟨rfl,rfl⟩
    exact ⟨rfl,Touch.refl _ _,S,hC0,fun q hq=>.inl hq⟩
  | rws g V R hR hG hbg hA hM hSb hSg hlt=>
    refine (tidy_any b g H V R tt _ w hH hR rfl hG hbg).mono ?_
    rintro e w' ⟨rfl,hT,V',hG',hnew⟩
    have hbl:b<w.heap.size:=hR.lt
    refine ⟨rfl,(Touch.refl S w).trans' hT (fun q hq=>.inl (hSg q hq)),fun q=>S q∨(w.heap.size≤q∧q<w'.heap.size),.rws g V' _ (hT.row hR hbg) hG' (fun e=>?_) (fun i j hi hj=>?_) (fun j hj=>?_) (.inl hSb) (fun q hq=>?_) (fun q hq=>?_),fun q hq=>?_⟩
    · rcases hnew b e with h | h
      · exact hbg h
      · omega
    · rw [Num.rowA_filter];exact hA i j hi hj
    · rw [Num.mass_filter];exact hM j hj
    · rcases hnew q hq with h | h
      · exact .inl (hSg q h)
      · exact .inr ⟨h,hG'.lt hq⟩
    · rcases hq with h | h
      · exact Nat.lt_of_lt_of_le (hlt q h) hT.size
      · exact h.2
    · rcases hq with h | h
      · exact .inl h
      · exact .inr h.1
theorem cv7_taken {w:World} {b:Nat} {tt:TypeId} {W H st tw:Int} {tk:Nat} {ta tr:Value} (h:w.rowIs b tt 7 (cv7 W H st tk tw ta tr)) (k:Nat):(w.setCell ⟨b,3,none⟩ (.int .i64 (k:Int))).rowIs b tt 7 (cv7 W H st k tw ta tr):=by
  refine (h.set 3 _).congr fun q hq=>?_
  rcases (show q=0∨q=1∨q=2∨q=3∨q=4∨q=5∨q=6 by omega) with rfl | rfl | rfl | rfl | rfl | rfl | rfl <;> rfl
theorem Cnv.took {w:World} {b:Nat} {tt:TypeId} {W H tk:Nat} {A:Nat→Nat→Int} {P:Int} {S:Nat→Prop} {st:Int} (h:Cnv w b tt W H tk A P S st) (k:Nat):Cnv (w.setCell ⟨b,3,none⟩ (.int .i64 (k:Int))) b tt W H k A P S st:=by
  have hne:∀q,q≠b→(w.setCell ⟨b,3,none⟩ (.int .i64 (k:Int))).heap[q]? = w.heap[q]?:=fun q hq=>blk_setCell_other _ _ _ _ (by simpa using hq)
  have t:Touch (fun q=>q=b) w (w.setCell ⟨b,3,none⟩ (.int .i64 (k:Int))):=(Touch.refl (fun q=>q=b) w).setCell (p:=⟨b,3,none⟩) (.inl rfl) _
  cases h with
  | tab g T hR hT hbg hA hB hSb hSg hlt=>exact .tab g T (cv7_taken hR k) (hT.of_block (hne g (fun e=>hbg e.symm))) hbg hA hB hSb hSg (fun q hq=>Nat.lt_of_lt_of_le (hlt q hq) t.size)
  | rws g V R hR hG hbg hA hM hSb hSg hlt=>exact .rws g V R (cv7_taken hR k) (hG.touch t (fun q hq e=>hbg (by rw [←e];exact hq))) hbg hA hM hSb hSg (fun q hq=>Nat.lt_of_lt_of_le (hlt q hq) t.size)
theorem Cnv.frozen {w:World} {b:Nat} {tt:TypeId} {W H tk:Nat} {A:Nat→Nat→Int} {P:Int} {S:Nat→Prop} {st:Int} (h:Cnv w b tt W H tk A P S st) (i:Nat):w.frozen? ⟨b,i,none⟩=false:=by
  cases h with
  | tab g T hR hT hbg hA hB hSb hSg hlt=>exact hR.frozen i
  | rws g V R hR hG hbg hA hM hSb hSg hlt=>exact hR.frozen i
def layE (te:Int) (tk:Nat):Int:=if te=0 then (if 100≤tk then 7 else 0) else te
theorem trace_facts {N:Nat} {n:Nat→Nat} {X Y K:Nat→Nat→Int} {m:Num.Mp} (h:traceE N n X Y K m=0):N≤16∧∀i,i<N→(traceL n X Y K m i).length≤44400∧∀p∈traceL n X Y K m i,Num.inB p.1 p.2=true:=by
  rcases Num.chk_cases N n X Y K with ⟨h0,hm,_,_⟩ | h0
  · obtain ⟨m16,_,mn⟩:=ok_many hm
    refine ⟨m16,fun i hi=>⟨?_,Num.ringSp_in⟩⟩
    have h1:=Num.ringSp_le m (ringL n X Y K i)
    have h2:=refRing_len (X i) (Y i) (K i) (n i)
    have h3:=mn i hi
    unfold traceL
    have h4:(ringL n X Y K i).length≤400:=by unfold ringL;omega
    omega
  · exfalso
    unfold traceE at h
    rw [if_neg h0] at h
    exact h0 h
set_option maxRecDepth 100000 in
theorem lay_any (bk W H tk:Nat) (tt:TypeId) (A:Nat→Nat→Int) (st t:Int) (S:Nat→Prop) (ad:Option Addr) (N cc:Nat) (AA:Nat→Option Addr) (C n:Nat→Nat) (X Y K:Nat→Nat→Int) (a b c d x y:Int) (w:World)
    (hC:Cnv w bk tt W H tk A (781440000000*tk) S st) (hW:1≤W∧W≤64) (hH:1≤H∧H≤64) (htk:tk≤100) (ht:t=1∨t = -1) (hN:N≤4294967296) (hn:∀i,i<N→n i≤4294967296) (ho:OutAt w ad N AA C n X Y K) :
    Calls Tryz.prog 168 #[.pointer (some ⟨bk,0,none⟩),.slice ad N cc,.agg #[.int .i64 a,.int .i64 b,.int .i64 c,.int .i64 d,.int .i64 x,.int .i64 y],.int .i64 t] w fun e w'=>e=.returned (.int .i64 (layE (traceE N n X Y K ⟨a,b,c,d,x,y⟩) tk))∧Touch S w w' ∧
      (layE (traceE N n X Y K ⟨a,b,c,d,x,y⟩) tk≠0→Cnv w' bk tt W H tk A (781440000000*tk) S st) ∧
      (layE (traceE N n X Y K ⟨a,b,c,d,x,y⟩) tk=0→∃S',Cnv w' bk tt W H (tk+1) (fun i j=>A i j+t*Num.areaV (traceL n X Y K ⟨a,b,c,d,x,y⟩) N i j) (781440000000*((tk+1:Nat):Int)) S' st∧∀q,S' q→S q∨w.heap.size≤q):=by
  have HTr:=hide (fun w' (h:OutAt w' ad N AA C n X Y K)=>chordTrace_any ad N cc AA C n X Y K a b c d x y w' hN hn h)
  have hO1:=hide (ho.below ((Below.refl w.heap.size w).alloc (Nat.le_refl _) (.cells #[.int .i64 a,.int .i64 b,.int .i64 c,.int .i64 d,.int .i64 x,.int .i64 y] 40)))
  obtain ⟨m,hm⟩:∃m:Num.Mp,m=⟨a,b,c,d,x,y⟩:=⟨_,rfl⟩
  rw [←hm] at HTr ⊢
  have HF:Hid (traceE N n X Y K m=0→N≤16∧∀i,i<N→(traceL n X Y K m i).length≤44400∧∀p∈traceL n X Y K m i,Num.inB p.1 p.2=true):=trace_facts
  have HTN:Hid (traceE N n X Y K m=0→traceN N n X Y K m=N):=fun h=>by unfold traceN;rw [if_pos h]
  obtain ⟨L,hL⟩:∃L,L=traceL n X Y K m:=⟨_,rfl⟩
  obtain ⟨TE,hTE⟩:∃TE,TE=traceE N n X Y K m:=⟨_,rfl⟩
  obtain ⟨TN,hTN⟩:∃TN,TN=traceN N n X Y K m:=⟨_,rfl⟩
  rw [←hL,←hTE,←hTN] at HTr
  rw [←hL,←hTE] at HF
  rw [←hTE,←hTN] at HTN
  rw [←hL,←hTE]
  obtain ⟨k0,k1,k2,k3,hbl⟩:=hC.cells
  have HC:=hide hC
  have HMr:=hide (mp6_row a b c d x y w 40)
  clear hC ho hm hL hTE hTN
  by_cases hT0:TE=0
  · subst hT0
    obtain ⟨hN16,hLl⟩:=HF.out rfl
    have hTN0:=HTN.out rfl
    subst hTN0
    have HLl:=hide hLl
    by_cases hfull:100≤tk
    · have hle:layE 0 tk=7:=by unfold layE;rw [if_pos rfl,if_pos hfull]
      rw [hle]
      have hfi:(100:Int)≤(tk:Int):=by omega
      clear hle
      go_enter Tryz.func168,Tryz.ntmps168
      go_wp2_with fail
      refine (HTr.out _ hO1.out).mono ?_
      rintro e w1 ⟨v,V,rfl,hb1,hS1⟩
      have HB1:Hid (Below w.heap.size w w1):=Below.trans (by (repeat any_goals first | exact .refl _ _ | assumption | refine .drew ?_ | refine below_drewN ?_ _ | refine .setCell ?_ ?_ _ | refine .alloc ?_ ?_ _ | omega | (simp <;> omega))) (hb1.mono (by simp))
      obtain ⟨c0,c1,c2,c3,hbl1⟩:=(HC.out.below HB1.out).cells
      clear hb1 hS1 k0 k1 k2 k3
      go_wp2
      go_ret
      exact ⟨rfl,(Touch.refl S w).of_below HB1.out,fun _=>HC.out.below HB1.out,fun e=>by simp at e⟩
    · have hle:layE 0 tk=0:=by unfold layE;rw [if_pos rfl,if_neg hfull]
      rw [hle]
      have hfi:¬(100:Int)≤(tk:Int):=by omega
      clear hle
      go_enter Tryz.func168,Tryz.ntmps168
      go_wp2_with fail
      refine (HTr.out _ hO1.out).mono ?_
      rintro e w1 ⟨v,V,rfl,hb1,hS1⟩
      have HB1:Hid (Below w.heap.size w w1):=Below.trans (by (repeat any_goals first | exact .refl _ _ | assumption | refine .drew ?_ | refine below_drewN ?_ _ | refine .setCell ?_ ?_ _ | refine .alloc ?_ ?_ _ | omega | (simp <;> omega))) (hb1.mono (by simp))
      have hs1:=HB1.out.size
      have HC1:=hide (HC.out.below HB1.out)
      obtain ⟨c0,c1,c2,c3,hbl1⟩:=HC1.out.cells
      have HS1:=hide (hS1.mono (base':=w.heap.size) (by simp))
      obtain ⟨ao,cap0,hv,hao⟩:=owns_formN hS1.outer
      subst hv
      have HAo:=hide hao
      have HSl:Hid (∀q,S q→q<w.heap.size):=fun q hq=>HC.out.lt hq
      clear hb1 hS1 k0 k1 k2 k3 hao HTr HF
      go_wp2_with fail
      go_loopw [29] (fun t' wr=>∃(k:Nat) (S':Nat→Prop),k≤TN∧t'=.int .i64 k∧Touch S w1 wr ∧
          Cnv wr bk tt W H tk (fun i j=>A i j+t*Num.sumZ (fun r=>Num.ringF (Num.chA i j) (L r)) k) (781440000000*tk+48840000000*k) S' st∧∀q,S' q→S q∨w1.heap.size≤q) (fun t' _=>TN-(intOf t').toNat)
      case atStart=>exact ⟨0,S,by omega,rfl,Touch.refl S w1,HC1.out.mono (fun i j _ _=>by simp [Num.sumZ]) (by simp),fun q hq=>.inl hq⟩
      case round=>
        obtain ⟨k,S',hk,rfl,hto,hcv,hS'⟩:=hrel
        have hsz:=hto.size
        by_cases hlt:k<TN
        · obtain ⟨q,rfl⟩:=HAo.out (by omega)
          have hSr:SpRings wr w.heap.size (.slice (some ⟨q,0,none⟩) TN cap0) TN V L:=HS1.out.of_blocks (fun b hb=>hto.block b (HS1.out.outer.lt b hb).2 (fun e=>by have:=HSl.out b e;have:=(HS1.out.outer.lt b hb).1;omega)) (fun i hi b hb=>hto.block b ((HS1.out.inner i hi).lt b hb).2 (fun e=>by have:=HSl.out b e;have:=((HS1.out.inner i hi).lt b hb).1;omega))
          have ci:=hSr.outer.cellAt k (by omega)
          rw [List.getElem?_map,List.getElem?_range hlt] at ci
          simp only [Option.map_some] at ci
          have hin:=hSr.inner k hlt
          have hqw:q<wr.heap.size:=(hSr.outer.lt q rfl).2
          obtain ⟨hl1,hl2⟩:=HLl.out k hlt
          have hdis:∀q',(V k).ownBlock=some q'→¬S' q':=fun q' h1 h2=>by
            have h3:=(HS1.out.inner k hlt).lt q' h1
            rcases hS' q' h2 with h | h
            · have:=HSl.out q' h;omega
            · omega
          have HCall:=hide (layRing_any bk W H tk _ tt _ _ st t S' (V k) (L k) wr hcv hW hH ⟨by omega,by omega⟩ ht hl2 hin hdis)
          obtain ⟨an,cn,hvn,_⟩:=owns_formN hin
          rw [hvn] at ci HCall
          have HTo:=hide hto
          have HS':=hide hS'
          have hd1:decide ((k:Int)<(TN:Int))=true:=by simp;omega
          have i0':(0:Int)≤(k:Int):=by omega
          have i1':(k:Int)<(TN:Int):=by omega
          clear hSr hin hcv hto hS' hvn hdis hl2
          go_wp2_with fail
          refine HCall.out.mono ?_
          rintro e w3 ⟨rfl,hT3,S2,hC3,hS2⟩
          have hs3:=hT3.size
          have HT3:Hid (Touch S w1 w3):=HTo.out.trans' hT3 (fun q e=>HS'.out q e)
          have HC3:Hid (Cnv w3 bk tt W H tk (fun i j=>A i j+t*Num.sumZ (fun r=>Num.ringF (Num.chA i j) (L r)) (k+1)) (781440000000*tk+48840000000*((k+1:Nat):Int)) S2 st):=
            hC3.mono (fun i j _ _=>by simp only [Num.sumZ];rw [Int.mul_add];omega) (by omega)
          have HS3:Hid (∀q,S2 q→S q∨w1.heap.size≤q):=fun q hq=>by
            rcases hS2 q hq with h | h
            · exact HS'.out q h
            · exact .inr (by omega)
          clear hT3 hC3 hS2 HCall
          go_wp2
          go_roundw
          case rel=>exact ⟨k+1,S2,by omega,by go_num,HT3.out,HC3.out,HS3.out⟩
          case measure=>simp [intOf];omega
        · have e:k=TN:=by omega
          subst e
          have hd0:decide ((k:Int)<(k:Int))=false:=by simp
          have HCall:=hide (tidyCnv_any bk W H tk tt _ _ st S' wr hcv hH.2)
          have HTo:=hide hto
          have HS':=hide hS'
          obtain ⟨d0,d1,d2,d3,hblr⟩:=hcv.cells
          clear hto hcv hS' c0 c1 c2 c3
          go_wp2_with fail
          refine HCall.out.mono ?_
          rintro e w3 ⟨rfl,hT3,S2,hC3,hS2⟩
          have hs3:=hT3.size
          obtain ⟨e0,e1,e2,e3,hbl3⟩:=hC3.cells
          have fz:=hC3.frozen 3
          have hS2b:S2 bk:=hC3.own
          have hbk:S bk:=HC.out.own
          have HT3:Hid (Touch S w w3):=((Touch.refl S w).of_below HB1.out).trans' (HTo.out.trans' hT3 (fun q e=>HS'.out q e)) (fun q e=>.inl e)
          have HT4:Hid (Touch S w (w3.setCell ⟨bk,3,none⟩ (.int .i64 ((tk+1:Nat):Int)))):=HT3.out.setCell (p:=⟨bk,3,none⟩) (.inl hbk) _
          have HC4:Hid (Cnv (w3.setCell ⟨bk,3,none⟩ (.int .i64 ((tk+1:Nat):Int))) bk tt W H (tk+1) (fun i j=>A i j+t*Num.areaV L k i j) (781440000000*((tk+1:Nat):Int)) S2 st):=
            (hC3.took (tk+1)).mono (fun i j _ _=>rfl) (by omega)
          have HS4:Hid (∀q,S2 q→S q∨w.heap.size≤q):=fun q hq=>by
            rcases hS2 q hq with h | h
            · rcases HS'.out q h with h | h
              · exact .inl h
              · exact .inr (by omega)
            · exact .inr (by omega)
          have ec:((tk+1:Nat):Int)=(tk:Int)+1:=by omega
          rw [ec] at HT4 HC4
          clear hT3 hC3 hS2 HCall ec
          go_wp2
          go_ret
          exact ⟨rfl,HT4.out,fun e=>absurd rfl e,fun _=>⟨S2,HC4.out,HS4.out⟩⟩
  · have hle:layE TE tk=TE:=by unfold layE;rw [if_neg hT0]
    rw [hle]
    have hTb:(TE != 0)=true:=by simpa using hT0
    have HT0:=hide hT0
    clear hle hT0
    go_enter Tryz.func168,Tryz.ntmps168
    go_wp2_with fail
    refine (HTr.out _ hO1.out).mono ?_
    rintro e w1 ⟨v,V,rfl,hb1,hS1⟩
    have HB1:Hid (Below w.heap.size w w1):=Below.trans (by (repeat any_goals first | exact .refl _ _ | assumption | refine .drew ?_ | refine below_drewN ?_ _ | refine .setCell ?_ ?_ _ | refine .alloc ?_ ?_ _ | omega | (simp <;> omega))) (hb1.mono (by simp))
    clear hb1 hS1 k0 k1 k2 k3
    go_wp2
    go_ret
    exact ⟨rfl,(Touch.refl S w).of_below HB1.out,fun _=>HC.out.below HB1.out,fun e=>absurd e HT0.out⟩
theorem canvasAdd_any (bk W H tk:Nat) (tt:TypeId) (A:Nat→Nat→Int) (st:Int) (S:Nat→Prop) (ad:Option Addr) (N cc:Nat) (AA:Nat→Option Addr) (C n:Nat→Nat) (X Y K:Nat→Nat→Int) (a b c d x y:Int) (w:World)
    (hC:Cnv w bk tt W H tk A (781440000000*tk) S st) (hW:1≤W∧W≤64) (hH:1≤H∧H≤64) (htk:tk≤100) (hN:N≤4294967296) (hn:∀i,i<N→n i≤4294967296) (ho:OutAt w ad N AA C n X Y K) :
    Calls Tryz.prog 135 #[.pointer (some ⟨bk,0,none⟩),.slice ad N cc,.agg #[.int .i64 a,.int .i64 b,.int .i64 c,.int .i64 d,.int .i64 x,.int .i64 y]] w fun e w'=>e=.returned (.int .i64 (layE (traceE N n X Y K ⟨a,b,c,d,x,y⟩) tk))∧Touch S w w' ∧
      (layE (traceE N n X Y K ⟨a,b,c,d,x,y⟩) tk≠0→Cnv w' bk tt W H tk A (781440000000*tk) S st) ∧
      (layE (traceE N n X Y K ⟨a,b,c,d,x,y⟩) tk=0→∃S',Cnv w' bk tt W H (tk+1) (fun i j=>A i j+1*Num.areaV (traceL n X Y K ⟨a,b,c,d,x,y⟩) N i j) (781440000000*((tk+1:Nat):Int)) S' st∧∀q,S' q→S q∨w.heap.size≤q):=by
  have hB0:Hid (Below w.heap.size w (w.alloc (.cells #[.int .i64 a,.int .i64 b,.int .i64 c,.int .i64 d,.int .i64 x,.int .i64 y] 40))):=(Below.refl _ _).alloc (Nat.le_refl _) _
  have HCall:=hide (lay_any bk W H tk tt A st 1 S ad N cc AA C n X Y K a b c d x y _ (hC.below hB0.out) hW hH htk (.inl rfl) hN hn (ho.below hB0.out))
  clear hC ho hn
  go_enter Tryz.func135,Tryz.ntmps135
  go_wp2_with fail
  refine HCall.out.mono ?_
  rintro e w1 ⟨rfl,hT,h1,h2⟩
  have HT:Hid (Touch S w w1):=((Touch.refl S w).of_below hB0.out).trans' hT (fun q e=>.inl e)
  have H1:=hide h1
  have H2:=hide h2
  clear hT h1 h2 HCall
  go_wp2
  go_ret
  refine ⟨rfl,HT.out,H1.out,fun e=>?_⟩
  obtain ⟨S',g1,g2⟩:=H2.out e
  exact ⟨S',g1,fun q hq=>by rcases g2 q hq with h | h;exact .inl h;exact .inr (by simp at h;omega)⟩
theorem glyphAdd_any (bk W H tk:Nat) (tt:TypeId) (A:Nat→Nat→Int) (st:Int) (S:Nat→Prop) (ad:Option Addr) (N cc:Nat) (AA:Nat→Option Addr) (C n:Nat→Nat) (X Y K:Nat→Nat→Int) (a b c d x y:Int) (w:World)
    (hC:Cnv w bk tt W H tk A (781440000000*tk) S st) (hW:1≤W∧W≤64) (hH:1≤H∧H≤64) (htk:tk≤100) (hN:N≤4294967296) (hn:∀i,i<N→n i≤4294967296) (ho:OutAt w ad N AA C n X Y K) :
    Calls Tryz.prog 105 #[.pointer (some ⟨bk,0,none⟩),.slice ad N cc,.agg #[.int .i64 a,.int .i64 b,.int .i64 c,.int .i64 d,.int .i64 x,.int .i64 y]] w fun e w'=>e=.returned (.int .i64 (layE (traceE N n X Y K ⟨a,b,c,d,x,y⟩) tk))∧Touch S w w' ∧
      (layE (traceE N n X Y K ⟨a,b,c,d,x,y⟩) tk≠0→Cnv w' bk tt W H tk A (781440000000*tk) S st) ∧
      (layE (traceE N n X Y K ⟨a,b,c,d,x,y⟩) tk=0→∃S',Cnv w' bk tt W H (tk+1) (fun i j=>A i j+1*Num.areaV (traceL n X Y K ⟨a,b,c,d,x,y⟩) N i j) (781440000000*((tk+1:Nat):Int)) S' st∧∀q,S' q→S q∨w.heap.size≤q):=by
  have hB0:Hid (Below w.heap.size w (w.alloc (.cells #[.int .i64 a,.int .i64 b,.int .i64 c,.int .i64 d,.int .i64 x,.int .i64 y] 40))):=(Below.refl _ _).alloc (Nat.le_refl _) _
  have HCall:=hide (canvasAdd_any bk W H tk tt A st S ad N cc AA C n X Y K a b c d x y _ (hC.below hB0.out.drew) hW hH htk hN hn (ho.below hB0.out.drew))
  clear hC ho hn
  go_enter Tryz.func105,Tryz.ntmps105
  go_wp2_with fail
  go_region_with (go_at_call 135;refine HCall.out.mono ?_;rintro e w1 ⟨rfl,hT,h1,h2⟩)
  all_goals
    have HT:Hid (Touch S w w1):=((Touch.refl S w).of_below hB0.out.drew).trans' hT (fun q e=>.inl e)
    have H1:=hide h1
    have H2:=hide h2
    clear hT h1 h2
    go_wp2
    go_ret
    refine ⟨rfl,HT.out,H1.out,fun e=>?_⟩
    obtain ⟨S',g1,g2⟩:=H2.out e
    exact ⟨S',g1,fun q hq=>by rcases g2 q hq with h | h;exact .inl h;exact .inr (by simp at h;omega)⟩
theorem areaOf_any (b W H tk i j:Nat) (tt:TypeId) (A:Nat→Nat→Int) (P st:Int) (S:Nat→Prop) (w:World) (hC:Cnv w b tt W H tk A P S st) (hW:1≤W∧W≤64) (hH:1≤H∧H≤64) (hi:i<W) (hj:j<H) (hP:P≤140737488355328) :
    Calls Tryz.prog 171 #[.pointer (some ⟨b,0,none⟩),.int .i64 i,.int .i64 j] w fun e w'=>e=.returned (.int .i64 (A i j))∧Below w.heap.size w w':=by
  obtain ⟨c0,c1,c2,c3,hbl⟩:=hC.cells
  cases hC with
  | tab g T hR hT hbg hA hB hSb hSg hlt=>
    have HCall:=hide (tabArea_any b g W H i j T tt _ w hW hH.2 hj hi hR rfl rfl hT)
    rw [hA i j hi hj] at HCall
    clear hR hT hA hB hlt
    go_enter Tryz.func171,Tryz.ntmps171
    go_wp2_with fail
    refine HCall.out.mono ?_
    rintro e w1 ⟨rfl,rfl⟩
    go_wp2
    go_ret
    exact ⟨rfl,Below.refl _ _⟩
  | rws g V R hR hG hbg hA hM hSb hSg hlt=>
    have HCall:=hide (rowsArea_any b g H j 0 i (16384*P) V (R j) tt _ w hj (by have:=Num.srt_le (hG.srt j hj);omega) hR rfl hG.outer (hG.inner j hj) (by omega) (hM j hj))
    rw [hA i j hi hj] at HCall
    clear hR hG hA hM hlt
    go_enter Tryz.func171,Tryz.ntmps171
    go_wp2_with fail
    refine HCall.out.mono ?_
    rintro e w1 ⟨rfl,hb1⟩
    go_wp2
    go_ret
    exact ⟨rfl,hb1⟩
def areaN (W H:Nat) (A:Nat→Nat→Int) (x y:Int):Int:=if 0≤x∧x<W∧0≤y∧y<H then A x.toNat y.toNat else 0
def areaE (W H:Nat) (x y:Int):Int:=if 0≤x∧x<W∧0≤y∧y<H then 0 else 6
theorem canvasArea_any (b W H tk:Nat) (tt:TypeId) (A:Nat→Nat→Int) (P st x y:Int) (S:Nat→Prop) (w:World) (hC:Cnv w b tt W H tk A P S st) (hW:1≤W∧W≤64) (hH:1≤H∧H≤64) (hP:P≤140737488355328) :
    Calls Tryz.prog 152 #[.pointer (some ⟨b,0,none⟩),.int .i64 x,.int .i64 y] w fun e w'=>e=.returned (.tuple #[.int .i64 (areaN W H A x y),.int .i64 (areaE W H x y)])∧Below w.heap.size w w':=by
  obtain ⟨c0,c1,c2,c3,hbl⟩:=hC.cells
  unfold areaN areaE
  by_cases hin:0≤x∧x<W∧0≤y∧y<H
  · rw [if_pos hin,if_pos hin]
    obtain ⟨i,rfl⟩:∃i:Nat,x=i:=⟨x.toNat,by omega⟩
    obtain ⟨j,rfl⟩:∃j:Nat,y=j:=⟨y.toNat,by omega⟩
    have h1:i<W:=by omega
    have h2:j<H:=by omega
    have HCall:=hide (areaOf_any b W H tk i j tt A P st S w hC hW hH h1 h2 hP)
    have d1:¬(W:Int)≤(i:Int):=by omega
    have d2:¬(H:Int)≤(j:Int):=by omega
    simp only [Int.toNat_natCast]
    clear hC hin
    go_enter Tryz.func152,Tryz.ntmps152
    go_wp2_with (go_at_call 171;refine HCall.out.mono ?_;rintro e w1 ⟨rfl,hb1⟩)
    all_goals
      go_ret2
      exact ⟨rfl,hb1⟩
  · rw [if_neg hin,if_neg hin]
    clear hC
    by_cases e1:x<0
    · go_enter Tryz.func152,Tryz.ntmps152
      go_wp2
      go_ret2
      exact ⟨rfl,Below.refl _ _⟩
    · by_cases e2:(W:Int)≤x
      · go_enter Tryz.func152,Tryz.ntmps152
        go_wp2
        go_ret2
        exact ⟨rfl,Below.refl _ _⟩
      · by_cases e3:y<0
        · go_enter Tryz.func152,Tryz.ntmps152
          go_wp2
          go_ret2
          exact ⟨rfl,Below.refl _ _⟩
        · have e4:(H:Int)≤y:=by omega
          go_enter Tryz.func152,Tryz.ntmps152
          go_wp2
          go_ret2
          exact ⟨rfl,Below.refl _ _⟩
theorem glyphArea_any (b W H tk:Nat) (tt:TypeId) (A:Nat→Nat→Int) (P st x y:Int) (S:Nat→Prop) (w:World) (hC:Cnv w b tt W H tk A P S st) (hW:1≤W∧W≤64) (hH:1≤H∧H≤64) (hP:P≤140737488355328) :
    Calls Tryz.prog 110 #[.pointer (some ⟨b,0,none⟩),.int .i64 x,.int .i64 y] w fun e w'=>e=.returned (.tuple #[.int .i64 (areaN W H A x y),.int .i64 (areaE W H x y)])∧Below w.heap.size w w':=by
  have HCall:=hide (canvasArea_any b W H tk tt A P st x y S w hC hW hH hP)
  clear hC
  go_enter Tryz.func110,Tryz.ntmps110
  go_wp2_with fail
  refine HCall.out.mono ?_
  rintro e w1 ⟨rfl,hb1⟩
  go_wp2
  go_ret2
  exact ⟨rfl,hb1⟩
theorem info_rowc:(Tryz.prog.info? 229).map (fun i=>(i.zero,i.size,i.bytes))=some (some (.slice none 0 0),1,24):=by kernel_rfl
theorem info_int1:(Tryz.prog.info? 3).map (fun i=>(i.zero,i.size,i.bytes))=some (some (.int .i64 0),1,8):=by kernel_rfl
theorem newTable_any (W H:Nat) (w:World) (hW:1≤W∧W≤64) (hH:1≤H∧H≤64) :
    Calls Tryz.prog 178 #[.int .i64 W,.int .i64 H] w fun e w'=>∃g,e=.returned (.agg #[.int .i64 W,.slice (some ⟨g,0,none⟩) (W*H) (W*H)])∧Below w.heap.size w w'∧w.heap.size≤g∧w'.rowIs g 3 (W*H) (fun _=>.int .i64 0):=by
  have hWH:W*H≤4096:=Nat.mul_le_mul hW.2 hH.2
  have hmk:=run_make_row' (P:=Tryz.prog) 152 3 (.int .i64 0) 8 Tryz.underlying152 info_int1 rfl .i64 .i64 (W*H) (by omega) (by omega)
  obtain ⟨n,hn⟩:∃n,n=W*H:=⟨_,rfl⟩
  have hni:(W:Int)*(H:Int)=(n:Int):=by rw [hn];simp
  have w1:IntKind.i64.wrap ((W:Int)*(H:Int))=(n:Int):=by rw [hni];exact wrap_ok _ (by omega) (by omega)
  rw [←hn] at hmk hWH ⊢
  clear hn
  go_enter Tryz.func178,Tryz.ntmps178
  go_wp2
  refine bodyPost_ret (v:=.agg #[.int .i64 W,.slice (some ⟨w.heap.size+1,0,none⟩) n n]) (by simp [results,Tryz.results178,go_sem]) rfl ⟨w.heap.size+1,rfl,by (repeat any_goals first | exact .refl _ _ | assumption | refine .drew ?_ | refine below_drewN ?_ _ | refine .setCell ?_ ?_ _ | refine .alloc ?_ ?_ _ | omega | (simp <;> omega)),by omega,?_⟩
  have h:=World.rowIs_made (w.alloc (.cells #[.int .i64 W,.slice (some ⟨w.heap.size+1,0,none⟩) n n] 192)) (.int .i64 0) n 3
  rw [nblk_alloc] at h
  exact h
theorem newRows_any (H:Nat) (w:World) (hH:1≤H∧H≤64) :
    Calls Tryz.prog 177 #[.int .i64 H] w fun e w'=>∃g,e=.returned (.agg #[.slice (some ⟨g,0,none⟩) H H])∧Below w.heap.size w w'∧w.heap.size≤g∧w'.rowIs g 229 H (fun _=>.slice none 0 0):=by
  have hmk:=run_make_row' (P:=Tryz.prog) 193 229 (.slice none 0 0) 24 Tryz.underlying193 info_rowc rfl .i64 .i64 H (by omega) (by omega)
  go_enter Tryz.func177,Tryz.ntmps177
  go_wp2
  refine bodyPost_ret (v:=.agg #[.slice (some ⟨w.heap.size+1,0,none⟩) H H]) (by simp [results,Tryz.results177,go_sem]) rfl ⟨w.heap.size+1,rfl,by (repeat any_goals first | exact .refl _ _ | assumption | refine .drew ?_ | refine below_drewN ?_ _ | refine .setCell ?_ ?_ _ | refine .alloc ?_ ?_ _ | omega | (simp <;> omega)),by omega,?_⟩
  have h:=World.rowIs_made (w.alloc (.cells #[.slice (some ⟨w.heap.size+1,0,none⟩) H H] 195)) (.slice none 0 0) H 229
  rw [nblk_alloc] at h
  exact h
theorem Rws.empty {w:World} {g H:Nat} (h:w.rowIs g 229 H (fun _=>.slice none 0 0)):Rws w g H (fun _=>.slice none 0 0) (fun _=>[]):=
  ⟨h,fun _ _=>World.ownsRow_nil _ _ _ _,fun _ _ _ _ _ q hq=>by simp [Value.ownBlock] at hq,fun _ _=>trivial⟩
theorem rwS_empty {g H q:Nat} (h:rwS g H (fun _=>.slice none 0 0) q):q=g:=by
  rcases h with h | ⟨j,_,h⟩
  · exact h
  · simp [Value.ownBlock] at h
theorem cv7_tab {w:World} {b:Nat} {tt:TypeId} {W H st tk tw:Int} {ta tr:Value} (h:w.rowIs b tt 7 (cv7 W H st tk tw ta tr)) (tw':Int) (ta':Value):((w.setCell ⟨b,4,none⟩ (.int .i64 tw')).setCell ⟨b,5,none⟩ ta').rowIs b tt 7 (cv7 W H st tk tw' ta' tr):=by
  refine ((h.set 4 _).set 5 _).congr fun q hq=>?_
  rcases (show q=0∨q=1∨q=2∨q=3∨q=4∨q=5∨q=6 by omega) with rfl | rfl | rfl | rfl | rfl | rfl | rfl <;> rfl
theorem cv7_row {w:World} {b:Nat} {tt:TypeId} {W H st tk tw:Int} {ta tr:Value} (h:w.rowIs b tt 7 (cv7 W H st tk tw ta tr)) (tr':Value):(w.setCell ⟨b,6,none⟩ tr').rowIs b tt 7 (cv7 W H st tk tw ta tr'):=by
  refine (h.set 6 _).congr fun q hq=>?_
  rcases (show q=0∨q=1∨q=2∨q=3∨q=4∨q=5∨q=6 by omega) with rfl | rfl | rfl | rfl | rfl | rfl | rfl <;> rfl
set_option maxRecDepth 100000 in
theorem clear_any (b W H tk:Nat) (tt:TypeId) (st tw:Int) (ao1 ao2:Option Addr) (n1 c1 n2 c2:Nat) (w:World) (hR:w.rowIs b tt 7 (cv7 W H st tk tw (.slice ao1 n1 c1) (.slice ao2 n2 c2))) (hW:1≤W∧W≤64) (hH:1≤H∧H≤64)
    (hst:(st=0∧ao2=none∧n2=0∧c2=0)∨(st=1∧tw=0∧ao1=none∧n1=0∧c1=0)) :
    Calls Tryz.prog 150 #[.pointer (some ⟨b,0,none⟩)] w fun e w'=>e=.returned (.tuple #[])∧Touch (fun q=>q=b) w w'∧∃S',Cnv w' b tt W H 0 (fun _ _=>0) 0 S' st∧∀q,S' q→q=b∨w.heap.size≤q:=by
  have k0:=hR.cell (i:=0) (by omega)
  have k1:=hR.cell (i:=1) (by omega)
  have k2:=hR.cell (i:=2) (by omega)
  have k3:=hR.cell (i:=3) (by omega)
  change w.cell? ⟨b,0,none⟩=some (.int .i64 W) at k0
  change w.cell? ⟨b,1,none⟩=some (.int .i64 H) at k1
  change w.cell? ⟨b,2,none⟩=some (.int .i64 st) at k2
  change w.cell? ⟨b,3,none⟩=some (.int .i64 tk) at k3
  have z3:=hR.frozen 3
  have hbl:=hR.lt
  have HR0:Hid ((w.setCell ⟨b,3,none⟩ (.int .i64 0)).rowIs b tt 7 (cv7 W H st 0 tw (.slice ao1 n1 c1) (.slice ao2 n2 c2))):=cv7_taken hR 0
  have HT0:Hid (Touch (fun q=>q=b) w (w.setCell ⟨b,3,none⟩ (.int .i64 0))):=(Touch.refl (fun q=>q=b) w).setCell (p:=⟨b,3,none⟩) (.inl rfl) _
  clear hR
  rcases hst with ⟨rfl,rfl,rfl,rfl⟩ | ⟨rfl,rfl,rfl,rfl,rfl⟩
  · have HCall:=hide (fun w'=>newTable_any W H w' hW hH)
    go_enter Tryz.func150,Tryz.ntmps150
    go_wp2_with fail
    obtain ⟨w0,hw0⟩:∃w0,w0=w.setCell ⟨b,3,none⟩ (.int .i64 0):=⟨_,rfl⟩
    rw [←hw0] at HR0 HT0
    try rw [←hw0]
    have hs0:=HT0.out.size
    have hbl0:=HR0.out.lt
    have d0:=HR0.out.cell (i:=0) (by omega)
    have d1:=HR0.out.cell (i:=1) (by omega)
    change w0.cell? ⟨b,0,none⟩=some (.int .i64 W) at d0
    change w0.cell? ⟨b,1,none⟩=some (.int .i64 H) at d1
    clear k0 k1 k2 k3 z3 hw0
    go_region_held3 (fun w'=>w'.cell? ⟨b,0,none⟩=some (.int .i64 W)∧w'.cell? ⟨b,1,none⟩=some (.int .i64 H)) (first | exact ⟨d0,d1⟩ | exact ⟨x0,x1⟩ | exact y01) ((go_at_call 178;refine (HCall.out _).mono ?_;rintro e w2 ⟨g,rfl,hb2,hge,hrow2⟩;have hb3:Below w0.heap.size w0 w2:=⟨hb2.os,hb2.tape,hb2.output,hb2.size,hb2.block⟩;have hR2:=row_below HR0.out hb3 hbl0;have x0:=hR2.cell (i:=0) (by omega);have x1:=hR2.cell (i:=1) (by omega);have x4:=hR2.cell (i:=4) (by omega);have x5:=hR2.cell (i:=5) (by omega);have f4:=hR2.frozen 4;have f5:=hR2.frozen 5;have hR3:=cv7_tab hR2 (W:Int) (.slice (some ⟨g,0,none⟩) (W*H) (W*H));have y01:=And.intro (hR3.cell (i:=0) (by omega)) (hR3.cell (i:=1) (by omega))))
    have hge':w0.heap.size≤g:=hge
    have hgb:g≠b:=by omega
    have hg2:=hrow2.lt
    have hs3:=hb3.size
    have HC:Hid (Cnv ((w2.setCell ⟨b,4,none⟩ (.int .i64 W)).setCell ⟨b,5,none⟩ (.slice (some ⟨g,0,none⟩) (W*H) (W*H))) b tt W H 0 (fun _ _=>0) 0 (fun q=>q=b∨q=g) 0):=
      .tab g (fun _=>0) hR3 ((hrow2.setOther (a:=⟨b,4,none⟩) hgb _).setOther (a:=⟨b,5,none⟩) hgb _) (fun e=>hgb e.symm) (fun _ _ _ _=>rfl) (fun _ _=>by simp) (.inl rfl) (.inr rfl) (fun q hq=>by
        rw [nblk_setCell,nblk_setCell]
        rcases hq with rfl | rfl
        · omega
        · exact hg2)
    have HT:Hid (Touch (fun q=>q=b) w ((w2.setCell ⟨b,4,none⟩ (.int .i64 W)).setCell ⟨b,5,none⟩ (.slice (some ⟨g,0,none⟩) (W*H) (W*H)))):=((HT0.out.of_below hb3).setCell (p:=⟨b,4,none⟩) (.inl rfl) _).setCell (p:=⟨b,5,none⟩) (.inl rfl) _
    clear hb2 hb3 hrow2 hR2 hR3 x0 x1 x4 x5 y01 f4 f5
    go_wp2
    go_end0
    exact ⟨rfl,HT.out,_,HC.out,fun q hq=>by rcases hq with h | h;exact .inl h;exact .inr (by omega)⟩
  · have HCall:=hide (fun w'=>newRows_any H w' hH)
    go_enter Tryz.func150,Tryz.ntmps150
    go_wp2_with fail
    refine (HCall.out _).mono ?_
    rintro e w2 ⟨g,rfl,hb2,hge,hrow2⟩
    obtain ⟨w0,hw0⟩:∃w0,w0=w.setCell ⟨b,3,none⟩ (.int .i64 0):=⟨_,rfl⟩
    rw [←hw0] at HR0 HT0 hb2 hge
    have hs0:=HT0.out.size
    have hbl0:=HR0.out.lt
    have hR2:=row_below HR0.out hb2 hbl0
    have x6:=hR2.cell (i:=6) (by omega)
    have f6:=hR2.frozen 6
    have hR3:=cv7_row hR2 (.slice (some ⟨g,0,none⟩) H H)
    have hgb:g≠b:=by omega
    have hg2:=hrow2.lt
    have hs3:=hb2.size
    have hrow3:(w2.setCell ⟨b,6,none⟩ (.slice (some ⟨g,0,none⟩) H H)).rowIs g 229 H (fun _=>.slice none 0 0):=hrow2.setOther (a:=⟨b,6,none⟩) hgb _
    have HC:Hid (Cnv (w2.setCell ⟨b,6,none⟩ (.slice (some ⟨g,0,none⟩) H H)) b tt W H 0 (fun _ _=>0) 0 (fun q=>q=b∨q=g) 1):=
      .rws g _ _ hR3 (Rws.empty hrow3) (fun e=>hgb (rwS_empty e).symm) (fun _ _ _ _=>rfl) (fun _ _=>by simp [Num.mass]) (.inl rfl) (fun q hq=>.inr (rwS_empty hq)) (fun q hq=>by
        rw [nblk_setCell]
        rcases hq with rfl | rfl
        · omega
        · exact hg2)
    have HT:Hid (Touch (fun q=>q=b) w (w2.setCell ⟨b,6,none⟩ (.slice (some ⟨g,0,none⟩) H H))):=(HT0.out.of_below hb2).setCell (p:=⟨b,6,none⟩) (.inl rfl) _
    have hblw:b<w2.heap.size:=by omega
    clear hb2 hrow2 hR2 hR3 hrow3 k0 k1 k2 k3 z3 hw0
    go_wp2
    exact bodyPost_ret (results_none rfl _ _ _) rfl ⟨rfl,HT.out,_,HC.out,fun q hq=>by rcases hq with h | h;exact .inl h;exact .inr (by omega)⟩
def sideB (n:Int):Bool:=decide (1≤n) && decide (n≤64)
theorem isSide_any (n:Int) (w:World):Calls Tryz.prog 167 #[.int .i64 n] w fun e w'=>e=.returned (.bool (sideB n))∧w'=w:=by
  by_cases h1:1≤n
  · by_cases h2:n≤64
    · go_enter Tryz.func167,Tryz.ntmps167
      go_wp2
      go_ret
      exact ⟨ret_bool (by simp [sideB];omega),rfl⟩
    · go_enter Tryz.func167,Tryz.ntmps167
      go_wp2
      go_ret
      exact ⟨ret_bool (by simp [sideB];omega),rfl⟩
  · go_enter Tryz.func167,Tryz.ntmps167
    go_wp2
    go_ret
    exact ⟨ret_bool (by simp [sideB];omega),rfl⟩
def CvV (w:World) (W H:Nat) (st tw:Int) (ta tr:Value) (S:Nat→Prop):Prop:=
  (∀q,S q→q<w.heap.size)∧∀(w':World) (b:Nat) (tt:TypeId),(∀q,S q→w'.heap[q]? = w.heap[q]?)→w.heap.size≤w'.heap.size→w'.rowIs b tt 7 (cv7 W H st 0 tw ta tr)→¬S b→Cnv w' b tt W H 0 (fun _ _=>0) 0 (fun q=>S q∨q=b) st
theorem Cnv.val {w:World} {b:Nat} {tt:TypeId} {W H:Nat} {S:Nat→Prop} {st:Int} (h:Cnv w b tt W H 0 (fun _ _=>0) 0 S st) :
    ∃tw ao1 n1 c1 ao2 n2 c2,w.rowIs b tt 7 (cv7 W H st 0 tw (.slice ao1 n1 c1) (.slice ao2 n2 c2))∧CvV w W H st tw (.slice ao1 n1 c1) (.slice ao2 n2 c2) (fun q=>S q∧q≠b):=by
  cases h with
  | tab g T hR hT hbg hA hB hSb hSg hlt=>
    refine ⟨_,_,_,_,_,_,_,hR,fun q hq=>hlt q hq.1,fun w' b' tt' he hs hR' hb'=>?_⟩
    have hg:S g∧g≠b:=⟨hSg,fun e=>hbg e.symm⟩
    exact .tab g T hR' (hT.of_block (he g hg)) (fun e=>hb' (by rw [e];exact hg)) hA hB (.inr rfl) (.inl hg) (fun q hq=>by
      rcases hq with hq | rfl
      · have:=hlt q hq.1;omega
      · exact hR'.lt)
  | rws g V R hR hG hbg hA hM hSb hSg hlt=>
    refine ⟨_,_,_,_,_,_,_,hR,fun q hq=>hlt q hq.1,fun w' b' tt' he hs hR' hb'=>?_⟩
    have hin:∀q,rwS g H V q→S q∧q≠b:=fun q hq=>⟨hSg q hq,fun e=>hbg (by rw [←e];exact hq)⟩
    exact .rws g V R hR' ⟨hG.outer.of_block (he g (hin g (.inl rfl))),fun j hj=>owns_of_block (hG.inner j hj) (fun b hb=>he b (hin b (.inr ⟨j,hj,hb⟩))),hG.inj,hG.srt⟩ (fun e=>hb' (hin b' e)) hA hM (.inr rfl) (fun q hq=>.inl (hin q hq)) (fun q hq=>by
      rcases hq with hq | rfl
      · have:=hlt q hq.1;omega
      · exact hR'.lt)
theorem CvV.below {w w':World} {W H:Nat} {st tw:Int} {ta tr:Value} {S:Nat→Prop} (h:CvV w W H st tw ta tr S) (hb:Below w.heap.size w w'):CvV w' W H st tw ta tr S:=
  ⟨fun q hq=>Nat.lt_of_lt_of_le (h.1 q hq) hb.size,fun w'' b tt he hs hR hS=>h.2 w'' b tt (fun q hq=>(he q hq).trans (hb.block q (h.1 q hq))) (Nat.le_trans hb.size hs) hR hS⟩
theorem CvV.of_blocks {w w':World} {W H:Nat} {st tw:Int} {ta tr:Value} {S:Nat→Prop} (h:CvV w W H st tw ta tr S) (he:∀q,S q→w'.heap[q]? = w.heap[q]?) (hs:w.heap.size≤w'.heap.size):CvV w' W H st tw ta tr S:=
  ⟨fun q hq=>Nat.lt_of_lt_of_le (h.1 q hq) hs,fun w'' b tt h1 h2 hR hS=>h.2 w'' b tt (fun q hq=>(h1 q hq).trans (he q hq)) (Nat.le_trans hs h2) hR hS⟩
theorem cv7_alloc (W H st tk tw:Int) (ta tr:Value) (w:World) (t:TypeId):(w.alloc (.cells #[.int .i64 W,.int .i64 H,.int .i64 st,.int .i64 tk,.int .i64 tw,ta,tr] t)).rowIs w.heap.size t 7 (cv7 W H st tk tw ta tr):=by
  refine World.rowIs_alloc w #[.int .i64 W,.int .i64 H,.int .i64 st,.int .i64 tk,.int .i64 tw,ta,tr] t (cv7 W H st tk tw ta tr) (fun i hi=>?_)
  have hi:i<7:=hi
  rcases (show i=0∨i=1∨i=2∨i=3∨i=4∨i=5∨i=6 by omega) with rfl | rfl | rfl | rfl | rfl | rfl | rfl <;> rfl
theorem cv7_cells {w:World} {b:Nat} {tt:TypeId} {W H st tk tw:Int} {ta tr:Value} (h:w.rowIs b tt 7 (cv7 W H st tk tw ta tr)) :
    w.cell? ⟨b,0,none⟩=some (.int .i64 W)∧w.cell? ⟨b,1,none⟩=some (.int .i64 H)∧w.cell? ⟨b,2,none⟩=some (.int .i64 st)∧w.cell? ⟨b,3,none⟩=some (.int .i64 tk)∧w.cell? ⟨b,4,none⟩=some (.int .i64 tw)∧w.cell? ⟨b,5,none⟩=some ta∧w.cell? ⟨b,6,none⟩=some tr:=
  ⟨h.cell (i:=0) (by omega),h.cell (i:=1) (by omega),h.cell (i:=2) (by omega),h.cell (i:=3) (by omega),h.cell (i:=4) (by omega),h.cell (i:=5) (by omega),h.cell (i:=6) (by omega)⟩
theorem cv7_frozen {w:World} {b:Nat} {tt:TypeId} {f:Nat→Value} (h:w.rowIs b tt 7 f):w.frozen? ⟨b,0,none⟩=false∧w.frozen? ⟨b,1,none⟩=false∧w.frozen? ⟨b,2,none⟩=false∧w.frozen? ⟨b,3,none⟩=false∧w.frozen? ⟨b,4,none⟩=false∧w.frozen? ⟨b,5,none⟩=false∧w.frozen? ⟨b,6,none⟩=false:=
  ⟨h.frozen 0,h.frozen 1,h.frozen 2,h.frozen 3,h.frozen 4,h.frozen 5,h.frozen 6⟩
theorem cv7_set {w:World} {b:Nat} {t:TypeId} {f:Nat→Value} (h:w.rowIs b t 7 f) (W H st tk tw:Int) (ta tr:Value) :
    (((((((w.setCell ⟨b,0,none⟩ (.int .i64 W)).setCell ⟨b,1,none⟩ (.int .i64 H)).setCell ⟨b,2,none⟩ (.int .i64 st)).setCell ⟨b,3,none⟩ (.int .i64 tk)).setCell ⟨b,4,none⟩ (.int .i64 tw)).setCell ⟨b,5,none⟩ ta).setCell ⟨b,6,none⟩ tr).rowIs b t 7 (cv7 W H st tk tw ta tr):=by
  refine (((((((h.set 0 _).set 1 _).set 2 _).set 3 _).set 4 _).set 5 _).set 6 _).congr fun q hq=>?_
  rcases (show q=0∨q=1∨q=2∨q=3∨q=4∨q=5∨q=6 by omega) with rfl | rfl | rfl | rfl | rfl | rfl | rfl <;> rfl
theorem cv7_below {w:World} {b B:Nat} {W H st tk tw:Int} {ta tr:Value} (hB:B≤b):Below B w (((((((w.setCell ⟨b,0,none⟩ (.int .i64 W)).setCell ⟨b,1,none⟩ (.int .i64 H)).setCell ⟨b,2,none⟩ (.int .i64 st)).setCell ⟨b,3,none⟩ (.int .i64 tk)).setCell ⟨b,4,none⟩ (.int .i64 tw)).setCell ⟨b,5,none⟩ ta).setCell ⟨b,6,none⟩ tr):=
  (((((((Below.refl B w).setCell (p:=⟨b,0,none⟩) hB _).setCell (p:=⟨b,1,none⟩) hB _).setCell (p:=⟨b,2,none⟩) hB _).setCell (p:=⟨b,3,none⟩) hB _).setCell (p:=⟨b,4,none⟩) hB _).setCell (p:=⟨b,5,none⟩) hB _).setCell (p:=⟨b,6,none⟩) hB _
theorem cv7_other {w:World} {b q:Nat} {W H st tk tw:Int} {ta tr:Value} (h:q≠b):(((((((w.setCell ⟨b,0,none⟩ (.int .i64 W)).setCell ⟨b,1,none⟩ (.int .i64 H)).setCell ⟨b,2,none⟩ (.int .i64 st)).setCell ⟨b,3,none⟩ (.int .i64 tk)).setCell ⟨b,4,none⟩ (.int .i64 tw)).setCell ⟨b,5,none⟩ ta).setCell ⟨b,6,none⟩ tr).heap[q]? = w.heap[q]?:=by
  rw [set_otherB h,set_otherB h,set_otherB h,set_otherB h,set_otherB h,set_otherB h,set_otherB h]
def newB (a b st:Int):Bool:=sideB a && sideB b && (st == 0 || st == 1)
theorem newB_yes {a b st:Int} (h:newB a b st=true):(1≤a∧a≤64)∧(1≤b∧b≤64)∧(st=0∨st=1):=by
  simp [newB,sideB] at h
  omega
set_option maxRecDepth 100000 in
theorem canvasNew_any (W H:Nat) (st:Int) (w:World) (hW:1≤W∧W≤64) (hH:1≤H∧H≤64) (hst:st=0∨st=1) :
    Calls Tryz.prog 134 #[.int .i64 W,.int .i64 H,.int .i64 st] w fun e w'=>∃tw ao1 n1 c1 ao2 n2 c2 S,e=.returned (.tuple #[.agg #[.int .i64 W,.int .i64 H,.int .i64 st,.int .i64 0,.int .i64 tw,.slice ao1 n1 c1,.slice ao2 n2 c2],.int .i64 0])∧Below w.heap.size w w'∧CvV w' W H st tw (.slice ao1 n1 c1) (.slice ao2 n2 c2) S∧∀q,S q→w.heap.size≤q:=by
  have s1:sideB (W:Int)=true:=by simp [sideB];omega
  have s2:sideB (H:Int)=true:=by simp [sideB];omega
  have s3:((st != 0)=false)∨((st != 0)=true∧(st != 1)=false):=by rcases hst with rfl | rfl <;> simp
  have HR0:Hid (((w.alloc (.cells #[.int .i64 0,.int .i64 0,.int .i64 0,.int .i64 0,.int .i64 0,.slice none 0 0,.slice none 0 0] 197)).alloc (.cells #[.int .i64 (W:Int),.int .i64 (H:Int),.int .i64 st,.int .i64 0,.int .i64 0,.slice none 0 0,.slice none 0 0] 197)).rowIs (w.heap.size+1) 197 7 (cv7 W H st 0 0 (.slice none 0 0) (.slice none 0 0))):=by
    have h:=cv7_alloc W H st 0 0 (.slice none 0 0) (.slice none 0 0) (w.alloc (.cells #[.int .i64 0,.int .i64 0,.int .i64 0,.int .i64 0,.int .i64 0,.slice none 0 0,.slice none 0 0] 197)) 197
    rw [nblk_alloc] at h
    exact h
  have HZ0:=hide ((cv7_alloc 0 0 0 0 0 (.slice none 0 0) (.slice none 0 0) w 197).alloc (.cells #[.int .i64 (W:Int),.int .i64 (H:Int),.int .i64 st,.int .i64 0,.int .i64 0,.slice none 0 0,.slice none 0 0] 197))
  have HCall:=hide (clear_any (w.heap.size+1) W H 0 197 st 0 none none 0 0 0 0 _ HR0.out hW hH (by rcases hst with rfl | rfl;exact .inl ⟨rfl,rfl,rfl,rfl⟩;exact .inr ⟨rfl,rfl,rfl,rfl,rfl⟩))
  have HB0:Hid (Below w.heap.size w ((w.alloc (.cells #[.int .i64 0,.int .i64 0,.int .i64 0,.int .i64 0,.int .i64 0,.slice none 0 0,.slice none 0 0] 197)).alloc (.cells #[.int .i64 (W:Int),.int .i64 (H:Int),.int .i64 st,.int .i64 0,.int .i64 0,.slice none 0 0,.slice none 0 0] 197))):=((Below.refl _ _).alloc (Nat.le_refl _) _).alloc (by simp) _
  rcases s3 with s3 | ⟨s3,s4⟩
  all_goals
    go_enter Tryz.func134,Tryz.ntmps134
    go_wp2_with (go_at_call 167;refine (isSide_any _ _).mono ?_;rintro e w' ⟨rfl,rfl⟩)
    refine HCall.out.mono ?_
    rintro e w2 ⟨rfl,hT2,S,hC2,hS2⟩
    have hs2:=hT2.size
    rw [nblk_alloc,nblk_alloc] at hs2
    obtain ⟨tw,ao1,n1,c1,ao2,n2,c2,hR2,hV2⟩:=hC2.val
    have hZ2:=hT2.row HZ0.out (by omega)
    obtain ⟨e0,e1,e2,e3,e4,e5,e6⟩:=cv7_cells hR2
    obtain ⟨z0,z1,z2,z3',z4,z5,z6⟩:=cv7_cells hZ2
    obtain ⟨f0,f1,f2,f3,f4,f5,f6⟩:=cv7_frozen hZ2
    obtain ⟨rb,hrb⟩:∃rb,rb=w.heap.size:=⟨_,rfl⟩
    have HB2:Hid (Below w.heap.size w w2):=(HB0.out).trans (hT2.below (by simp;omega) (fun q e=>by omega))
    have HR3:=hide (cv7_set hZ2 W H st 0 tw (.slice ao1 n1 c1) (.slice ao2 n2 c2))
    have HB3:=hide (HB2.out.trans (cv7_below (w:=w2) (W:=W) (H:=H) (st:=st) (tk:=0) (tw:=tw) (ta:=.slice ao1 n1 c1) (tr:=.slice ao2 n2 c2) (Nat.le_refl w.heap.size)))
    have HV2:=hide hV2
    have HSn:Hid (∀q,S q∧q≠w.heap.size+1→w.heap.size+2≤q):=fun q hq=>by
      rcases hS2 q hq.1 with h | h
      · exact absurd h hq.2
      · simp at h;omega
    have hw2:w.heap.size+1<w2.heap.size:=by omega
    have hw3:w.heap.size<w2.heap.size:=by omega
    clear hT2 hC2 hS2 hR2 hZ2 hV2 HCall
    go_wp2
    obtain ⟨wF,hwF⟩:∃wF,wF=((((((w2.setCell ⟨w.heap.size,0,none⟩ (.int .i64 W)).setCell ⟨w.heap.size,1,none⟩ (.int .i64 H)).setCell ⟨w.heap.size,2,none⟩ (.int .i64 st)).setCell ⟨w.heap.size,3,none⟩ (.int .i64 0)).setCell ⟨w.heap.size,4,none⟩ (.int .i64 tw)).setCell ⟨w.heap.size,5,none⟩ (.slice ao1 n1 c1)).setCell ⟨w.heap.size,6,none⟩ (.slice ao2 n2 c2):=⟨_,rfl⟩
    rw [←hwF]
    have hVF:CvV wF W H st tw (.slice ao1 n1 c1) (.slice ao2 n2 c2) (fun q=>S q∧q≠w.heap.size+1):=HV2.out.of_blocks (fun q hq=>by rw [hwF];exact cv7_other (by have:=HSn.out q hq;omega)) (by rw [hwF];simp)
    rw [←hwF] at HR3 HB3
    obtain ⟨g0,g1,g2,g3,g4,g5,g6⟩:=cv7_cells HR3.out
    exact bodyPost_ret (v:=.tuple #[.agg #[.int .i64 W,.int .i64 H,.int .i64 st,.int .i64 0,.int .i64 tw,.slice ao1 n1 c1,.slice ao2 n2 c2],.int .i64 0]) (by simp [results,Tryz.results134,go_sem,g0,g1,g2,g3,g4,g5,g6]) rfl ⟨tw,ao1,n1,c1,ao2,n2,c2,_,rfl,HB3.out,hVF,fun q hq=>by have:=HSn.out q hq;omega⟩
set_option maxRecDepth 100000 in
theorem glyphNew_any (W H:Nat) (st:Int) (w:World) (hW:1≤W∧W≤64) (hH:1≤H∧H≤64) (hst:st=0∨st=1) :
    Calls Tryz.prog 104 #[.int .i64 W,.int .i64 H,.int .i64 st] w fun e w'=>∃b S,e=.returned (.tuple #[.pointer (some ⟨b,0,none⟩),.int .i64 0])∧Below w.heap.size w w'∧Cnv w' b 206 W H 0 (fun _ _=>0) 0 S st∧∀q,S q→w.heap.size≤q:=by
  have HCall:=hide (canvasNew_any W H st w hW hH hst)
  clear hst
  go_enter Tryz.func104,Tryz.ntmps104
  go_wp2_with fail
  refine HCall.out.mono ?_
  rintro e w1 ⟨tw,ao1,n1,c1,ao2,n2,c2,S,rfl,hb1,hV,hS⟩
  have hs1:=hb1.size
  have HV:=hide hV
  have HB:=hide hb1
  have HS:=hide hS
  clear hV hS hb1 HCall
  go_wp2
  go_ret2
  have hrow:=cv7_alloc W H st 0 tw (.slice ao1 n1 c1) (.slice ao2 n2 c2) (w1.alloc (.cells #[.int .i64 (W:Int),.int .i64 (H:Int),.int .i64 st,.int .i64 0,.int .i64 tw,.slice ao1 n1 c1,.slice ao2 n2 c2] 197)) 206
  rw [nblk_alloc] at hrow
  have hlt:=HV.out.1
  refine ⟨w1.heap.size+1,fun q=>S q∨q=w1.heap.size+1,rfl,by have:=HB.out;(repeat any_goals first | exact .refl _ _ | assumption | refine .drew ?_ | refine below_drewN ?_ _ | refine .setCell ?_ ?_ _ | refine .alloc ?_ ?_ _ | omega | (simp <;> omega)),HV.out.2 _ _ _ (fun q hq=>?_) (by simp;omega) hrow (fun e=>?_),fun q hq=>?_⟩
  · have:=hlt q hq
    rw [blk_alloc_lt _ _ _ (by simp;omega),blk_alloc_lt _ _ _ this]
  · have:=hlt _ e;omega
  · rcases hq with hq | hq
    · exact HS.out q hq
    · omega
def byteV (a:Int):Int:=Num.hu (255*Num.lsV (Num.sz a) 8192) 8192
theorem byteV_bd (a:Int):0≤byteV a∧byteV a≤255:=by
  have h1:=Num.sz_nn a
  have h2:=Num.ls_le (Num.sz a) 8192
  have h3:=Num.ls_or (Num.sz a) 8192
  unfold byteV
  exact ⟨Num.hu_ge_of (by omega) (by omega),Num.hu_le_of (by omega) (by omega)⟩
theorem sizeG_any (n:Int) (w:World) (h1:-9000000000000000000≤n) (h2:n≤9000000000000000000) :
    Calls Tryz.prog 184 #[.int .i64 n] w fun e w'=>e=.returned (.int .i64 (Num.sz n))∧w'=w:=by
  by_cases a:n<0
  · go_enter Tryz.func184,Tryz.ntmps184
    go_wp2
    go_ret
    exact ⟨ret_int (by unfold Num.sz;rw [if_pos (by omega)]),rfl⟩
  · go_enter Tryz.func184,Tryz.ntmps184
    go_wp2
    go_ret
    exact ⟨ret_int (by unfold Num.sz;rw [if_neg (by omega)]),rfl⟩
theorem byteOf_any (a:Int) (w:World) (h1:-9000000000000000000≤a) (h2:a≤9000000000000000000) :
    Calls Tryz.prog 170 #[.int .i64 a] w fun e w'=>e=.returned (.int .u8 (byteV a))∧w'=w:=by
  have z1:=Num.sz_nn a
  have z2:=Num.ls_le (Num.sz a) 8192
  have z3:=Num.ls_or (Num.sz a) 8192
  have z4:0≤Num.hu (255*Num.lsV (Num.sz a) 8192) 8192∧Num.hu (255*Num.lsV (Num.sz a) 8192) 8192≤255:=byteV_bd a
  go_enter Tryz.func170,Tryz.ntmps170
  go_wp2_with (first | (go_at_call 184;refine (sizeG_any _ _ (by omega) (by omega)).mono ?_;rintro e w' ⟨rfl,rfl⟩) | (go_at_call 176;refine (lesser_any _ _ _).mono ?_;rintro e w' ⟨rfl,rfl⟩) | (go_at_call 158;refine (halfUp_any _ _ _ (by omega) (by omega) (by omega) (by omega)).mono ?_;rintro e w' ⟨rfl,rfl⟩))
  go_ret
  exact ⟨rfl,rfl⟩
def partB (x n s:Int):Bool:=decide (1≤n) && decide (n≤s) && decide (0≤x) && decide (x≤s-n)
theorem isPart_any (x n s:Int) (w:World) (hs:0≤s∧s≤64):Calls Tryz.prog 169 #[.int .i64 x,.int .i64 n,.int .i64 s] w fun e w'=>e=.returned (.bool (partB x n s))∧w'=w:=by
  by_cases h1:1≤n
  · by_cases h2:n≤s
    · by_cases h3:0≤x
      · by_cases h4:x≤s-n
        · go_enter Tryz.func169,Tryz.ntmps169
          go_wp2
          go_ret
          exact ⟨ret_bool (by simp [partB];omega),rfl⟩
        · go_enter Tryz.func169,Tryz.ntmps169
          go_wp2
          go_ret
          exact ⟨ret_bool (by simp [partB];omega),rfl⟩
      · go_enter Tryz.func169,Tryz.ntmps169
        go_wp2
        go_ret
        exact ⟨ret_bool (by simp [partB];omega),rfl⟩
    · go_enter Tryz.func169,Tryz.ntmps169
      go_wp2
      go_ret
      exact ⟨ret_bool (by simp [partB];omega),rfl⟩
  · go_enter Tryz.func169,Tryz.ntmps169
    go_wp2
    go_ret
    exact ⟨ret_bool (by simp [partB];omega),rfl⟩
theorem info_u8:(Tryz.prog.info? 5).map (fun i=>(i.zero,i.size,i.bytes))=some (some (.int .u8 0),1,1):=by kernel_rfl
def pixL (A:Nat→Nat→Int) (x y a k:Nat):List Int:=(List.range k).map fun q=>byteV (A (x+q % a) (y+q / a))
def u8C (l:List Int):List Value:=l.map (Value.int .u8)
theorem pixL_succ (A:Nat→Nat→Int) (x y a k:Nat):pixL A x y a (k+1)=pixL A x y a k++[byteV (A (x+k % a) (y+k / a))]:=by
  unfold pixL;rw [List.range_succ,List.map_append];rfl
theorem u8C_snoc (l:List Int) (z:Int):u8C (l++[z])=u8C l++[.int .u8 z]:=by simp [u8C]
theorem pixL_len (A:Nat→Nat→Int) (x y a k:Nat):(pixL A x y a k).length=k:=by simp [pixL]
def gr3 (a b:Int) (v:Value) (q:Nat):Value:=[Value.int .i64 a,.int .i64 b,v][q]?.getD undef
theorem gr3_row (a b:Int) (v:Value) (w:World) (t:TypeId):(w.alloc (.cells #[.int .i64 a,.int .i64 b,v] t)).rowIs w.heap.size t 3 (gr3 a b v):=by
  refine World.rowIs_alloc w #[.int .i64 a,.int .i64 b,v] t (gr3 a b v) (fun i hi=>?_)
  have hi:i<3:=hi
  rcases (show i=0∨i=1∨i=2 by omega) with rfl | rfl | rfl <;> rfl
theorem gr3_cells {w:World} {p:Nat} {t:TypeId} {a b:Int} {v:Value} (h:w.rowIs p t 3 (gr3 a b v)):w.cell? ⟨p,0,none⟩=some (.int .i64 a)∧w.cell? ⟨p,1,none⟩=some (.int .i64 b)∧w.cell? ⟨p,2,none⟩=some v:=
  ⟨h.cell (i:=0) (by omega),h.cell (i:=1) (by omega),h.cell (i:=2) (by omega)⟩
theorem gr3_set {w:World} {p:Nat} {t:TypeId} {f:Nat→Value} (h:w.rowIs p t 3 f) (a b:Int) (v:Value):(((w.setCell ⟨p,0,none⟩ (.int .i64 a)).setCell ⟨p,1,none⟩ (.int .i64 b)).setCell ⟨p,2,none⟩ v).rowIs p t 3 (gr3 a b v):=by
  refine (((h.set 0 _).set 1 _).set 2 _).congr fun q hq=>?_
  rcases (show q=0∨q=1∨q=2 by omega) with rfl | rfl | rfl <;> rfl
set_option maxRecDepth 100000 in
theorem canvasGray_any (bk W H tk x y a b:Nat) (tt:TypeId) (A:Nat→Nat→Int) (P st:Int) (S:Nat→Prop) (w:World) (hC:Cnv w bk tt W H tk A P S st) (hW:1≤W∧W≤64) (hH:1≤H∧H≤64) (hP:P≤140737488355328)
    (ha:1≤a∧x+a≤W) (hb:1≤b∧y+b≤H) (hA:∀i j,i<W→j<H → -9000000000000000000≤A i j∧A i j≤9000000000000000000) :
    Calls Tryz.prog 136 #[.pointer (some ⟨bk,0,none⟩),.int .i64 x,.int .i64 y,.int .i64 a,.int .i64 b] w fun e w'=>∃v,e=.returned (.tuple #[.agg #[.int .i64 a,.int .i64 b,v],.int .i64 0])∧Below w.heap.size w w'∧w'.ownsRow w.heap.size 5 1 v (a*b) (u8C (pixL A x y a (a*b))):=by
  obtain ⟨i0,hi0,hz0,hz1,hz2⟩:=info_parts info_u8
  have HC:=hide hC
  have p1:partB (x:Int) (a:Int) (W:Int)=true:=by simp [partB];omega
  have p2:partB (y:Int) (b:Int) (H:Int)=true:=by simp [partB];omega
  obtain ⟨k0,k1,k2,k3,hbl⟩:=hC.cells
  have HA:=hide hA
  have HZ:=hide (gr3_row 0 0 (.slice none 0 0) w 47)
  clear hC hA
  go_enter Tryz.func136,Tryz.ntmps136
  go_wp2_with (go_at_call 169;refine (isPart_any _ _ _ _ (by omega)).mono ?_;rintro e w' ⟨rfl,rfl⟩)
  obtain ⟨sb,hsb⟩:∃sb,sb=w.heap.size:=⟨_,rfl⟩
  obtain ⟨W1,hW1⟩:∃W1,W1=w.alloc (.cells #[.int .i64 0,.int .i64 0,.slice none 0 0] 47):=⟨_,rfl⟩
  have hs1:W1.heap.size=sb+1:=by rw [hW1,hsb];simp
  have HB1:Hid (Below w.heap.size w W1):=by unfold Hid;rw [hW1];exact (Below.refl _ _).alloc (Nat.le_refl _) _
  rw [←hW1,←hsb] at HZ
  rw [←hW1]
  try rw [←hsb]
  have HC1:=hide (HC.out.below HB1.out)
  have HSb:Hid (sb=w.heap.size):=hsb
  clear hW1 hsb HC k0 k1 k2 k3
  go_loopw [12,13] (fun v t wr=>∃j:Nat,j≤b∧t=.int .i64 j∧Below (sb+1) W1 wr∧wr.ownsRow (sb+1) 5 1 v (j*a) (u8C (pixL A x y a (j*a)))) (fun _ t _=>b-(intOf t).toNat)
  case atStart=>exact ⟨0,by omega,rfl,Below.refl _ _,by simp [pixL,u8C];exact World.ownsRow_nil _ _ _ _⟩
  case round=>
    obtain ⟨wo,rfl⟩:∃wo,wo=wr:=⟨_,rfl⟩
    obtain ⟨vo,rfl⟩:∃vo,vo=u12:=⟨_,rfl⟩
    obtain ⟨j,hj,rfl,hbo,howno⟩:=hrel
    by_cases hlt:j<b
    · have hd1:decide ((j:Int)<(b:Int))=true:=by simp;omega
      have hmj:j*a+a≤a*b:=by rw [Nat.mul_comm a b];exact Num.mul_lt_row hlt
      have hab:a*b≤64*64:=Nat.mul_le_mul (show a≤64 by omega) (show b≤64 by omega)
      obtain ⟨ja,hja⟩:∃ja,ja=j*a:=⟨_,rfl⟩
      rw [←hja] at howno hmj
      have HJA:=hide hja
      have HOo:=hide howno
      have HBo:=hide hbo
      clear howno hbo hja
      go_wp2_with fail
      go_loopw [12,14] (fun v t wr=>∃i:Nat,i≤a∧t=.int .i64 i∧Below (sb+1) W1 wr∧wr.ownsRow (sb+1) 5 1 v (ja+i) (u8C (pixL A x y a (ja+i)))) (fun _ t _=>a-(intOf t).toNat)
      case atStart=>exact ⟨0,by omega,rfl,HBo.out,HOo.out⟩
      case round=>
        obtain ⟨v,rfl⟩:∃v,v=u12:=⟨_,rfl⟩
        obtain ⟨i,hi,rfl,hb1,hown⟩:=hrel
        have hsz:=hb1.size
        by_cases hli:i<a
        · have hdi:decide ((i:Int)<(a:Int))=true:=by simp;omega
          have HCall:=hide (areaOf_any bk W H tk (x+i) (y+j) tt A P st S wr (HC1.out.below (hb1.mono (by omega))) hW hH (by omega) (by omega) hP)
          rw [show ((x+i:Nat):Int)=(x:Int)+(i:Int) by omega,show ((y+j:Nat):Int)=(y:Int)+(j:Int) by omega] at HCall
          obtain ⟨b1,b2⟩:=HA.out (x+i) (y+j) (by omega) (by omega)
          have HSu:=hide (pixL_succ A x y a (ja+i))
          have hmod:(ja+i) % a=i:=by rw [HJA.out,Nat.mul_comm j a,Nat.mul_add_mod,Nat.mod_eq_of_lt hli]
          have hdiv:(ja+i) / a=j:=by rw [HJA.out,Nat.mul_comm j a,Nat.mul_add_div (by omega),Nat.div_eq_of_lt hli,Nat.add_zero]
          rw [hmod,hdiv] at HSu
          obtain ⟨z,hz⟩:∃z,z=A (x+i) (y+j):=⟨_,rfl⟩
          rw [←hz] at HCall b1 b2 HSu
          obtain ⟨L,hL⟩:∃L,L=u8C (pixL A x y a (ja+i)):=⟨_,rfl⟩
          rw [←hL] at hown
          have HLs:Hid (u8C (pixL A x y a (ja+i+1))=L++[.int .u8 (byteV z)]):=by unfold Hid;rw [HSu.out,u8C_snoc,hL]
          have HOw:=hide hown
          have HBw:=hide hb1
          clear hmod hdiv hz hL hown hb1
          go_wp2_with fail
          refine HCall.out.mono ?_
          rintro e w2 ⟨rfl,hb2⟩
          have hs2:=hb2.size
          have hB2:Below (sb+1) W1 w2:=HBw.out.trans (hb2.mono (by omega))
          have hown2:=owns_of_block HOw.out (fun q hq=>hb2.block q (HOw.out.lt q hq).2)
          clear hb2 HOw HBw HCall
          go_wp2_with fail
          refine (byteOf_any _ _ b1 b2).mono ?_
          rintro e w3 ⟨rfl,hw3⟩
          rw [hw3]
          clear hw3
          go_wp2_with (at_builtin;refine wpList_append_lies _ rfl _ _ 45 rfl (sb+1) 5 i0 (.int .u8 0) 1 1 Tryz.underlying45 hi0 hz0 hz1 hz2 rfl (by omega) v (ja+i) L rfl (hown2.alloc _) ⟨w2.heap.size,0,none⟩ 1 1 [.int .u8 (byteV z)] rfl rfl ?a1 ?a2 (by omega) ?a3 ?a4 ?a5 (w2.heap.size+1) (by simp) ?_)
          try (case a1=>exact news_new w2 [.int .u8 (byteV z)] _ _ rfl)
          case a2=>first | rfl | (intro u hu;simp at hu;subst hu;rfl)
          case a3=>unfold maxLen;omega
          case a4=>omega
          case a5=>first | omega | (simp;omega)
          intro g cap w4 hown4 hgrow hat hlt4
          have hb4:Below (sb+1) W1 w4:=(hB2.alloc (by omega) _).grown hgrow (by simp;omega) (fun q hq=>(hown2.lt q hq).1)
          have HO4:Hid (w4.ownsRow (sb+1) 5 1 (.slice (some ⟨g,0,none⟩) (ja+i+1) cap) (ja+(i+1)) (u8C (pixL A x y a (ja+(i+1))))):=by
            unfold Hid
            rw [←Nat.add_assoc,HLs.out]
            exact hown4
          clear hown4 hgrow hat hown2 hB2
          go_wp2
          go_roundw
          case rel=>exact ⟨i+1,by omega,by go_num,hb4,HO4.out⟩
          case measure=>simp [intOf];omega
        · have e:i=a:=by omega
          have hdi:decide ((i:Int)<(a:Int))=false:=by simp;omega
          have HO:Hid (wr.ownsRow (sb+1) 5 1 v ((j+1)*a) (u8C (pixL A x y a ((j+1)*a)))):=by
            unfold Hid
            rw [e,HJA.out,←Nat.succ_mul] at hown
            exact hown
          have HB:=hide hb1
          clear hown hb1
          go_wp2
          go_roundw
          case rel=>exact ⟨j+1,by omega,by go_num,HB.out,HO.out⟩
          case measure=>simp [intOf];omega
    · have e:j=b:=by omega
      have hd0:decide ((j:Int)<(b:Int))=false:=by simp;omega
      have HO:Hid (wo.ownsRow w.heap.size 5 1 vo (a*b) (u8C (pixL A x y a (a*b)))):=by
        unfold Hid
        rw [e,Nat.mul_comm b a] at howno
        exact owns_mono howno (by rw [←HSb.out];omega)
      have hZ2:=row_below HZ.out hbo (by omega)
      obtain ⟨z0,z1,z2⟩:=gr3_cells hZ2
      have f0:=hZ2.frozen 0
      have f1:=hZ2.frozen 1
      have f2:=hZ2.frozen 2
      have hsl:=hZ2.lt
      obtain ⟨ao,cap0,hv,_⟩:=owns_formN HO.out
      have HR:=hide (gr3_set hZ2 a b vo)
      have hB:Below w.heap.size w wo:=HB1.out.trans (hbo.mono (by rw [←HSb.out];omega))
      have HB:Hid (Below w.heap.size w (((wo.setCell ⟨sb,0,none⟩ (.int .i64 a)).setCell ⟨sb,1,none⟩ (.int .i64 b)).setCell ⟨sb,2,none⟩ vo)):=((hB.setCell (p:=⟨sb,0,none⟩) (by rw [←HSb.out];exact Nat.le_refl _) _).setCell (p:=⟨sb,1,none⟩) (by rw [←HSb.out];exact Nat.le_refl _) _).setCell (p:=⟨sb,2,none⟩) (by rw [←HSb.out];exact Nat.le_refl _) _
      have HOF:Hid ((((wo.setCell ⟨sb,0,none⟩ (.int .i64 a)).setCell ⟨sb,1,none⟩ (.int .i64 b)).setCell ⟨sb,2,none⟩ vo).ownsRow w.heap.size 5 1 vo (a*b) (u8C (pixL A x y a (a*b)))):=by
        refine owns_of_block HO.out (fun q hq=>?_)
        have hq1:=(howno.lt q hq).1
        have hne:q≠sb:=by omega
        rw [set_otherB hne,set_otherB hne,set_otherB hne]
      subst hv
      clear howno hbo hZ2 hB HO
      go_wp2
      obtain ⟨wF,hwF⟩:∃wF,wF=((wo.setCell ⟨sb,0,none⟩ (.int .i64 a)).setCell ⟨sb,1,none⟩ (.int .i64 b)).setCell ⟨sb,2,none⟩ (.slice ao (a*b) cap0):=⟨_,rfl⟩
      rw [←hwF]
      rw [←hwF] at HR HB HOF
      obtain ⟨g0,g1,g2⟩:=gr3_cells HR.out
      exact bodyPost_ret (v:=.tuple #[.agg #[.int .i64 a,.int .i64 b,.slice ao (a*b) cap0],.int .i64 0]) (by simp [results,Tryz.results136,go_sem,g0,g1,g2]) rfl ⟨_,rfl,HB.out,HOF.out⟩
set_option maxRecDepth 100000 in
theorem glyphGray_any (bk W H tk x y a b:Nat) (tt:TypeId) (A:Nat→Nat→Int) (P st:Int) (S:Nat→Prop) (w:World) (hC:Cnv w bk tt W H tk A P S st) (hW:1≤W∧W≤64) (hH:1≤H∧H≤64) (hP:P≤140737488355328)
    (ha:1≤a∧x+a≤W) (hb:1≤b∧y+b≤H) (hA:∀i j,i<W→j<H → -9000000000000000000≤A i j∧A i j≤9000000000000000000) :
    Calls Tryz.prog 112 #[.pointer (some ⟨bk,0,none⟩),.int .i64 x,.int .i64 y,.int .i64 a,.int .i64 b] w fun e w'=>∃v,e=.returned (.tuple #[.agg #[.int .i64 a,.int .i64 b,v],.int .i64 0])∧Below w.heap.size w w'∧w'.ownsRow w.heap.size 5 1 v (a*b) (u8C (pixL A x y a (a*b))):=by
  have hB0:Hid (Below w.heap.size w (w.alloc (.cells #[.int .i64 0,.int .i64 0,.slice none 0 0] 47))):=(Below.refl _ _).alloc (Nat.le_refl _) _
  have HCall:=hide (canvasGray_any bk W H tk x y a b tt A P st S _ (hC.below hB0.out) hW hH hP ha hb hA)
  have HZ:=hide (gr3_row 0 0 (.slice none 0 0) w 47)
  have hbl:=hC.cells.2.2.2.2
  clear hC hA
  go_enter Tryz.func112,Tryz.ntmps112
  go_wp2_with fail
  refine HCall.out.mono ?_
  rintro e w1 ⟨v,rfl,hb1,hown⟩
  have hs1:=hb1.size
  rw [nblk_alloc] at hs1
  have hZ2:=row_below HZ.out hb1 (by simp)
  obtain ⟨z0,z1,z2⟩:=gr3_cells hZ2
  have f0:=hZ2.frozen 0
  have f1:=hZ2.frozen 1
  have f2:=hZ2.frozen 2
  have hsl:w.heap.size<w1.heap.size:=by omega
  obtain ⟨ao,cap0,hv,_⟩:=owns_formN hown
  have HR:=hide (gr3_set hZ2 a b v)
  have hB:Below w.heap.size w w1:=hB0.out.trans (hb1.mono (by simp))
  have HB:Hid (Below w.heap.size w (((w1.setCell ⟨w.heap.size,0,none⟩ (.int .i64 a)).setCell ⟨w.heap.size,1,none⟩ (.int .i64 b)).setCell ⟨w.heap.size,2,none⟩ v)):=((hB.setCell (p:=⟨w.heap.size,0,none⟩) (Nat.le_refl _) _).setCell (p:=⟨w.heap.size,1,none⟩) (Nat.le_refl _) _).setCell (p:=⟨w.heap.size,2,none⟩) (Nat.le_refl _) _
  have HOF:Hid ((((w1.setCell ⟨w.heap.size,0,none⟩ (.int .i64 a)).setCell ⟨w.heap.size,1,none⟩ (.int .i64 b)).setCell ⟨w.heap.size,2,none⟩ v).ownsRow w.heap.size 5 1 v (a*b) (u8C (pixL A x y a (a*b)))):=by
    refine owns_mono (owns_of_block hown (fun q hq=>?_)) (by simp)
    have hq1:=(hown.lt q hq).1
    have hne:q≠w.heap.size:=by simp at hq1;omega
    rw [set_otherB hne,set_otherB hne,set_otherB hne]
  subst hv
  clear hown hb1 hZ2 hB HCall
  go_wp2
  obtain ⟨wF,hwF⟩:∃wF,wF=((w1.setCell ⟨w.heap.size,0,none⟩ (.int .i64 a)).setCell ⟨w.heap.size,1,none⟩ (.int .i64 b)).setCell ⟨w.heap.size,2,none⟩ (.slice ao (a*b) cap0):=⟨_,rfl⟩
  rw [←hwF]
  rw [←hwF] at HR HB HOF
  obtain ⟨g0,g1,g2⟩:=gr3_cells HR.out
  exact bodyPost_ret (v:=.tuple #[.agg #[.int .i64 a,.int .i64 b,.slice ao (a*b) cap0],.int .i64 0]) (by simp [results,Tryz.results112,go_sem,g0,g1,g2]) rfl ⟨_,rfl,HB.out,HOF.out⟩
theorem apartG_any (n:Int) (w:World) (h1:-9000000000000000000≤n) (h2:n≤9000000000000000000) :
    Calls Tryz.prog 163 #[.int .i64 n] w fun e w'=>e=.returned (.int .i64 (Num.sz n))∧w'=w:=by
  by_cases a:n<0
  · go_enter Tryz.func163,Tryz.ntmps163
    go_wp2
    go_ret
    exact ⟨ret_int (by unfold Num.sz;rw [if_pos (by omega)]),rfl⟩
  · go_enter Tryz.func163,Tryz.ntmps163
    go_wp2
    go_ret
    exact ⟨ret_int (by unfold Num.sz;rw [if_neg (by omega)]),rfl⟩
theorem refShade_any (a:Int) (w:World) (h1:-9000000000000000000≤a) (h2:a≤9000000000000000000) :
    Calls Tryz.prog 137 #[.int .i64 a] w fun e w'=>e=.returned (.int .u8 (byteV a))∧w'=w:=by
  have z1:=Num.sz_nn a
  have z2:=Num.ls_le (Num.sz a) 8192
  have z3:=Num.ls_or (Num.sz a) 8192
  have z4:0≤Num.hu (255*Num.lsV (Num.sz a) 8192) 8192∧Num.hu (255*Num.lsV (Num.sz a) 8192) 8192≤255:=byteV_bd a
  go_enter Tryz.func137,Tryz.ntmps137
  go_wp2_with (first | (go_at_call 163;refine (apartG_any _ _ (by omega) (by omega)).mono ?_;rintro e w' ⟨rfl,rfl⟩) | (go_at_call 148;refine (rleast_any _ _ _).mono ?_;rintro e w' ⟨rfl,rfl⟩) | (go_at_call 75;refine (half_any _ _ _ (by omega) (by omega) (by omega) (by omega)).mono ?_;rintro e w' ⟨rfl,rfl⟩))
  go_ret
  exact ⟨rfl,rfl⟩
def rc4 (W H:Int) (vR vS:Value) (q:Nat):Value:=[.int .i64 W,.int .i64 H,vR,vS][q]?.getD undef
structure Rcv (w:World) (rb W H k:Nat) (VR:Nat→Value) (VV:Nat→Nat→Value) (NN:Nat→Nat) (LL:Nat→Nat→List (Int×Int)) (sg:Nat→Int) (vR vS:Value):Prop where
  row:w.rowIs rb 173 4 (rc4 W H vR vS)
  oR:w.ownsRow 0 95 1 vR k ((List.range k).map VR)
  rings:∀q,q<k→SpRings w 0 (VR q) (NN q) (VV q) (LL q)
  oS:w.ownsRow 0 3 1 vS k (intC ((List.range k).map sg))
  fits:∀q,q<k→NN q≤16∧∀r,r<NN q→(LL q r).length≤44400∧∀p∈LL q r,Num.inB p.1 p.2=true
  sgn:∀q,q<k→sg q=1∨sg q = -1
  most:k≤100
theorem Rcv.below {w w':World} {rb W H k:Nat} {VR:Nat→Value} {VV:Nat→Nat→Value} {NN:Nat→Nat} {LL:Nat→Nat→List (Int×Int)} {sg:Nat→Int} {vR vS:Value} (h:Rcv w rb W H k VR VV NN LL sg vR vS) (hb:Below w.heap.size w w'):Rcv w' rb W H k VR VV NN LL sg vR vS:=
  ⟨row_below h.row hb h.row.lt,owns_of_block h.oR (fun b hb2=>hb.block b (h.oR.lt b hb2).2),fun q hq=>(h.rings q hq).below hb,owns_of_block h.oS (fun b hb2=>hb.block b (h.oS.lt b hb2).2),h.fits,h.sgn,h.most⟩
def histA (NN:Nat→Nat) (LL:Nat→Nat→List (Int×Int)) (sg:Nat→Int) (k:Nat) (i j:Int):Int:=Num.sumZ (fun q=>sg q*Num.areaV (LL q) (NN q) i j) k
theorem histA_bd {NN:Nat→Nat} {LL:Nat→Nat→List (Int×Int)} {sg:Nat→Int} {m:Nat} (i j:Int) (hf:∀q,q<m→NN q≤16∧∀r,r<NN q→(LL q r).length≤44400∧∀p∈LL q r,Num.inB p.1 p.2=true) (hs:∀q,q<m→sg q=1∨sg q = -1):∀k,k≤m → -(5819596800*(k:Int))≤histA NN LL sg k i j∧histA NN LL sg k i j≤5819596800*(k:Int):=by
  intro k hk
  refine Num.sumZ_bd (B:=5819596800) k (fun q hq=>?_)
  obtain ⟨h1,h2⟩:=hf q (by omega)
  have h3:=Num.areaV_bd (L:=LL q) (N:=NN q) (M:=44400) i j (fun r hr=>(h2 r hr).1)
  rcases hs q (by omega) with e | e <;> rw [e] <;> omega
set_option maxRecDepth 100000 in
theorem refCArea_any (rb W H k:Nat) (VR:Nat→Value) (VV:Nat→Nat→Value) (NN:Nat→Nat) (LL:Nat→Nat→List (Int×Int)) (sg:Nat→Int) (vR vS:Value) (x y:Int) (w:World) (hR:Rcv w rb W H k VR VV NN LL sg vR vS) (hW:1≤W∧W≤64) (hH:1≤H∧H≤64) :
    Calls Tryz.prog 111 #[.pointer (some ⟨rb,0,none⟩),.int .i64 x,.int .i64 y] w fun e w'=>e=.returned (.tuple #[.int .i64 (areaN W H (fun i j=>histA NN LL sg k i j) x y),.int .i64 (areaE W H x y)])∧Below w.heap.size w w':=by
  have c0:=hR.row.cell (i:=0) (by omega)
  have c1:=hR.row.cell (i:=1) (by omega)
  change w.cell? ⟨rb,0,none⟩=some (.int .i64 W) at c0
  change w.cell? ⟨rb,1,none⟩=some (.int .i64 H) at c1
  have hbl:=hR.row.lt
  unfold areaN areaE
  by_cases hin:0≤x∧x<W∧0≤y∧y<H
  · rw [if_pos hin,if_pos hin]
    have hx:((x.toNat:Nat):Int)=x:=by omega
    have hy:((y.toNat:Nat):Int)=y:=by omega
    simp only [hx,hy]
    obtain ⟨ao,cR,rfl,haoR⟩:=owns_formN hR.oR
    obtain ⟨so,cS,rfl,haoS⟩:=owns_formN hR.oS
    have HR:=hide hR
    have HAr:=hide haoR
    have HAs:=hide haoS
    have d1:¬(W:Int)≤x:=by omega
    have d2:¬(H:Int)≤y:=by omega
    have hk:=hR.most
    clear hR haoR haoS hx hy
    go_enter Tryz.func111,Tryz.ntmps111
    go_wp2_with fail
    go_loopw [8,9] (fun t8 t9 wr=>∃q:Nat,q≤k∧t9=.int .i64 q∧t8=.int .i64 (histA NN LL sg q x y)∧Below w.heap.size w wr) (fun _ t _=>k-(intOf t).toNat)
    case atStart=>exact ⟨0,by omega,rfl,rfl,Below.refl _ _⟩
    case round=>
      obtain ⟨q,hq,rfl,rfl,hb⟩:=hrel
      have hsz:=hb.size
      have hRw:=HR.out.below hb
      have e2:=hRw.row.cell (i:=2) (by omega)
      have e3:=hRw.row.cell (i:=3) (by omega)
      change wr.cell? ⟨rb,2,none⟩=some (.slice ao k cR) at e2
      change wr.cell? ⟨rb,3,none⟩=some (.slice so k cS) at e3
      by_cases hlt:q<k
      · obtain ⟨g,rfl⟩:=HAr.out (by omega)
        obtain ⟨gs,rfl⟩:=HAs.out (by omega)
        have cr:=hRw.oR.cellAt q (by omega)
        rw [List.getElem?_map,List.getElem?_range hlt] at cr
        simp only [Option.map_some] at cr
        have cs:=hRw.oS.cellAt q (by omega)
        rw [intC_at _ q (by simpa using hlt)] at cs
        simp only [List.getElem_map,List.getElem_range] at cs
        obtain ⟨f1,f2⟩:=hRw.fits q hlt
        have HC:=hide (refArea_any 0 (NN q) (VR q) (VV q) (LL q) x y wr (hRw.rings q hlt) f1 f2 (by omega) (by omega))
        obtain ⟨an,cn,hvn,_⟩:=owns_formN (hRw.rings q hlt).outer
        rw [hvn] at cr HC
        have bd:=histA_bd x y hRw.fits hRw.sgn q (by omega)
        have bd2:=histA_bd x y hRw.fits hRw.sgn (q+1) (by omega)
        have HSt:Hid (histA NN LL sg (q+1) x y=histA NN LL sg q x y+sg q*Num.areaV (LL q) (NN q) x y):=rfl
        have hb3:=Num.areaV_bd (L:=LL q) (N:=NN q) (M:=44400) x y (fun r hr=>(f2 r hr).1)
        have hs1:=hRw.sgn q hlt
        have hgl:g<wr.heap.size:=(hRw.oR.lt g rfl).2
        have hgs:gs<wr.heap.size:=(hRw.oS.lt gs rfl).2
        have hrl:rb<wr.heap.size:=hRw.row.lt
        obtain ⟨z,hz⟩:∃z,z=Num.areaV (LL q) (NN q) x y:=⟨_,rfl⟩
        have hzb:-5819596800≤z∧z≤5819596800:=by rw [hz];omega
        obtain ⟨s,hs⟩:∃s,s=sg q:=⟨_,rfl⟩
        obtain ⟨A0,hA0⟩:∃A0,A0=histA NN LL sg q x y:=⟨_,rfl⟩
        rw [←hz] at HC HSt
        rw [←hs] at HSt hs1 cs
        rw [←hA0] at HSt bd ⊢
        have hp:-5819596800≤s*z∧s*z≤5819596800:=by rcases hs1 with e | e <;> rw [e] <;> omega
        have hd1:decide ((q:Int)<(k:Int))=true:=by simp;omega
        have i0':(0:Int)≤(q:Int):=by omega
        have i1':(q:Int)<(k:Int):=by omega
        have HB:=hide hb
        clear hRw hb hvn hb3 f1 f2 hz hs hA0 bd2
        go_wp2_with fail
        refine HC.out.mono ?_
        rintro e w3 ⟨rfl,hb3⟩
        have hs3:=hb3.size
        have e3':=(hb3.cell (p:=⟨rb,3,none⟩) hrl).trans e3
        have cs':=(hb3.cell (p:=⟨gs,q*1,none⟩) hgs).trans (by simpa using cs)
        simp only [Nat.mul_one] at cs'
        have HB3:=hide (HB.out.trans (hb3.mono hsz))
        clear hb3 HC
        go_wp2
        go_roundw
        case rel=>exact ⟨q+1,by omega,by go_num,by rw [HSt.out],HB3.out⟩
        case measure=>simp [intOf];omega
      · have e:q=k:=by omega
        have hd0:decide ((q:Int)<(k:Int))=false:=by simp;omega
        clear hRw
        go_wp2
        go_ret2
        subst e
        exact ⟨rfl,hb⟩
  · rw [if_neg hin,if_neg hin]
    clear hR
    by_cases e1:x<0
    · go_enter Tryz.func111,Tryz.ntmps111
      go_wp2
      go_ret2
      exact ⟨rfl,Below.refl _ _⟩
    · by_cases e2:(W:Int)≤x
      · go_enter Tryz.func111,Tryz.ntmps111
        go_wp2
        go_ret2
        exact ⟨rfl,Below.refl _ _⟩
      · by_cases e3:y<0
        · go_enter Tryz.func111,Tryz.ntmps111
          go_wp2
          go_ret2
          exact ⟨rfl,Below.refl _ _⟩
        · have e4:(H:Int)≤y:=by omega
          go_enter Tryz.func111,Tryz.ntmps111
          go_wp2
          go_ret2
          exact ⟨rfl,Below.refl _ _⟩
end Go.Proofs.YtkhcjkmifddlbabGreatDoor
namespace Go.Proofs.YtkhcjkmifddlbabGreatDoor
open Go.RowKit
theorem shape_ge {n:Nat→Nat} {K:Nat→Nat→Int} {k:Nat}:(Num.shapeAt n K k=false→Num.shapeI (K k) (n k)<0)∧(Num.shapeAt n K k=true→0≤Num.shapeI (K k) (n k)):=by
  rcases Num.shapeI_ge (K k) (n k) with h | h
  · exact ⟨fun _=>by omega,fun e=>by simp [Num.shapeAt,h] at e⟩
  · refine ⟨fun e=>?_,fun _=>h⟩
    have:Num.shapeI (K k) (n k) = -1:=by simpa [Num.shapeAt] using e
    omega
theorem refCheck_any (a:Option Addr) (N c:Nat) (A:Nat→Option Addr) (C n:Nat→Nat) (X Y K:Nat→Nat→Int) (w:World) (hN:N≤4294967296) (hn:∀i,i<N→n i≤4294967296) (hS:Num.sumN n N≤1099511627776) (ho:OutAt w a N A C n X Y K) :
    Calls Tryz.prog 24 #[.slice a N c] w fun e w'=>
      e=.returned (.tuple #[.int .i64 (Num.chkV N n X Y K).1,.int .i64 (Num.chkV N n X Y K).2.1,.int .i64 (Num.chkV N n X Y K).2.2])∧Below w.heap.size w w':=by
  have HN:=hide hn
  have HO:=hide ho
  clear hn ho
  go_enter Tryz.func24,Tryz.ntmps24
  go_wp2_with fail
  go_loop [5,6] (fun s i=>∃k:Nat,k≤N∧i=.int .i64 k∧s=.int .i64 (Num.sumN n k)) (fun _ i=>N-(intOf i).toNat)
  case atStart=>exact ⟨0,by omega,rfl,by simp [Num.sumN]⟩
  case round=>
    obtain ⟨k,hk,rfl,rfl⟩:=hrel
    have hmono:=Num.sumN_mono n hk
    by_cases hlt:k<N
    · rcases HO.out.1 with h | ⟨b,off,rfl,hc⟩
      · omega
      have ci:=hc k hlt
      have hnk:=HN.out k hlt
      have HS:=hide (show Num.sumN n (k+1)=Num.sumN n k+n k from rfl)
      clear hc
      go_wp2
      go_round
      case rel=>exact ⟨k+1,by omega,by go_num,by rw [HS.out];go_num⟩
      case measure=>simp [intOf];omega
    have e:k=N:=by omega
    subst e
    clear hlt hk hmono
    cases hm:Num.manyB k n
    · have h16:k≤16:=by simp [Num.manyB] at hm;omega
      have h200:Num.sumN n k≤200:=by simp [Num.manyB] at hm;omega
      go_wp2_with fail
      go_loopw [7] (fun i wr=>∃j:Nat,j≤k∧i=.int .i64 j∧Below w.heap.size w wr∧∀q,q<j→Num.shapeAt n K q=false) (fun i _=>k-(intOf i).toNat)
      case atStart=>exact ⟨0,by omega,rfl,Below.refl _ _,by omega⟩
      case round=>
        obtain ⟨j,hj,rfl,hb,hno⟩:=hrel
        have hsz:=hb.size
        have HNo:=hide hno
        clear hno
        have HO2:=hide (HO.out.below hb)
        by_cases hlt:j<k
        · rcases HO2.out.1 with h | ⟨b,off,rfl,hc⟩
          · omega
          have ci:=hc j hlt
          clear hc
          go_wp2_with fail
          refine (refShape_any _ _ _ _ _ _ _ (HN.out j hlt) (HO2.out.2 j hlt)).mono ?_
          rintro e w1 ⟨rfl,hb1⟩
          have hb2:Below w.heap.size w w1:=hb.trans (hb1.mono hsz)
          clear hb1
          cases hs:Num.shapeAt n K j
          · have hs':=shape_ge.1 hs
            have HS:=hide hs
            clear hs
            go_wp2
            go_roundw
            case rel=>
              refine ⟨j+1,by omega,by go_num,hb2,fun q hq=>?_⟩
              by_cases ej:q=j
              · subst ej;exact HS.out
              · exact HNo.out q (by omega)
            case measure=>simp [intOf];omega
          · have hs':=shape_ge.2 hs
            have HV:=hide (Num.chk_shape k n X Y K hm j hlt hs HNo.out)
            clear hs
            go_wp2
            go_ret3
            rw [HV.out]
            exact ⟨rfl,hb2⟩
        have e:j=k:=by omega
        subst e
        clear hlt hj
        go_wp2_with fail
        go_loopw [9] (fun i wr'=>∃q:Nat,q≤j∧i=.int .i64 q∧Below w.heap.size w wr'∧∀t,t<q→Num.farAt n X Y t=false) (fun i _=>j-(intOf i).toNat)
        case atStart=>exact ⟨0,by omega,rfl,hb,by omega⟩
        case round=>
          obtain ⟨q,hq,rfl,hb',hno'⟩:=hrel
          have hsz':=hb'.size
          have HNo':=hide hno'
          clear hno'
          by_cases hlt':q<j
          · have hnq:=HN.out q hlt'
            go_wp2_with fail
            go_loopw [10] (fun i wq=>∃t:Nat,t≤n q∧i=.int .i64 t∧Below w.heap.size w wq∧∀u,u<t→Num.farB (X q) (Y q) u=false) (fun i _=>n q-(intOf i).toNat)
            case atStart=>exact ⟨0,by omega,rfl,hb',by omega⟩
            case round=>
              obtain ⟨t,ht,rfl,hbq,hnoq⟩:=hrel
              have hszq:=hbq.size
              have HNoq:=hide hnoq
              clear hnoq
              have HO3:=hide (HO.out.below hbq)
              rcases HO3.out.1 with h | ⟨b,off,rfl,hc⟩
              · omega
              have ci:=hc q hlt'
              clear hc
              by_cases hlq:t<n q
              · rcases HO3.out.2 q hlt' with h | ⟨b2,off2,ha,hc2⟩
                · omega
                rw [ha] at ci
                obtain ⟨d0,d1,d2⟩:=hc2 t hlq
                clear hc2 ha
                go_wp2_with fail
                refine (refFar_any _ _ _ _).mono ?_
                rintro e w1 ⟨rfl,hb1⟩
                have hb2:Below w.heap.size w w1:=hbq.trans (hb1.mono hszq)
                clear hb1
                have hfb:(!(Num.wi (X q t) 4096 && Num.wi (Y q t) 4096))=Num.farB (X q) (Y q) t:=rfl
                rw [hfb]
                clear hfb
                cases hs:Num.farB (X q) (Y q) t
                · have HS:=hide hs
                  clear hs
                  go_wp2
                  go_roundw
                  case rel=>
                    refine ⟨t+1,by omega,by go_num,hb2,fun u hu=>?_⟩
                    by_cases ej:u=t
                    · subst ej;exact HS.out
                    · exact HNoq.out u (by omega)
                  case measure=>simp [intOf];omega
                · have hI:Num.farI (X q) (Y q) (n q)=t:=Num.firstI_hit _ _ _ hlq hs HNoq.out
                  have hfa:Num.farAt n X Y q=true:=by simp [Num.farAt,hI]
                  have HV:=hide (Num.chk_far j n X Y K hm HNo.out q hlt' hfa HNo'.out)
                  have HI:=hide hI
                  clear hs hI hfa
                  go_wp2
                  go_ret3
                  rw [HV.out,HI.out]
                  exact ⟨rfl,hb2⟩
              · have e:t=n q:=by omega
                have hfa:Num.farAt n X Y q=false:=by
                  have:Num.farI (X q) (Y q) (n q) = -1:=Num.firstI_none _ _ (by rw [←e];exact HNoq.out)
                  simp [Num.farAt,this]
                have HF:=hide hfa
                have htn:¬(t:Int)<(n q:Int):=by omega
                clear hfa e
                go_wp2
                go_roundw
                case rel=>
                  refine ⟨q+1,by omega,by go_num,hbq,fun u hu=>?_⟩
                  by_cases ej:u=q
                  · subst ej;exact HF.out
                  · exact HNo'.out u (by omega)
                case measure=>simp [intOf];omega
          · have e:q=j:=by omega
            subst e
            go_wp2
            go_ret3
            rw [Num.chk_ok q n X Y K hm HNo.out HNo'.out]
            exact ⟨rfl,hb'⟩
    · have HV:=hide (Num.chk_many k n X Y K hm)
      have hor:16<k∨(k≤16∧200<Num.sumN n k):=by simp [Num.manyB] at hm;omega
      rcases hor with h | ⟨h,h'⟩
      all_goals
        go_wp2
        go_ret3
        rw [HV.out]
        exact ⟨rfl,Below.refl _ _⟩
end Go.Proofs.YtkhcjkmifddlbabGreatDoor
