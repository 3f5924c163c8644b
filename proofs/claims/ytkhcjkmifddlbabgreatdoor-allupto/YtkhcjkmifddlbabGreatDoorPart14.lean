import Derived.Test.YtkhcjkmifddlbabGreatDoorPart13
import Derived.Test.YtkhcjkmifddlbabGreatDoorPart2
import Derived.Test.YtkhcjkmifddlbabGreatDoorPart11
import Derived.Test.YtkhcjkmifddlbabGreatDoorPart12
import Derived.Deep.MidRow
set_option maxHeartbeats 8000000
namespace Go.Proofs.YtkhcjkmifddlbabGreatDoor
open Go.RowKit Go.Deep
set_option maxRecDepth 100000 in
theorem heldRings_any (h m base:Nat) (x:Value) (V:Nat→Value) (L:Nat→List (Int×Int)) (s:HS) (w:World) (hm:m≤65536) (H:HeldInv w h s) (hx:SpRings w base x m V L) (hu:s.UnderR base) (hn:s.n+m+1≤1099511627776) :
    Calls Tryz.prog 41 #[.pointer (some ⟨h,2,none⟩),x] w fun e w'=>e=.returned (.tuple #[])∧Touch (ringS h m s x V) w w'∧∃s',HeldInv w' h s'∧s'.n=s.n+m+1∧s'.cs=s.cs∧s'.rs=s.rs∧∀q,Used h s' q→Used h s q∨ringS h m s x V q∨w.heap.size≤q:=by
  have l0:0≤s.n:=by have:=H.lo;omega
  have HX:=hide hx
  have HU:=hide hu
  have hst:RingSt w w h base 0 m s s x V L:=⟨H,by simp,rfl,rfl,rfl,rfl,fun e he=>.inl he,.inl rfl,fun _ u=>.inl u,Touch.refl _ _,hx.outer,fun i _ hi=>hx.inner i hi⟩
  have HSt:=hide hst
  have hform:∃(ao:Option Nat) (cap:Nat),x=.slice (ao.map fun b=>⟨b,0,none⟩) m cap∧m≤cap∧(cap:Int)≤9223372036854775807∧x.ownBlock=ao∧(ao=none→cap=0):=by
    rcases hx.outer.2 with ⟨rfl,h0⟩ | ⟨g,cap,cur,rfl,_,hg,hle,hcap,hsz,_⟩
    · exact ⟨none,0,by rw [h0];rfl,by omega,by omega,rfl,fun _=>rfl⟩
    · exact ⟨some g,cap,rfl,hle,by unfold maxLen at hcap;omega,rfl,(fun e=>by cases e)⟩
  obtain ⟨ao,cap,rfl,hle,hcap,hob,hnil⟩:=hform
  have HNil:=hide hnil
  have HOB:=hide hob
  obtain ⟨ad,had⟩:∃ad,ad=ao.map (fun b=>(⟨b,0,none⟩:Addr)):=⟨_,rfl⟩
  rw [←had] at HX HSt ⊢
  have HAD:=hide had
  have hcapn:ad=none→cap=0:=fun e=>by
    rw [had] at e
    cases ao with
    | none=>exact hnil rfl
    | some b=>simp at e
  clear H hx hu hst hnil hob had
  go_enter Tryz.func41,Tryz.ntmps41
  go_wp2_with fail
  go_loopw [4] (fun t wr=>∃(k:Nat) (s':HS),k≤m∧t=.int .i64 k∧RingSt w wr h base k m s s' (.slice ad m cap) V L) (fun t _=>m-(intOf t).toNat)
  case atStart=>exact ⟨0,s,by omega,rfl,HSt.out⟩
  case round=>
    obtain ⟨k,s1,hk,rfl,hR⟩:=hrel
    by_cases hlt:k<m
    · have hd1:decide ((k:Int)<(m:Int))=true:=by simp;omega
      have hexb:∃b,ad=some ⟨b,0,none⟩:=by
        rw [HAD.out]
        cases hao:ao with
        | none=>have:=HNil.out hao;omega
        | some b=>exact ⟨b,rfl⟩
      obtain ⟨b,rfl⟩:=hexb
      have ci:=hR.outer.cellAt k (by omega)
      rw [List.getElem?_map,List.getElem?_range hlt] at ci
      simp only [Option.map_some] at ci
      have hs1n:s1.n+1≤1099511627776:=by rw [hR.n];omega
      have HC:=hide (heldSpots_any h _ base (V k) _ s1 wr hR.inv (hR.inner k (Nat.le_refl _) hlt) (hR.free HX.out HU.out hlt) hs1n)
      have HRs:=hide hR
      have g0:(0:Int)≤(k:Int):=by omega
      have g1:(k:Int)<(m:Int):=by omega
      clear hR
      go_wp2_with fail
      refine HC.out.mono ?_
      rintro e w2 ⟨rfl,hT2,s2,hI2,hK2⟩
      have HR2:=hide (HRs.out.step HX.out hlt hT2 hI2 hK2)
      clear hT2 hI2 hK2 ci
      go_wp2
      go_roundw
      case rel=>exact ⟨k+1,s2,by omega,by go_num,HR2.out⟩
      case measure=>simp [intOf];omega
    · have e:k=m:=by omega
      subst e
      have hd0:decide ((k:Int)<(k:Int))=false:=by simp
      have HRs:=hide hR
      have hs1n:s1.n+1≤1099511627776:=by rw [hR.n];omega
      have hs1l:0≤s1.n:=by rw [hR.n];omega
      have hrow0:∀b,ao=some b→∃f,wr.rowIs b 88 cap f:=fun b hb=>by
        rcases hR.outer.2 with ⟨e1,_⟩ | ⟨g,cap',cur,e1,_,hg,hle',hcap',hsz',_⟩
        · rw [HAD.out,hb] at e1;simp at e1
        · rw [HAD.out,hb] at e1
          simp at e1
          obtain ⟨rfl,rfl⟩:=e1
          exact ⟨fun q=>cur[q]?.getD undef,cur,hg,by rw [hsz',Nat.mul_one],fun i hi=>by simp [show i<cur.size by omega]⟩
      have HRow:=hide hrow0
      clear hR hrow0
      go_wp2_with fail
      refine (mark_any h _ _ HRs.out.inv hs1n).mono ?_
      rintro e w1 ⟨rfl,hw1⟩
      have hT1:Touch (fun b=>b=h) wr w1:=by rw [hw1];exact Touch.setCell (S:=fun b=>b=h) (Touch.refl _ _) (.inl (by rfl)) _
      have hI1:HeldInv w1 h { s1 with n:=s1.n+1 }:=by rw [hw1];exact HRs.out.inv.marked hs1n
      have hR1:∀b,ao=some b→∃f,w1.rowIs b 88 cap f:=fun b hb=>by
        obtain ⟨f,hf⟩:=HRow.out b hb
        exact ⟨f,hT1.row hf (row_ne hf HRs.out.inv.wd (by decide))⟩
      have HT1:=hide hT1
      have HI1:=hide hI1
      have HR1:=hide hR1
      clear hw1 hT1 hI1 hR1
      obtain ⟨mk,hmk⟩:∃mk,mk=s1.n+1:=⟨_,rfl⟩
      rw [←hmk]
      have m0:0≤mk:=by omega
      have m1:mk≤1099511627776:=by omega
      have HM:=hide hmk
      clear hmk
      go_wp2_with fail
      go_loopw [7] (fun t wq=>∃(i:Nat) (F:Nat→Nat),i≤cap∧t=.int .i64 i∧Touch (fun b=>ao=some b) w1 wq∧(∀b,ao=some b→∃f0:Nat→Value,wq.rowIs b 88 cap (fun j=>if j<i then .slice (some ⟨F j,0,none⟩) 1 1 else f0 j))∧∀j,j<i→w1.heap.size≤F j∧wq.rowIs (F j) 42 2 (mkT mk)) (fun t _=>cap-(intOf t).toNat)
      case atStart=>
        refine ⟨0,fun _=>0,by omega,rfl,Touch.refl _ _,fun b hb=>?_,by omega⟩
        obtain ⟨f,hf⟩:=HR1.out b hb
        exact ⟨f,hf.congr (fun j _=>by simp)⟩
      case round=>
        obtain ⟨wq,rfl⟩:∃wq,wq=wr:=⟨_,rfl⟩
        obtain ⟨i,F,hi,rfl,hq,hrows,hF⟩:=hrel
        by_cases hlti:i<cap
        · have hdi:decide ((i:Int)<(cap:Int))=true:=by simp;omega
          have hex:∃b,ao=some b:=by
            cases hao:ao with
            | none=>
              exfalso
              have:=HNil.out hao
              omega
            | some b=>exact ⟨b,rfl⟩
          obtain ⟨b,hao⟩:=hex
          obtain ⟨f0,hr⟩:=hrows b hao
          have had:ad=some ⟨b,0,none⟩:=by rw [HAD.out,hao];rfl
          subst had
          have hbl:=hr.lt
          have c0:=hr.cell (i:=i) hlti
          have z0:=hr.frozen i
          have g0:(0:Int)≤(i:Int):=by omega
          have g1:(i:Int)<(cap:Int):=by omega
          have hq':Touch (fun q=>q=b) w1 wq:=⟨hq.os,hq.tape,hq.output,hq.size,fun q h1 h2=>hq.block q h1 (fun e=>h2 (by rw [hao] at e;exact (Option.some.inj e).symm))⟩
          have HS:=hide (ring_step (o:=.cells #[.int .i64 (2199023255552+mk),.int .i64 (-7)] 42) hq' hr hF)
          have HAo:=hide hao
          clear hr hq hq' hF hrows hao
          go_wp2_with fail
          refine (markSpot_any _ _ m0 m1).mono ?_
          rintro e w2 ⟨rfl,rfl⟩
          go_wp2
          go_roundw
          case rel=>
            obtain ⟨t1,F',r1,f1⟩:=HS.out
            refine ⟨i+1,F',by omega,by go_num,⟨t1.os,t1.tape,t1.output,t1.size,fun q h1 h2=>t1.block q h1 (fun e=>h2 (by rw [e];exact HAo.out))⟩,fun b' hb'=>?_,f1⟩
            have e:b'=b:=(Option.some.inj (HAo.out.symm.trans hb')).symm
            subst e
            exact ⟨f0,r1⟩
          case measure=>simp [intOf];omega
        · have e:i=cap:=by omega
          subst e
          have hdi:decide ((i:Int)<(i:Int))=false:=by simp
          have hfull:∀b,ao=some b→wq.rowIs b 88 i (fun j=>.slice (some ⟨F j,0,none⟩) 1 1):=fun b hb=>by
            obtain ⟨f0,hr⟩:=hrows b hb
            exact hr.congr (fun j hj=>by simp [hj])
          have hIw:HeldInv wq h { s1 with n:=s1.n+1 }:=HI1.out.of_blocks fun b u=>hq.block b (HI1.out.used_lt u) (fun e=>by
            obtain ⟨f,hr⟩:=HR1.out b e
            obtain ⟨y,hy,hyb⟩:=HI1.out.used_ring u (row_ty hr)
            have hy':y∈s.R:=by rw [←HRs.out.R];exact hy
            have h1:=(HU.out.2 y hy').1 b hyb
            have h2:=(HX.out.outer.lt b (by rw [HAD.out,←HOB.out] at *;rw [HOB.out,e])).1
            omega)
          have HFull:=hide hfull
          have HIw:=hide hIw
          have HQ:=hide hq
          have HF:=hide hF
          clear hfull hIw hq hrows hF
          have c5:wq.cell? ⟨h,2+5,none⟩=some s1.vR:=by rw [HIw.out.wd.cell (by omega)];rfl
          have z5:=HIw.out.wd.frozen 7
          have hhl:=HIw.out.wd.lt
          obtain ⟨i0,hi0,hz0,hz1,hz2⟩:=info_parts info_hr
          obtain ⟨ys,hys⟩:∃ys,ys=s1.R.flatMap reC:=⟨_,rfl⟩
          have hoS:wq.ownsRow h 136 2 s1.vR s1.R.length ys:=by
            rw [hys];exact HIw.out.oR
          have HX2:=hide hys
          clear hys
          have hplen:(s1.R.length:Int)≤1099511627776:=by
            have hlo:=HIw.out.lo
            simp at hlo;omega
          go_wp2_with (at_builtin;refine wpList_append_lies _ rfl _ _ 32 rfl h 136 i0 (.agg #[.slice none 0 0,.int .i64 0]) 2 32 Tryz.underlying32 hi0 hz0 hz1 hz2 rfl (by omega) s1.vR s1.R.length ys rfl (hoS.alloc _) ⟨wq.heap.size,0,none⟩ 1 1 [.slice ad i i,.int .i64 mk] rfl rfl ?d1 ?d2 (by omega) ?d3 ?d4 ?d5 (wq.heap.size+1) (by simp) ?_)
          try (case d1=>exact news_sp wq [.slice ad i i,.int .i64 mk] _ _ rfl)
          case d2=>first | exact ⟨rfl,rfl⟩ | (intro u hu;simp at hu;rcases hu with rfl | rfl <;> rfl)
          case d3=>unfold maxLen;omega
          case d4=>omega
          case d5=>first | omega | (simp;omega)
          intro g1 cap1 w2 hown2 hgrow hat hlt2
          rw [HM.out,HX2.out,HAD.out] at hown2
          have hty:some h≠s1.vR.ownBlock:=fun e=>by
            have:=owns_ty hoS e.symm
            rw [row_ty HIw.out.wd] at this
            simp at this
          have hI2:HeldInv (w2.setCell ⟨h,7,none⟩ (.slice (some ⟨g1,0,none⟩) (s1.R.length+1) cap1)) h { ({ s1 with n:=s1.n+1 }:HS) with vR:=.slice (some ⟨g1,0,none⟩) (s1.R.length+1) cap1,R:=s1.R++[(ao,i,F,s1.n+1)] }:=
            HeldInv.pushR (b:=ao) (m:=i) (g:=g1) (cap:=cap1) (F:=F) HIw.out HFull.out (fun j hj=>by show wq.rowIs (F j) _ 2 (mkT (s1.n+1));rw [←HM.out];exact (HF.out j hj).2) HNil.out hcap (by have:=HRs.out.inv.lo;simp at this ⊢;omega) hown2 hgrow hat
          have hT2:Touch (ringS h k s (.slice ad k i) V) w (w2.setCell ⟨h,7,none⟩ (.slice (some ⟨g1,0,none⟩) (s1.R.length+1) cap1)):=by
            have t1:=HRs.out.touch.trans' HT1.out (fun q hq=>.inl (.inl hq))
            have t2:=t1.trans' HQ.out (fun q hq=>.inl (.inr (.inr (.inr (.inl (by rw [HAD.out,HOB.out];exact hq))))))
            have t3:=(t2.alloc _).grown hgrow (fun b hb=>.inl (.inr (.inr (.inl (by rw [←HRs.out.vR];exact hb)))))
            exact t3.setCell (.inl (.inl (by rfl))) _
          have hsw:w.heap.size≤w1.heap.size:=Nat.le_trans HRs.out.touch.size HT1.out.size
          have hsq:w1.heap.size≤wq.heap.size:=HQ.out.size
          have HU2:Hid (∀q,Used h { ({ s1 with n:=s1.n+1 }:HS) with vR:=.slice (some ⟨g1,0,none⟩) (s1.R.length+1) cap1,R:=s1.R++[(ao,i,F,s1.n+1)] } q→Used h s q∨ringS h k s (.slice ad k i) V q∨w.heap.size≤q):=fun q u=>by
            have old:Used h s1 q→Used h s q∨ringS h k s (.slice ad k i) V q∨w.heap.size≤q:=fun u=>by
              rcases HRs.out.used q u with u | u | u
              · exact .inl u
              · exact .inr (.inl (.inr (.inr (.inr (.inr u)))))
              · exact .inr (.inr u)
            rcases used_R (s:=s1) u with u | u | ⟨e,he,u⟩ | ⟨e,he,j,hj,u⟩
            · exact old u
            · simp [Value.ownBlock] at u
              subst u
              rcases hat with hat | hat
              · exact old (used_vR hat)
              · exact .inr (.inr (by omega))
            · rcases List.mem_append.1 he with he | he
              · exact old (used_eR ⟨e,he,u⟩)
              · simp at he;subst he;exact .inr (.inl (.inr (.inr (.inr (.inl (by rw [HAD.out,HOB.out];exact u))))))
            · rcases List.mem_append.1 he with he | he
              · exact old (used_iR ⟨e,he,j,hj,u⟩)
              · simp at he;subst he
                have:=(HF.out j hj).1
                exact .inr (.inr (by rw [←u];simp only;omega))
          have HI2:=hide hI2
          have HT2:=hide hT2
          have HNn:Hid (s1.n+1=s.n+k+1∧s1.cs=s.cs∧s1.rs=s.rs):=⟨by rw [HRs.out.n],HRs.out.cs,HRs.out.rs⟩
          have c5':=(hgrow.cell_far ⟨h,2+5,none⟩ (by simp;omega) hty).trans (by go_simp:_=some s1.vR)
          have z5':=(hgrow.frozen_far ⟨h,7,none⟩ (by simp;omega) hty).trans (by go_simp:_=false)
          clear hown2 hgrow hat hty hoS hI2 hT2
          go_wp2
          go_end0
          exact ⟨rfl,HT2.out,_,HI2.out,HNn.out.1,HNn.out.2.1,HNn.out.2.2,HU2.out⟩
theorem flat2 {α:Type} (f:α→List Value) (hf:∀e,(f e).length=2):∀(l:List α) (i:Nat) (hi:i<l.length),(l.flatMap f)[i*2]? = (f l[i])[0]?∧(l.flatMap f)[i*2+1]? = (f l[i])[1]?:=by
  intro l
  induction l with
  | nil=>intro i hi;simp at hi
  | cons x r ih=>
    intro i hi
    rw [List.flatMap_cons]
    cases i with
    | zero=>
      have:=hf x
      simp only [Nat.zero_mul,Nat.zero_add,List.getElem_cons_zero]
      rw [List.getElem?_append_left (by omega),List.getElem?_append_left (by omega)]
      exact ⟨rfl,rfl⟩
    | succ j=>
      have h2:=hf x
      have:=ih j (by simpa using hi)
      simp only [List.getElem_cons_succ]
      rw [List.getElem?_append_right (by omega),List.getElem?_append_right (by omega),h2]
      rw [show (j+1)*2-2=j*2 by omega,show (j+1)*2+1-2=j*2+1 by omega]
      exact this
theorem owns_form {α:Type} {w:World} {base:Nat} {t:TypeId} {v:Value} {l:List α} {f:α→List Value} (hf:∀e,(f e).length=2) (h:w.ownsRow base t 2 v l.length (l.flatMap f)) :
    ∃ao cap,v=.slice ao l.length cap∧(0<l.length→∃g,ao=some ⟨g,0,none⟩∧g<w.heap.size∧∀(i:Nat) (hi:i<l.length),w.cell? ⟨g,i*2,none⟩=(f l[i])[0]?∧w.cell? ⟨g,i*2+1,none⟩=(f l[i])[1]?):=by
  rcases h.2 with ⟨rfl,h0⟩ | ⟨g,cap,cur,rfl,hb,hg,hle,hcap,hsz,htk⟩
  · exact ⟨none,0,by rw [h0],by omega⟩
  · refine ⟨some ⟨g,0,none⟩,cap,rfl,fun _=>⟨g,rfl,(Array.getElem?_eq_some_iff.1 hg).1,fun i hi=>?_⟩⟩
    have:=flat2 f hf l i hi
    have e:∀j,j<l.length*2→w.cell? ⟨g,j,none⟩=(l.flatMap f)[j]?:=fun j hj=>h.cellAt j hj
    rw [e _ (by omega),e _ (by omega)]
    exact this
theorem mkP_row {w:World} {b m:Nat} {t:TypeId} {n:Int} (h:w.rowIs b t (m*3) (mkP n)) (k:Nat) (hk:k<m) :
    w.cell? ⟨b,k*3,none⟩=some (.int .i64 (2199023255552+n))∧w.cell? ⟨b,k*3+1,none⟩=some (.int .i64 (-7))∧w.cell? ⟨b,k*3+2,none⟩=some (.int .i64 9):=by
  exact row_cells h k hk
theorem points_any (h:Nat) (s:HS) (w:World) (H:HeldInv w h s) :
    Calls Tryz.prog 20 #[.pointer (some ⟨h,2,none⟩)] w fun e w'=>e=.returned (.bool true)∧Below w.heap.size w w':=by
  have HH:=hide H
  have hlo:=H.lo
  have hhi:=H.hi
  obtain ⟨aP,cP,evP,hP⟩:=owns_form (fun e=>rfl) H.oP
  obtain ⟨aO,cO,evO,hO⟩:=owns_form (fun e=>rfl) H.oO
  have c3:w.cell? ⟨h,2+1,none⟩=some (.slice aP s.P.length cP):=by rw [H.wd.cell (by omega),←evP];rfl
  have c4:w.cell? ⟨h,2+2,none⟩=some (.slice aO s.O.length cO):=by rw [H.wd.cell (by omega),←evO];rfl
  have hhl:=H.wd.lt
  have HP:=hide hP
  have HO:=hide hO
  clear H evP evO hP hO
  have lP:(s.P.length:Int)≤1099511627776:=by omega
  have lO:(s.O.length:Int)≤1099511627776:=by omega
  go_enter Tryz.func20,Tryz.ntmps20
  go_wp2_with fail
  go_loopw [3] (fun t wr=>∃i:Nat,i≤s.P.length∧t=.int .i64 i∧Below w.heap.size w wr) (fun t _=>s.P.length-(intOf t).toNat)
  case atStart=>exact ⟨0,by omega,rfl,Below.refl _ _⟩
  case round=>
    obtain ⟨wo,rfl⟩:∃wo,wo=wr:=⟨wr,rfl⟩
    obtain ⟨i,hi,rfl,hb⟩:=hrel
    have hsz:=hb.size
    have d3:=(hb.cell (p:=⟨h,2+1,none⟩) hhl).trans c3
    by_cases hlt:i<s.P.length
    · obtain ⟨g,rfl,hgl,hg⟩:=HP.out (by omega)
      obtain ⟨x0,x1⟩:=hg i hlt
      obtain ⟨e,he⟩:∃e,s.P[i]=e:=⟨_,rfl⟩
      have hmem:e∈s.P:=by rw [←he];exact List.getElem_mem hlt
      rw [he] at x0 x1
      have y0:=(hb.cell (p:=⟨g,i*2,none⟩) hgl).trans x0
      have y1:=(hb.cell (p:=⟨g,i*2+1,none⟩) hgl).trans x1
      simp only [peC,List.getElem?_cons_zero,List.getElem?_cons_succ] at y0 y1
      obtain ⟨b,m,n⟩:=e
      have hrow:w.rowIs b 129 (m*3) (mkP n):=HH.out.eP _ hmem
      obtain ⟨n0,n1,n2⟩:0≤n∧n≤1099511627776∧m≤1099511627776:=HH.out.mP _ hmem
      simp only at y0 y1
      have HR:=hide hrow
      have hbl:=hrow.lt
      clear hg x0 x1 he hmem hrow
      have hd1:decide ((i:Int)<(s.P.length:Int))=true:=by simp;omega
      go_wp2_with fail
      go_loopw [5] (fun t wr=>∃k:Nat,k≤m∧t=.int .i64 k∧wo.heap.size<wr.heap.size∧Below w.heap.size w wr∧wr.cell? ⟨wo.heap.size,0,none⟩=some (.slice (some ⟨b,0,none⟩) m m)∧wr.cell? ⟨wo.heap.size,1,none⟩=some (.int .i64 n)) (fun t _=>m-(intOf t).toNat)
      case atStart=>
        refine ⟨0,by omega,rfl,by simp,by (repeat any_goals first | exact .refl _ _ | assumption | refine .drew ?_ | refine below_drewN ?_ _ | refine .setCell ?_ ?_ _ | refine .alloc ?_ ?_ _ | omega | (simp <;> omega)),?_,?_⟩
        all_goals go_simp
      case round=>
        obtain ⟨k,hk,rfl,hszr,hbr,b0,b1⟩:=hrel
        by_cases hkm:k<m
        · obtain ⟨q0,q1,q2⟩:=mkP_row (row_below HR.out hbr hbl) k hkm
          have hd2:decide ((k:Int)<(m:Int))=true:=by simp;omega
          have g0:(0:Int)≤(k:Int):=by omega
          have g1:(k:Int)<(m:Int):=by omega
          go_wp2_with fail
          go_region_held3 (fun w'=>w'.cell? ⟨wo.heap.size,0,none⟩=some (.slice (some ⟨b,0,none⟩) m m)∧w'.cell? ⟨wo.heap.size,1,none⟩=some (.int .i64 n)∧w'.cell? ⟨b,k*3,none⟩=some (.int .i64 (2199023255552+n))∧w'.cell? ⟨b,k*3+1,none⟩=some (.int .i64 (-7))∧w'.cell? ⟨b,k*3+2,none⟩=some (.int .i64 9)) (go_keep) ((go_at_call 64;refine (markPoint_any _ _ n0 n1).mono ?_;rintro e w' ⟨rfl,rfl⟩))
          go_wp2
          go_roundw
          case rel=>
            refine ⟨k+1,by omega,by go_num,by simp;omega,by (repeat any_goals first | exact .refl _ _ | assumption | refine .drew ?_ | refine below_drewN ?_ _ | refine .setCell ?_ ?_ _ | refine .alloc ?_ ?_ _ | omega | (simp <;> omega)),?_,?_⟩
            all_goals go_simp
          case measure=>simp [intOf];omega
        · go_wp2
          go_roundw
          case rel=>exact ⟨i+1,by omega,by go_num,hbr⟩
          case measure=>simp [intOf];omega
    · have hd0:decide ((i:Int)<(s.P.length:Int))=false:=by simp;omega
      go_wp2_with fail
      go_loopw [6] (fun t wr=>∃j:Nat,j≤s.O.length∧t=.int .i64 j∧Below w.heap.size w wr) (fun t _=>s.O.length-(intOf t).toNat)
      case atStart=>exact ⟨0,by omega,rfl,hb⟩
      case round=>
        obtain ⟨wp,rfl⟩:∃wp,wp=wr:=⟨wr,rfl⟩
        obtain ⟨j,hj,rfl,hbj⟩:=hrel
        have hszj:=hbj.size
        have d4:=(hbj.cell (p:=⟨h,2+2,none⟩) hhl).trans c4
        by_cases hltj:j<s.O.length
        · obtain ⟨g,rfl,hgl,hg⟩:=HO.out (by omega)
          obtain ⟨x0,x1⟩:=hg j hltj
          obtain ⟨e,he⟩:∃e,s.O[j]=e:=⟨_,rfl⟩
          have hmem:e∈s.O:=by rw [←he];exact List.getElem_mem hltj
          rw [he] at x0 x1
          have y0:=(hbj.cell (p:=⟨g,j*2,none⟩) hgl).trans x0
          have y1:=(hbj.cell (p:=⟨g,j*2+1,none⟩) hgl).trans x1
          simp only [oeC,List.getElem?_cons_zero,List.getElem?_cons_succ] at y0 y1
          obtain ⟨b,m,F,n⟩:=e
          have hrow:w.rowIs b 125 m (fun i=>.slice (some ⟨F i,0,none⟩) 1 1):=HH.out.eO _ hmem
          have hin:∀q,q<m→w.rowIs (F q) 129 3 (mkP n):=HH.out.eI _ hmem
          obtain ⟨n0,n1,n2⟩:0≤n∧n≤1099511627776∧m≤1099511627776:=HH.out.mO _ hmem
          simp only at y0 y1
          have HR:=hide hrow
          have HIn:=hide hin
          have hbl:=hrow.lt
          clear hg x0 x1 he hmem hrow hin
          have hd1:decide ((j:Int)<(s.O.length:Int))=true:=by simp;omega
          go_wp2_with fail
          go_loopw [8] (fun t wr=>∃k:Nat,k≤m∧t=.int .i64 k∧wp.heap.size<wr.heap.size∧Below w.heap.size w wr∧wr.cell? ⟨wp.heap.size,0,none⟩=some (.slice (some ⟨b,0,none⟩) m m)∧wr.cell? ⟨wp.heap.size,1,none⟩=some (.int .i64 n)) (fun t _=>m-(intOf t).toNat)
          case atStart=>
            refine ⟨0,by omega,rfl,by simp,by (repeat any_goals first | exact .refl _ _ | assumption | refine .drew ?_ | refine below_drewN ?_ _ | refine .setCell ?_ ?_ _ | refine .alloc ?_ ?_ _ | omega | (simp <;> omega)),?_,?_⟩
            all_goals go_simp
          case round=>
            obtain ⟨k,hk,rfl,hszr,hbr,b0,b1⟩:=hrel
            by_cases hkm:k<m
            · have r0:=(row_below HR.out hbr hbl).cell (i:=k) hkm
              obtain ⟨q0,q1,q2⟩:=mkP_row (m:=1) (row_below (HIn.out k hkm) hbr (HIn.out k hkm).lt) 0 (by omega)
              simp only [Nat.zero_mul,Nat.zero_add] at q0 q1 q2
              have hd2:decide ((k:Int)<(m:Int))=true:=by simp;omega
              have g0:(0:Int)≤(k:Int):=by omega
              have g1:(k:Int)<(m:Int):=by omega
              go_wp2_with fail
              go_region_held3 (fun w'=>w'.cell? ⟨wp.heap.size,1,none⟩=some (.int .i64 n)∧w'.cell? ⟨F k,0,none⟩=some (.int .i64 (2199023255552+n))∧w'.cell? ⟨F k,1,none⟩=some (.int .i64 (-7))∧w'.cell? ⟨F k,2,none⟩=some (.int .i64 9)) (go_keep) ((go_at_call 64;refine (markPoint_any _ _ n0 n1).mono ?_;rintro e w' ⟨rfl,rfl⟩))
              go_wp2
              go_roundw
              case rel=>
                refine ⟨k+1,by omega,by go_num,by simp;omega,by (repeat any_goals first | exact .refl _ _ | assumption | refine .drew ?_ | refine below_drewN ?_ _ | refine .setCell ?_ ?_ _ | refine .alloc ?_ ?_ _ | omega | (simp <;> omega)),?_,?_⟩
                all_goals go_simp
              case measure=>simp [intOf];omega
            · go_wp2
              go_roundw
              case rel=>exact ⟨j+1,by omega,by go_num,hbr⟩
              case measure=>simp [intOf];omega
        · have hd3:decide ((j:Int)<(s.O.length:Int))=false:=by simp;omega
          go_wp2
          go_ret
          exact ⟨rfl,hbj⟩
theorem markSegment_exact (n:Int) (w:World) (h0:0≤n) (h1:n≤1099511627776) :
    Calls Tryz.prog 18 #[.int .i64 n] w fun e w'=>e=.returned (.agg #[.int .i64 9,.int .i64 (2199023255552+n),.int .i64 (-7),.int .i64 (2199023255552+n),.int .i64 (-7),.int .i64 (2199023255552+n),.int .i64 (-7),.int .i64 (2199023255552+n),.int .i64 (-7)])∧w'=((w.alloc (.cells #[.int .i64 9,.int .i64 (2199023255552+n),.int .i64 (-7),.int .i64 (2199023255552+n),.int .i64 (-7),.int .i64 (2199023255552+n),.int .i64 (-7),.int .i64 (2199023255552+n),.int .i64 (-7)] 44)).alloc (.cells #[.int .i64 (2199023255552+n),.int .i64 (-7)] 42)).alloc (.cells #[.int .i64 (2199023255552+n),.int .i64 (-7)] 42):=by
  go_enter Tryz.func18,Tryz.ntmps18
  go_wp2_with fail
  refine (markSpot_any _ _ h0 h1).mono ?_
  rintro e w1 ⟨rfl,rfl⟩
  go_wp2
  exact bodyPost_ret (v:=.agg #[.int .i64 9,.int .i64 (2199023255552+n),.int .i64 (-7),.int .i64 (2199023255552+n),.int .i64 (-7),.int .i64 (2199023255552+n),.int .i64 (-7),.int .i64 (2199023255552+n),.int .i64 (-7)]) (by simp [results,Tryz.results18,go_sem]) rfl ⟨rfl,rfl⟩
theorem keep3 {w:World} {o1 o2 o3:Obj} {b o:Nat} {v:Value} (hb:b<w.heap.size) (h:w.cell? ⟨b,o,none⟩=some v):(((w.alloc o1).alloc o2).alloc o3).drew.cell? ⟨b,o,none⟩=some v:=by
  have e:Below w.heap.size w (((w.alloc o1).alloc o2).alloc o3).drew:=by (repeat any_goals first | exact .refl _ _ | assumption | refine .drew ?_ | refine below_drewN ?_ _ | refine .setCell ?_ ?_ _ | refine .alloc ?_ ?_ _ | omega | (simp <;> omega))
  exact (e.cell (p:=⟨b,o,none⟩) hb).trans h
theorem mkS_row {w:World} {b m:Nat} {t:TypeId} {n:Int} (h:w.rowIs b t (m*9) (mkS n)) (k:Nat) (hk:k<m) :
    w.cell? ⟨b,k*9,none⟩=some (.int .i64 9)∧w.cell? ⟨b,k*9+1,none⟩=some (.int .i64 (2199023255552+n))∧w.cell? ⟨b,k*9+2,none⟩=some (.int .i64 (-7))∧w.cell? ⟨b,k*9+3,none⟩=some (.int .i64 (2199023255552+n))∧w.cell? ⟨b,k*9+4,none⟩=some (.int .i64 (-7))∧w.cell? ⟨b,k*9+5,none⟩=some (.int .i64 (2199023255552+n))∧w.cell? ⟨b,k*9+6,none⟩=some (.int .i64 (-7))∧w.cell? ⟨b,k*9+7,none⟩=some (.int .i64 (2199023255552+n))∧w.cell? ⟨b,k*9+8,none⟩=some (.int .i64 (-7)):=by
  refine ⟨?_,?_,?_,?_,?_,?_,?_,?_,?_⟩
  · rw [h.cell (i:=k*9) (by omega)];unfold mkS;rw [if_pos (by omega)]
  · rw [h.cell (i:=k*9+1) (by omega)];unfold mkS;rw [if_neg (by omega),if_pos (by omega)]
  · rw [h.cell (i:=k*9+2) (by omega)];unfold mkS;rw [if_neg (by omega),if_neg (by omega)]
  · rw [h.cell (i:=k*9+3) (by omega)];unfold mkS;rw [if_neg (by omega),if_pos (by omega)]
  · rw [h.cell (i:=k*9+4) (by omega)];unfold mkS;rw [if_neg (by omega),if_neg (by omega)]
  · rw [h.cell (i:=k*9+5) (by omega)];unfold mkS;rw [if_neg (by omega),if_pos (by omega)]
  · rw [h.cell (i:=k*9+6) (by omega)];unfold mkS;rw [if_neg (by omega),if_neg (by omega)]
  · rw [h.cell (i:=k*9+7) (by omega)];unfold mkS;rw [if_neg (by omega),if_pos (by omega)]
  · rw [h.cell (i:=k*9+8) (by omega)];unfold mkS;rw [if_neg (by omega),if_neg (by omega)]
theorem mkT_row {w:World} {b m:Nat} {t:TypeId} {n:Int} (h:w.rowIs b t (m*2) (mkT n)) (k:Nat) (hk:k<m) :
    w.cell? ⟨b,k*2,none⟩=some (.int .i64 (2199023255552+n))∧w.cell? ⟨b,k*2+1,none⟩=some (.int .i64 (-7)):=by
  refine ⟨?_,?_⟩
  · rw [h.cell (i:=k*2) (by omega)];unfold mkT;rw [if_pos (by omega)]
  · rw [h.cell (i:=k*2+1) (by omega)];unfold mkT;rw [if_neg (by omega)]
theorem spot_form (e:Option Nat×Nat×Int) {w:World} (h1:∀b,e.1=some b→w.rowIs b 42 (e.2.1*2) (mkT e.2.2)) (h2:e.1=none→e.2.1=0) :
    ∃ao,(seC e)[0]? = some (.slice ao e.2.1 e.2.1)∧(seC e)[1]? = some (.int .i64 e.2.2)∧(0<e.2.1→∃b,ao=some ⟨b,0,none⟩∧w.rowIs b 42 (e.2.1*2) (mkT e.2.2)):=by
  obtain ⟨eb,m,n⟩:=e
  cases eb with
  | none=>exact ⟨none,rfl,rfl,fun h=>by have:=h2 rfl;simp at this h;omega⟩
  | some b=>exact ⟨some ⟨b,0,none⟩,rfl,rfl,fun _=>⟨b,rfl,h1 b rfl⟩⟩
theorem ring_form (e:Option Nat×Nat×(Nat→Nat)×Int) {w:World} (h1:∀b,e.1=some b→w.rowIs b 88 e.2.1 (fun i=>.slice (some ⟨e.2.2.1 i,0,none⟩) 1 1)) (h2:e.1=none→e.2.1=0) :
    ∃ao,(reC e)[0]? = some (.slice ao e.2.1 e.2.1)∧(reC e)[1]? = some (.int .i64 e.2.2.2)∧(0<e.2.1→∃b,ao=some ⟨b,0,none⟩∧w.rowIs b 88 e.2.1 (fun i=>.slice (some ⟨e.2.2.1 i,0,none⟩) 1 1)):=by
  obtain ⟨eb,m,F,n⟩:=e
  cases eb with
  | none=>exact ⟨none,rfl,rfl,fun h=>by have:=h2 rfl;simp at this h;omega⟩
  | some b=>exact ⟨some ⟨b,0,none⟩,rfl,rfl,fun _=>⟨b,rfl,h1 b rfl⟩⟩
theorem heldPlaces_any (h:Nat) (s:HS) (w:World) (H:HeldInv w h s) :
    Calls Tryz.prog 21 #[.pointer (some ⟨h,2,none⟩)] w fun e w'=>e=.returned (.bool true)∧Below w.heap.size w w':=by
  have HH:=hide H
  have hlo:=H.lo
  have hhi:=H.hi
  obtain ⟨aP,cP,evP,hP⟩:=owns_form (fun e=>rfl) H.oT
  obtain ⟨aO,cO,evO,hO⟩:=owns_form (fun e=>rfl) H.oR
  have c3:w.cell? ⟨h,2+4,none⟩=some (.slice aP s.T.length cP):=by rw [H.wd.cell (by omega),←evP];rfl
  have c4:w.cell? ⟨h,2+5,none⟩=some (.slice aO s.R.length cO):=by rw [H.wd.cell (by omega),←evO];rfl
  have hhl:=H.wd.lt
  have HP:=hide hP
  have HO:=hide hO
  clear H evP evO hP hO
  have lP:(s.T.length:Int)≤1099511627776:=by omega
  have lO:(s.R.length:Int)≤1099511627776:=by omega
  go_enter Tryz.func21,Tryz.ntmps21
  go_wp2_with fail
  go_loopw [3] (fun t wr=>∃i:Nat,i≤s.T.length∧t=.int .i64 i∧Below w.heap.size w wr) (fun t _=>s.T.length-(intOf t).toNat)
  case atStart=>exact ⟨0,by omega,rfl,Below.refl _ _⟩
  case round=>
    obtain ⟨wo,rfl⟩:∃wo,wo=wr:=⟨wr,rfl⟩
    obtain ⟨i,hi,rfl,hb⟩:=hrel
    have hsz:=hb.size
    have d3:=(hb.cell (p:=⟨h,2+4,none⟩) hhl).trans c3
    by_cases hlt:i<s.T.length
    · obtain ⟨g,rfl,hgl,hg⟩:=HP.out (by omega)
      obtain ⟨x0,x1⟩:=hg i hlt
      obtain ⟨e,he⟩:∃e,s.T[i]=e:=⟨_,rfl⟩
      have hmem:e∈s.T:=by rw [←he];exact List.getElem_mem hlt
      rw [he] at x0 x1
      have y0:=(hb.cell (p:=⟨g,i*2,none⟩) hgl).trans x0
      have y1:=(hb.cell (p:=⟨g,i*2+1,none⟩) hgl).trans x1
      obtain ⟨n0,n1,n2⟩:0≤e.2.2∧e.2.2≤1099511627776∧(e.2.1:Int)≤9223372036854775807:=HH.out.mT _ hmem
      obtain ⟨ao,s0,s1,hrow⟩:=spot_form e (HH.out.eT e hmem) (HH.out.eU e hmem)
      rw [s0] at y0
      rw [s1] at y1
      obtain ⟨eb,m,n⟩:=e
      simp only at y0 y1 hrow n0 n1 n2
      have HR:=hide hrow
      clear hg x0 x1 he hmem hrow s0 s1
      have hd1:decide ((i:Int)<(s.T.length:Int))=true:=by simp;omega
      go_wp2_with fail
      go_loopw [5] (fun t wr=>∃k:Nat,k≤m∧t=.int .i64 k∧wo.heap.size<wr.heap.size∧Below w.heap.size w wr∧wr.cell? ⟨wo.heap.size,0,none⟩=some (.slice ao m m)∧wr.cell? ⟨wo.heap.size,1,none⟩=some (.int .i64 n)) (fun t _=>m-(intOf t).toNat)
      case atStart=>
        refine ⟨0,by omega,rfl,by simp,by (repeat any_goals first | exact .refl _ _ | assumption | refine .drew ?_ | refine below_drewN ?_ _ | refine .setCell ?_ ?_ _ | refine .alloc ?_ ?_ _ | omega | (simp <;> omega)),?_,?_⟩
        all_goals go_simp
      case round=>
        obtain ⟨k,hk,rfl,hszr,hbr,b0,b1⟩:=hrel
        by_cases hkm:k<m
        · obtain ⟨b,rfl,hrow⟩:=HR.out (by omega)
          obtain ⟨q0,q1⟩:=mkT_row (row_below hrow hbr hrow.lt) k hkm
          have hbw:b<wr.heap.size:=(row_below hrow hbr hrow.lt).lt
          clear hrow
          have hd2:decide ((k:Int)<(m:Int))=true:=by simp;omega
          have g0:(0:Int)≤(k:Int):=by omega
          have g1:(k:Int)<(m:Int):=by omega
          go_wp2_with fail
          go_region_held3 (fun w'=>w'.cell? ⟨wo.heap.size,0,none⟩=some (.slice (some ⟨b,0,none⟩) m m)∧w'.cell? ⟨wo.heap.size,1,none⟩=some (.int .i64 n)∧w'.cell? ⟨b,k*2,none⟩=some (.int .i64 (2199023255552+n))∧w'.cell? ⟨b,k*2+1,none⟩=some (.int .i64 (-7))) (go_keep) ((go_at_call 63;refine (markSpot_any _ _ n0 n1).mono ?_;rintro e w' ⟨rfl,rfl⟩))
          go_wp2
          go_roundw
          case rel=>
            refine ⟨k+1,by omega,by go_num,by simp;omega,by (repeat any_goals first | exact .refl _ _ | assumption | refine .drew ?_ | refine below_drewN ?_ _ | refine .setCell ?_ ?_ _ | refine .alloc ?_ ?_ _ | omega | (simp <;> omega)),?_,?_⟩
            all_goals go_simp
          case measure=>simp [intOf];omega
        · go_wp2
          go_roundw
          case rel=>exact ⟨i+1,by omega,by go_num,hbr⟩
          case measure=>simp [intOf];omega
    · have hd0:decide ((i:Int)<(s.T.length:Int))=false:=by simp;omega
      go_wp2_with fail
      go_loopw [6] (fun t wr=>∃j:Nat,j≤s.R.length∧t=.int .i64 j∧Below w.heap.size w wr) (fun t _=>s.R.length-(intOf t).toNat)
      case atStart=>exact ⟨0,by omega,rfl,hb⟩
      case round=>
        obtain ⟨wp,rfl⟩:∃wp,wp=wr:=⟨wr,rfl⟩
        obtain ⟨j,hj,rfl,hbj⟩:=hrel
        have hszj:=hbj.size
        have d4:=(hbj.cell (p:=⟨h,2+5,none⟩) hhl).trans c4
        by_cases hltj:j<s.R.length
        · obtain ⟨g,rfl,hgl,hg⟩:=HO.out (by omega)
          obtain ⟨x0,x1⟩:=hg j hltj
          obtain ⟨e,he⟩:∃e,s.R[j]=e:=⟨_,rfl⟩
          have hmem:e∈s.R:=by rw [←he];exact List.getElem_mem hltj
          rw [he] at x0 x1
          have y0:=(hbj.cell (p:=⟨g,j*2,none⟩) hgl).trans x0
          have y1:=(hbj.cell (p:=⟨g,j*2+1,none⟩) hgl).trans x1
          obtain ⟨n0,n1,n2⟩:0≤e.2.2.2∧e.2.2.2≤1099511627776∧(e.2.1:Int)≤9223372036854775807:=HH.out.mR _ hmem
          obtain ⟨ao,s0,s1,hrow⟩:=ring_form e (HH.out.eR e hmem) (HH.out.eM e hmem)
          have hin:∀q,q<e.2.1→w.rowIs (e.2.2.1 q) 42 2 (mkT e.2.2.2):=HH.out.eJ _ hmem
          rw [s0] at y0
          rw [s1] at y1
          obtain ⟨eb,m,F,n⟩:=e
          simp only at y0 y1 hrow hin n0 n1 n2
          have HR:=hide hrow
          have HIn:=hide hin
          clear hg x0 x1 he hmem hrow hin s0 s1
          have hd1:decide ((j:Int)<(s.R.length:Int))=true:=by simp;omega
          go_wp2_with fail
          go_loopw [8] (fun t wr=>∃k:Nat,k≤m∧t=.int .i64 k∧wp.heap.size<wr.heap.size∧Below w.heap.size w wr∧wr.cell? ⟨wp.heap.size,0,none⟩=some (.slice ao m m)∧wr.cell? ⟨wp.heap.size,1,none⟩=some (.int .i64 n)) (fun t _=>m-(intOf t).toNat)
          case atStart=>
            refine ⟨0,by omega,rfl,by simp,by (repeat any_goals first | exact .refl _ _ | assumption | refine .drew ?_ | refine below_drewN ?_ _ | refine .setCell ?_ ?_ _ | refine .alloc ?_ ?_ _ | omega | (simp <;> omega)),?_,?_⟩
            all_goals go_simp
          case round=>
            obtain ⟨k,hk,rfl,hszr,hbr,b0,b1⟩:=hrel
            by_cases hkm:k<m
            · obtain ⟨b,rfl,hrow⟩:=HR.out (by omega)
              have r0:=(row_below hrow hbr hrow.lt).cell (i:=k) hkm
              obtain ⟨q0,q1⟩:=mkT_row (m:=1) (row_below (HIn.out k hkm) hbr (HIn.out k hkm).lt) 0 (by omega)
              simp only [Nat.zero_mul,Nat.zero_add] at q0 q1
              clear hrow
              have hd2:decide ((k:Int)<(m:Int))=true:=by simp;omega
              have g0:(0:Int)≤(k:Int):=by omega
              have g1:(k:Int)<(m:Int):=by omega
              go_wp2_with fail
              go_region_held3 (fun w'=>w'.cell? ⟨wp.heap.size,1,none⟩=some (.int .i64 n)∧w'.cell? ⟨F k,0,none⟩=some (.int .i64 (2199023255552+n))∧w'.cell? ⟨F k,1,none⟩=some (.int .i64 (-7))) (go_keep) ((go_at_call 63;refine (markSpot_any _ _ n0 n1).mono ?_;rintro e w' ⟨rfl,rfl⟩))
              go_wp2
              go_roundw
              case rel=>
                refine ⟨k+1,by omega,by go_num,by simp;omega,by (repeat any_goals first | exact .refl _ _ | assumption | refine .drew ?_ | refine below_drewN ?_ _ | refine .setCell ?_ ?_ _ | refine .alloc ?_ ?_ _ | omega | (simp <;> omega)),?_,?_⟩
                all_goals go_simp
              case measure=>simp [intOf];omega
            · go_wp2
              go_roundw
              case rel=>exact ⟨j+1,by omega,by go_num,hbr⟩
              case measure=>simp [intOf];omega
        · have hd3:decide ((j:Int)<(s.R.length:Int))=false:=by simp;omega
          go_wp2
          go_ret
          exact ⟨rfl,hbj⟩
theorem seg_form (e:Option Nat×Nat×Int) {w:World} (h1:∀b,e.1=some b→w.rowIs b 44 (e.2.1*9) (mkS e.2.2)) (h2:e.1=none→e.2.1=0) :
    ∃ao,(seC e)[0]? = some (.slice ao e.2.1 e.2.1)∧(seC e)[1]? = some (.int .i64 e.2.2)∧(0<e.2.1→∃b,ao=some ⟨b,0,none⟩∧w.rowIs b 44 (e.2.1*9) (mkS e.2.2)):=by
  obtain ⟨eb,m,n⟩:=e
  cases eb with
  | none=>exact ⟨none,rfl,rfl,fun h=>by have:=h2 rfl;simp at this h;omega⟩
  | some b=>exact ⟨some ⟨b,0,none⟩,rfl,rfl,fun _=>⟨b,rfl,h1 b rfl⟩⟩
theorem byte_form (e:Option Nat×Nat×Int) {w:World} (h1:∀b,e.1=some b→rowIz w b 5 e.2.1 (mkB e.2.2)) (h2:e.1=none→e.2.1=0) :
    ∃ao,(seC e)[0]? = some (.slice ao e.2.1 e.2.1)∧(seC e)[1]? = some (.int .i64 e.2.2)∧(0<e.2.1→∃b,ao=some ⟨b,0,none⟩∧rowIz w b 5 e.2.1 (mkB e.2.2)):=by
  obtain ⟨eb,m,n⟩:=e
  cases eb with
  | none=>exact ⟨none,rfl,rfl,fun h=>by have:=h2 rfl;simp at this h;omega⟩
  | some b=>exact ⟨some ⟨b,0,none⟩,rfl,rfl,fun _=>⟨b,rfl,h1 b rfl⟩⟩
theorem dry_any (h:Nat) (s:HS) (w:World) (H:HeldInv w h s) :
    Calls Tryz.prog 6 #[.pointer (some ⟨h,2,none⟩)] w fun e w'=>e=.returned (.bool true)∧Below w.heap.size w w':=by
  have HH:=hide H
  have hlo:=H.lo
  have hhi:=H.hi
  obtain ⟨aS,cS,evS,hS⟩:=owns_form (fun e=>rfl) H.oS
  have c5:w.cell? ⟨h,2+3,none⟩=some (.slice aS s.S.length cS):=by rw [H.wd.cell (by omega),←evS];rfl
  obtain ⟨aB,cB,evB,hB⟩:=owns_form (fun e=>rfl) H.oB
  have c8:w.cell? ⟨h,2+6,none⟩=some (.slice aB s.B.length cB):=by rw [H.wd.cell (by omega),←evB];rfl
  have hhl:=H.wd.lt
  have HP:=hide hS
  have HPB:=hide hB
  clear H evS hS evB hB
  have lS:(s.S.length:Int)≤1099511627776:=by omega
  have lB:(s.B.length:Int)≤1099511627776:=by omega
  go_enter Tryz.func6,Tryz.ntmps6
  go_wp2_with fail
  go_loopw [3] (fun t wr=>∃i:Nat,i≤s.S.length∧t=.int .i64 i∧Below w.heap.size w wr) (fun t _=>s.S.length-(intOf t).toNat)
  case atStart=>exact ⟨0,by omega,rfl,Below.refl _ _⟩
  case round=>
    obtain ⟨wo,rfl⟩:∃wo,wo=wr:=⟨wr,rfl⟩
    obtain ⟨i,hi,rfl,hb⟩:=hrel
    have hsz:=hb.size
    have d5:=(hb.cell (p:=⟨h,2+3,none⟩) hhl).trans c5
    have d8:=(hb.cell (p:=⟨h,2+6,none⟩) hhl).trans c8
    by_cases hlt:i<s.S.length
    · obtain ⟨g,rfl,hgl,hg⟩:=HP.out (by omega)
      obtain ⟨x0,x1⟩:=hg i hlt
      obtain ⟨e,he⟩:∃e,s.S[i]=e:=⟨_,rfl⟩
      have hmem:e∈s.S:=by rw [←he];exact List.getElem_mem hlt
      rw [he] at x0 x1
      have y0:=(hb.cell (p:=⟨g,i*2,none⟩) hgl).trans x0
      have y1:=(hb.cell (p:=⟨g,i*2+1,none⟩) hgl).trans x1
      obtain ⟨n0,n1,n2⟩:0≤e.2.2∧e.2.2≤1099511627776∧(e.2.1:Int)≤9223372036854775807:=HH.out.mS _ hmem
      obtain ⟨ao,s0,s1,hrow⟩:=seg_form e (HH.out.eS e hmem) (HH.out.eN e hmem)
      rw [s0] at y0
      rw [s1] at y1
      obtain ⟨eb,m,n⟩:=e
      simp only at y0 y1 hrow n0 n1 n2
      have HR:=hide hrow
      clear hg x0 x1 he hmem hrow s0 s1
      have hd1:decide ((i:Int)<(s.S.length:Int))=true:=by simp;omega
      go_wp2_with fail
      go_loopw [5] (fun t wr=>∃k:Nat,k≤m∧t=.int .i64 k∧wo.heap.size<wr.heap.size∧Below w.heap.size w wr∧wr.cell? ⟨wo.heap.size,0,none⟩=some (.slice ao m m)∧wr.cell? ⟨wo.heap.size,1,none⟩=some (.int .i64 n)) (fun t _=>m-(intOf t).toNat)
      case atStart=>
        refine ⟨0,by omega,rfl,by simp,by (repeat any_goals first | exact .refl _ _ | assumption | refine .drew ?_ | refine below_drewN ?_ _ | refine .setCell ?_ ?_ _ | refine .alloc ?_ ?_ _ | omega | (simp <;> omega)),?_,?_⟩
        all_goals go_simp
      case round=>
        obtain ⟨k,hk,rfl,hszr,hbr,b0,b1⟩:=hrel
        by_cases hkm:k<m
        · obtain ⟨b,rfl,hrow⟩:=HR.out (by omega)
          obtain ⟨q0,q1,q2,q3,q4,q5,q6,q7,q8⟩:=mkS_row (row_below hrow hbr hrow.lt) k hkm
          have hbw:b<wr.heap.size:=(row_below hrow hbr hrow.lt).lt
          clear hrow
          have hd2:decide ((k:Int)<(m:Int))=true:=by simp;omega
          have g0:(0:Int)≤(k:Int):=by omega
          have g1:(k:Int)<(m:Int):=by omega
          go_wp2_with fail
          go_region_held3 (fun w'=>w'.cell? ⟨wo.heap.size,0,none⟩=some (.slice (some ⟨b,0,none⟩) m m)∧w'.cell? ⟨wo.heap.size,1,none⟩=some (.int .i64 n)∧w'.cell? ⟨b,k*9,none⟩=some (.int .i64 9)∧w'.cell? ⟨b,k*9+1,none⟩=some (.int .i64 (2199023255552+n))∧w'.cell? ⟨b,k*9+2,none⟩=some (.int .i64 (-7))∧w'.cell? ⟨b,k*9+3,none⟩=some (.int .i64 (2199023255552+n))∧w'.cell? ⟨b,k*9+4,none⟩=some (.int .i64 (-7))∧w'.cell? ⟨b,k*9+5,none⟩=some (.int .i64 (2199023255552+n))∧w'.cell? ⟨b,k*9+6,none⟩=some (.int .i64 (-7))∧w'.cell? ⟨b,k*9+7,none⟩=some (.int .i64 (2199023255552+n))∧w'.cell? ⟨b,k*9+8,none⟩=some (.int .i64 (-7))) (first | exact ⟨keep3 hszr b0,keep3 hszr b1,keep3 hbw q0,keep3 hbw q1,keep3 hbw q2,keep3 hbw q3,keep3 hbw q4,keep3 hbw q5,keep3 hbw q6,keep3 hbw q7,keep3 hbw q8⟩ | go_keep) ((go_at_call 18;refine (markSegment_exact _ _ n0 n1).mono ?_;rintro e w' ⟨rfl,rfl⟩))
          go_wp2
          go_roundw
          case rel=>
            refine ⟨k+1,by omega,by go_num,by simp;omega,by (repeat any_goals first | exact .refl _ _ | assumption | refine .drew ?_ | refine below_drewN ?_ _ | refine .setCell ?_ ?_ _ | refine .alloc ?_ ?_ _ | omega | (simp <;> omega)),?_,?_⟩
            all_goals go_simp
          case measure=>simp [intOf];omega
        · go_wp2
          go_roundw
          case rel=>exact ⟨i+1,by omega,by go_num,hbr⟩
          case measure=>simp [intOf];omega
    · have hd0:decide ((i:Int)<(s.S.length:Int))=false:=by simp;omega
      go_wp2_with fail
      go_loopw [6] (fun t wr=>∃j:Nat,j≤s.B.length∧t=.int .i64 j∧Below w.heap.size w wr) (fun t _=>s.B.length-(intOf t).toNat)
      case atStart=>exact ⟨0,by omega,rfl,hb⟩
      case round=>
        obtain ⟨wp,rfl⟩:∃wp,wp=wr:=⟨wr,rfl⟩
        obtain ⟨j,hj,rfl,hbj⟩:=hrel
        have hszj:=hbj.size
        have d8j:=(hbj.cell (p:=⟨h,2+6,none⟩) hhl).trans c8
        by_cases hltj:j<s.B.length
        · obtain ⟨g,rfl,hgl,hg⟩:=HPB.out (by omega)
          obtain ⟨x0,x1⟩:=hg j hltj
          obtain ⟨e,he⟩:∃e,s.B[j]=e:=⟨_,rfl⟩
          have hmem:e∈s.B:=by rw [←he];exact List.getElem_mem hltj
          rw [he] at x0 x1
          have y0:=(hbj.cell (p:=⟨g,j*2,none⟩) hgl).trans x0
          have y1:=(hbj.cell (p:=⟨g,j*2+1,none⟩) hgl).trans x1
          obtain ⟨n0,n1,n2⟩:0≤e.2.2∧e.2.2≤1099511627776∧(e.2.1:Int)≤9223372036854775807:=HH.out.mB _ hmem
          obtain ⟨ao,s0,s1,hrow⟩:=byte_form e (HH.out.eB e hmem) (HH.out.eV e hmem)
          rw [s0] at y0
          rw [s1] at y1
          obtain ⟨eb,m,n⟩:=e
          simp only at y0 y1 hrow n0 n1 n2
          have HR:=hide hrow
          clear hg x0 x1 he hmem hrow s0 s1
          have hd1:decide ((j:Int)<(s.B.length:Int))=true:=by simp;omega
          go_wp2_with fail
          go_loopw [8] (fun t wr=>∃k:Nat,k≤m∧t=.int .i64 k∧wp.heap.size<wr.heap.size∧Below w.heap.size w wr∧wr.cell? ⟨wp.heap.size,0,none⟩=some (.slice ao m m)∧wr.cell? ⟨wp.heap.size,1,none⟩=some (.int .i64 n)) (fun t _=>m-(intOf t).toNat)
          case atStart=>
            refine ⟨0,by omega,rfl,by simp,by (repeat any_goals first | exact .refl _ _ | assumption | refine .drew ?_ | refine below_drewN ?_ _ | refine .setCell ?_ ?_ _ | refine .alloc ?_ ?_ _ | omega | (simp <;> omega)),?_,?_⟩
            all_goals go_simp
          case round=>
            obtain ⟨k,hk,rfl,hszr,hbr,b0,b1⟩:=hrel
            by_cases hkm:k<m
            · obtain ⟨b,rfl,hrow⟩:=HR.out (by omega)
              have q0:=(rowz_below hrow hbr hrow.lt).cell (i:=k) hkm
              clear hrow
              have hd2:decide ((k:Int)<(m:Int))=true:=by simp;omega
              have g0:(0:Int)≤(k:Int):=by omega
              have g1:(k:Int)<(m:Int):=by omega
              obtain ⟨MB,hMB⟩:∃MB,mkB n k=.int .u8 MB:=⟨_,rfl⟩
              rw [hMB] at q0
              go_wp2_with fail
              go_region_held3 (fun w'=>w'.cell? ⟨wp.heap.size,0,none⟩=some (.slice (some ⟨b,0,none⟩) m m)∧w'.cell? ⟨wp.heap.size,1,none⟩=some (.int .i64 n)∧w'.cell? ⟨b,k,none⟩=some (.int .u8 MB)) (go_keep) ((go_at_call 19;refine (markByte_any _ _ _ n0 n1).mono ?_;rintro e w' ⟨rfl,rfl⟩;rw [hMB]))
              go_wp2
              go_roundw
              case rel=>
                refine ⟨k+1,by omega,by go_num,by simp;omega,by (repeat any_goals first | exact .refl _ _ | assumption | refine .drew ?_ | refine below_drewN ?_ _ | refine .setCell ?_ ?_ _ | refine .alloc ?_ ?_ _ | omega | (simp <;> omega)),?_,?_⟩
                all_goals go_simp
              case measure=>simp [intOf];omega
            · go_wp2
              go_roundw
              case rel=>exact ⟨j+1,by omega,by go_num,hbr⟩
              case measure=>simp [intOf];omega
        · have hd3:decide ((j:Int)<(s.B.length:Int))=false:=by simp;omega
          go_wp2_with fail
          have H1:=hide (HH.out.below hbj)
          refine (points_any h s _ H1.out).mono ?_
          rintro e w1 ⟨rfl,hb1⟩
          have hb2:Below w.heap.size w w1:=hbj.trans (hb1.mono hszj)
          have H2:=hide (H1.out.below hb1)
          clear hb1
          go_wp2_with fail
          refine (heldPlaces_any h s _ H2.out).mono ?_
          rintro e w2 ⟨rfl,hb3⟩
          have hs2:=hb2.size
          have hb4:Below w.heap.size w w2:=hb2.trans (hb3.mono hs2)
          clear hb3
          go_wp2
          go_ret
          exact ⟨rfl,hb4⟩
theorem traceN_le (N:Nat) (n:Nat→Nat) (X Y K:Nat→Nat→Int) (m:Num.Mp):traceN N n X Y K m≤16∧∀i,i<traceN N n X Y K m→(traceL n X Y K m i).length≤4294967296:=by
  unfold traceN
  split
  · rename_i h
    have h0:(Num.chkV N n X Y K).1=0:=by
      unfold traceE at h
      split at h
      · assumption
      · exact h
    rcases Num.chk_cases N n X Y K with ⟨_,hm,_,_⟩ | h1
    · obtain ⟨m1,_,m3⟩:=ok_many hm
      refine ⟨m1,fun i hi=>?_⟩
      have h2:=Num.ringSp_le m (ringL n X Y K i)
      have h3:=refRing_len (X i) (Y i) (K i) (n i)
      have h4:=m3 i hi
      unfold ringL at h2
      unfold traceL ringL
      omega
    · exact absurd h0 h1
  · exact ⟨by omega,fun i hi=>by omega⟩
theorem ty_not_outS {w:World} {base h ob N:Nat} {B nn:Nat→Nat} {X Y K:Nat→Nat→Int} {s:HS} {t:TypeId} (H:HeldInv w h s) (L:Lent w base ob N B nn X Y K) {b:Nat} (ty:tyOf w b=some t)
    (t1:t≠37) (t2:t≠125) (t3:t≠129) (t4:t≠127) (t5:t≠132):¬outS h ob (N+2) B s b:=by
  rintro (rfl | rfl | ⟨i,hi,rfl⟩ | h1 | h1)
  · rw [row_ty H.wd] at ty;simp at ty;exact t1 ty.symm
  · rw [row_ty L.outer] at ty;simp at ty;exact t2 ty.symm
  · rw [row_ty (L.inner i hi)] at ty;simp at ty;exact t3 ty.symm
  · rw [owns_ty H.oP h1] at ty;simp at ty;exact t4 ty.symm
  · rw [owns_ty H.oO h1] at ty;simp at ty;exact t5 ty.symm
set_option maxRecDepth 100000 in
theorem traces_any (ad:Option Addr) (N cc h:Nat) (A:Nat→Option Addr) (C n:Nat→Nat) (X Y K:Nat→Nat→Int) (a b c d x y:Int) (s:HS) (w0 w:World) (hN:N≤2097152) (hn:∀i,i<N→n i≤2097152) (hS:Num.sumN n N≤1099511627776)
    (ho:OutAt w0 ad N A C n X Y K) (hb0:Below w0.heap.size w0 w) (hh:w0.heap.size≤h) (H:HeldInv w h s) (hs:s.n+N+24≤1099511627776) :
    Calls Tryz.prog 11 #[.pointer (some ⟨h,0,none⟩),.slice ad N cc,.agg #[.int .i64 a,.int .i64 b,.int .i64 c,.int .i64 d,.int .i64 x,.int .i64 y]] w fun e w'=>e=.returned (.bool true)∧Below w0.heap.size w w'∧∃s',HeldInv w' h s'∧s'.n≤s.n+N+24∧s'.cs=s.cs∧s'.rs=s.rs∧Touch (Used h s) w w'∧NewUsed w.heap.size h s s':=by
  have hn1:∀i,i<N→n i≤4294967295:=fun i hi=>by have:=hn i hi;omega
  have hn2:∀i,i<N→n i≤4294967296:=fun i hi=>by have:=hn i hi;omega
  have hsz0:=hb0.size
  have hhw:=H.wd.lt
  have HN1:=hide hn1
  have HN2:=hide hn2
  obtain ⟨W0,hW0⟩:∃W0,W0=w.alloc (.cells #[.int .i64 a,.int .i64 b,.int .i64 c,.int .i64 d,.int .i64 x,.int .i64 y] 40):=⟨_,rfl⟩
  have hbW:Below w.heap.size w W0:=by rw [hW0];exact (Below.refl _ _).alloc (Nat.le_refl _) _
  have hMr:W0.rowIs w.heap.size 40 6 (mp6 a b c d x y):=by rw [hW0];exact mp6_row a b c d x y w 40
  have hsW:=hMr.lt
  have HH:=hide (H.below hbW)
  have HUR:=hide H.underR
  have HO:=hide ((ho.below hb0).below hbW)
  have HBW:=hide hbW
  have HMr:=hide hMr
  have HW0:=hide hW0
  have hTN:=traceN_le N n X Y K ⟨a,b,c,d,x,y⟩
  clear H hn1 hn2 ho hn hb0 hbW hMr hW0
  obtain ⟨TE,hTE⟩:∃TE,TE=traceE N n X Y K ⟨a,b,c,d,x,y⟩:=⟨_,rfl⟩
  obtain ⟨TN,hTNe⟩:∃TN,TN=traceN N n X Y K ⟨a,b,c,d,x,y⟩:=⟨_,rfl⟩
  obtain ⟨TL,hTL⟩:∃TL,TL=traceL n X Y K ⟨a,b,c,d,x,y⟩:=⟨_,rfl⟩
  rw [←hTNe,←hTL] at hTN
  have HTE:=hide hTE
  have HTN:=hide hTNe
  have HTL:=hide hTL
  have HTle:=hide hTN.2
  have hT16:=hTN.1
  clear hTE hTNe hTL hTN
  go_enter Tryz.func11,Tryz.ntmps11
  go_wp2_with fail
  rw [←HW0.out]
  refine (lend_any _ _ _ A C n X Y K _ (by omega) HN1.out HO.out).mono ?_
  rintro e w1 ⟨rfl,hb1,B,hL⟩
  have HL:=hide hL
  have HB1:=hide hb1
  have hs1:=hb1.size
  have HM1:=hide (row_below HMr.out hb1 hsW)
  obtain ⟨d0,d1,d2,d3,d4,d5⟩:=mp6_cells HM1.out
  have hM1l:=HM1.out.lt
  clear hL hb1
  go_wp2_with fail
  refine (glyphTrace_any _ _ _ _ _ n X Y K _ _ _ _ _ _ _ (by omega) HN2.out HL.out.out).mono ?_
  rw [←HTE.out,←HTN.out,←HTL.out]
  rintro e w2 ⟨l,V,rfl,hb2,hSl⟩
  have HB2:=hide (HB1.out.trans (hb2.mono hs1))
  have HL2:=hide (HL.out.below hb2)
  have HS2:=hide hSl
  have hs2:=hb2.size
  have HM2:=hide (row_below HM1.out hb2 hM1l)
  clear hb2 hSl d0 d1 d2 d3 d4 d5
  obtain ⟨d0,d1,d2,d3,d4,d5⟩:=mp6_cells HM2.out
  have hM2l:=HM2.out.lt
  go_wp2_with fail
  refine (refTrace_any _ _ _ A C n X Y K _ _ _ _ _ _ _ (by omega) HN2.out hS (HO.out.below HB2.out)).mono ?_
  rw [←HTE.out,←HTN.out,←HTL.out]
  rintro e w3 ⟨r,V',rfl,hb3,hSr⟩
  have HB3:=hide (HB2.out.trans (hb3.mono (by omega)))
  have HL3:=hide (HL2.out.below hb3)
  have HS3:=hide (HS2.out.below hb3)
  have HR3:=hide hSr
  have hs3:=hb3.size
  clear hb3 hSr d0 d1 d2 d3 d4 d5
  go_wp2_with fail
  refine (lent_any _ _ _ _ _ A C n B X Y K _ (by omega) HN1.out HL3.out (HO.out.below HB3.out)).mono ?_
  rintro e w4 ⟨rfl,hb4⟩
  have HB4:=hide (HB3.out.trans (hb4.mono (by omega)))
  have HL4:=hide (HL3.out.below hb4)
  have HS4:=hide (HS3.out.below hb4)
  have HR4:=hide (HR3.out.below hb4)
  have hs4:=hb4.size
  clear hb4
  go_wp2_with fail
  refine (sameRings_any l r _ _ TN V V' TL _ (by omega) HTle.out HS4.out HR4.out).mono ?_
  rintro e w5 ⟨rfl,hb5,hhp⟩
  have HB5:=hide (HB4.out.trans (hb5.mono (by omega)))
  have HL5:=hide (HL4.out.below hb5)
  have HS5:=hide (HS4.out.below hb5)
  have hs5:=hb5.size
  clear hb5 hhp
  have H5:=hide (HH.out.below HB5.out)
  go_wp2_with fail
  refine (outline_full W0.heap.size h W0.heap.size N (N+2) B _ _ s _ (by omega) H5.out (HL5.out.lists HH.out.under (by omega) HN1.out) (by omega) (by omega)).mono ?_
  rintro e w6 ⟨rfl,hT6,s1,hI6,hn6,hcs,hrs,_,_,hT6e,hvT6,hR6e,hvR6,_,_,hU6⟩
  have HU6:=hide (And.intro hvT6 (And.intro hvR6 hU6))
  have hS6:SpRings w6 w1.heap.size l TN V TL:=HS5.out.of_blocks
    (fun q hq=>hT6.block q (HS5.out.outer.lt q hq).2 (ty_not_outS H5.out HL5.out (owns_ty HS5.out.outer hq) (by decide) (by decide) (by decide) (by decide) (by decide)))
    (fun i hi q hq=>hT6.block q ((HS5.out.inner i hi).lt q hq).2 (ty_not_outS H5.out HL5.out (owns_ty (HS5.out.inner i hi) hq) (by decide) (by decide) (by decide) (by decide) (by decide)))
  clear hU6
  have hU6:s1.UnderR w1.heap.size:=by
    refine ⟨fun e he q hq=>?_,fun e he=>⟨fun q hq=>?_,fun i hi=>?_⟩⟩
    · rw [hT6e] at he;have:=HUR.out.1 e he q hq;omega
    · rw [hR6e] at he;have:=(HUR.out.2 e he).1 q hq;omega
    · rw [hR6e] at he;have:=(HUR.out.2 e he).2 i hi;omega
  have HS6:=hide hS6
  have HV6:=hide hU6
  have HT6:=hide hT6
  have HI6:=hide hI6
  have hN6:=hide (And.intro hn6 (And.intro hcs hrs))
  have hsn:s1.n+TN+1≤1099511627776:=by rw [hn6];omega
  clear hvT6 hvR6 hT6 hI6 hn6 hcs hrs hT6e hR6e hS6 hU6
  go_wp2_with fail
  refine (heldRings_any h TN w1.heap.size l V TL s1 _ (by omega) HI6.out HS6.out HV6.out hsn).mono ?_
  rintro e w7 ⟨rfl,hT7,s2,hI7,hn7,hcs7,hrs7,hU7⟩
  have HU7:=hide hU7
  have HT7:=hide hT7
  have HI7:=hide (And.intro hI7 (And.intro hn7 (And.intro hcs7 hrs7)))
  clear hU7 hT7 hI7 hn7 hcs7 hrs7
  go_wp2_with (go_at_call 27;refine (num_any _ _).mono ?_;rintro e w' ⟨rfl,rfl⟩)
  go_ret
  obtain ⟨hI7,hn7,hcs7,hrs7⟩:=HI7.out
  obtain ⟨hn6,hcs6,hrs6⟩:=hN6.out
  have hs6:=HT6.out.size
  have hring:∀q,ringS h TN s1 l V q→Used h s q∨w.heap.size≤q:=fun q hq=>by
    rcases hq with rfl | hq | hq | hq | ⟨i,hi,hq⟩
    · exact .inl (.inl rfl)
    · rw [HU6.out.1] at hq;exact .inl (used_vT hq)
    · rw [HU6.out.2.1] at hq;exact .inl (used_vR hq)
    · have:=(HS6.out.outer.lt q hq).1;exact .inr (by omega)
    · have:=((HS6.out.inner i hi).lt q hq).1;exact .inr (by omega)
  refine ⟨rfl,?_,s2,hI7,?_,hcs7.trans hcs6,hrs7.trans hrs6,?_,fun q hq=>?_⟩
  · have t6:=HT6.out.below (B:=w0.heap.size) (by omega) (fun q hq=>outS_ge H5.out hh (by omega) (fun i hi=>by have:=HL5.out.geB i hi;omega) hq)
    have t7:=HT7.out.below (B:=w0.heap.size) (by omega) (fun q hq=>by
      rcases hq with rfl | hq | hq | hq | ⟨i,hi,hq⟩
      · exact hh
      · have:=(HI6.out.oT.lt q hq).1;omega
      · have:=(HI6.out.oR.lt q hq).1;omega
      · have:=(HS6.out.outer.lt q hq).1;omega
      · have:=((HS6.out.inner i hi).lt q hq).1;omega)
    exact (((HBW.out.trans (HB5.out.mono (by omega))).mono hsz0).trans t6).trans t7
  · rw [hn7,hn6];omega
  · have t6:=((Touch.refl (Used h s) w).of_below (HBW.out.trans (HB5.out.mono (by omega)))).trans' HT6.out (fun q hq=>outS_used (B0:=w.heap.size) (by omega) (fun i hi=>by have:=HL5.out.geB i hi;omega) hq)
    exact t6.trans' HT7.out hring
  · have old:Used h s1 q→Used h s q∨w.heap.size≤q:=fun hq=>by
      rcases HU6.out.2.2 q hq with h1 | h1 | h1
      · exact .inl h1
      · exact outS_used (B0:=w.heap.size) (by omega) (fun i hi=>by have:=HL5.out.geB i hi;omega) h1
      · exact .inr (by omega)
    rcases HU7.out q hq with h1 | h1 | h1
    · exact old h1
    · exact hring q h1
    · exact .inr (by omega)
theorem owns_by {w:World} {base:Nat} {v:Value} {l:List Int} (h:w.ownsRow base 5 1 v l.length (u8C l)):∃ao cap,v=.slice ao l.length cap∧ByAt w ao l.length (fun k=>l.getD k 0):=by
  obtain ⟨ao,cap,rfl,hao⟩:=owns_formN h
  refine ⟨ao,cap,rfl,?_⟩
  rcases Nat.eq_zero_or_pos l.length with h0 | h0
  · exact .inl h0
  · obtain ⟨g,rfl⟩:=hao h0
    refine .inr ⟨g,0,rfl,fun k hk=>?_⟩
    have hc:=h.cellAt k (by omega)
    rw [Nat.zero_add,hc]
    simp [u8C,hk]
theorem pixL_small {A:Nat→Nat→Int} {a b:Nat} (ha:a≤64) (hb:b≤64):(pixL A 0 0 a (a*b)).length≤4096:=by
  rw [pixL_len]
  exact Nat.mul_le_mul ha hb
set_option maxRecDepth 100000 in
theorem renders_any (ad:Option Addr) (N cc h:Nat) (A:Nat→Option Addr) (C n:Nat→Nat) (X Y K:Nat→Nat→Int) (a b c d x y WW HH:Int) (s:HS) (w0 w:World) (hN:N≤2097152) (hn:∀i,i<N→n i≤2097152) (hS:Num.sumN n N≤1099511627776)
    (ho:OutAt w0 ad N A C n X Y K) (hb0:Below w0.heap.size w0 w) (hh:w0.heap.size≤h) (H:HeldInv w h s) (hs:s.n+N+24≤1099511627776) :
    Calls Tryz.prog 13 #[.pointer (some ⟨h,0,none⟩),.slice ad N cc,.agg #[.int .i64 a,.int .i64 b,.int .i64 c,.int .i64 d,.int .i64 x,.int .i64 y],.int .i64 WW,.int .i64 HH] w fun e w'=>e=.returned (.bool true)∧Below w0.heap.size w w'∧Touch (Used h s) w w'∧∃s',HeldInv w' h s'∧s'.n≤s.n+N+24∧s'.cs=s.cs∧s'.rs=s.rs∧NewUsed w.heap.size h s s':=by
  have hn1:∀i,i<N→n i≤4294967295:=fun i hi=>by have:=hn i hi;omega
  have hn2:∀i,i<N→n i≤4294967296:=fun i hi=>by have:=hn i hi;omega
  have hsz0:=hb0.size
  have hhw:=H.wd.lt
  have HN1:=hide hn1
  have HN2:=hide hn2
  obtain ⟨W0,hW0⟩:∃W0,W0=w.alloc (.cells #[.int .i64 a,.int .i64 b,.int .i64 c,.int .i64 d,.int .i64 x,.int .i64 y] 40):=⟨_,rfl⟩
  have hbW:Below w.heap.size w W0:=by rw [hW0];exact (Below.refl _ _).alloc (Nat.le_refl _) _
  have hMr:W0.rowIs w.heap.size 40 6 (mp6 a b c d x y):=by rw [hW0];exact mp6_row a b c d x y w 40
  have hsW:=hMr.lt
  have HH0:=hide (H.below hbW)
  have HUB:=hide H.underB
  have HO:=hide ((ho.below hb0).below hbW)
  have HBW:=hide hbW
  have HMr:=hide hMr
  have HW0:=hide hW0
  clear H hn1 hn2 ho hn hb0 hbW hMr hW0
  obtain ⟨RE,hRE⟩:∃RE,RE=renE WW HH (traceE N n X Y K ⟨a,b,c,d,x,y⟩):=⟨_,rfl⟩
  obtain ⟨RL,hRL⟩:∃RL,RL=pixL (renA (traceL n X Y K ⟨a,b,c,d,x,y⟩) N) 0 0 WW.toNat (WW.toNat*HH.toNat):=⟨_,rfl⟩
  have HRl:Hid (RE=0→RL.length≤4096):=fun e=>by
    rw [hRE] at e
    have hnb:newB WW HH 0=true:=by
      cases hq:newB WW HH 0
      · unfold renE at e;rw [if_pos hq] at e;simp at e
      · rfl
    obtain ⟨h1,h2,_⟩:=newB_yes hnb
    rw [hRL]
    exact pixL_small (by omega) (by omega)
  have HRE:=hide hRE
  have HRL:=hide hRL
  clear hRE hRL
  go_enter Tryz.func13,Tryz.ntmps13
  go_wp2_with fail
  rw [←HW0.out]
  refine (lend_any _ _ _ A C n X Y K _ (by omega) HN1.out HO.out).mono ?_
  rintro e w1 ⟨rfl,hb1,B,hL⟩
  have HL:=hide hL
  have HB1:=hide hb1
  have hs1:=hb1.size
  have HM1:=hide (row_below HMr.out hb1 hsW)
  obtain ⟨d0,d1,d2,d3,d4,d5⟩:=mp6_cells HM1.out
  have hM1l:=HM1.out.lt
  clear hL hb1
  go_wp2_with fail
  refine (glyphRender_any WW HH _ _ _ _ _ n X Y K _ _ _ _ _ _ _ (by omega) HN2.out HL.out.out).mono ?_
  rw [←HRE.out,←HRL.out]
  rintro e w2 ⟨rw1,rh1,v,l,rfl,hb2,hown,hq1,hq2⟩
  have hlen:l.length≤4096:=by
    by_cases e:RE=0
    · rw [(hq2 e).2.2];exact HRl.out e
    · rw [(hq1 e).2.2];simp
  obtain ⟨ao,cap,rfl,hby⟩:=owns_by hown
  obtain ⟨W2,hW2⟩:∃W2,W2=w2.alloc (.cells #[.int .i64 rw1,.int .i64 rh1,.slice ao l.length cap] 47):=⟨_,rfl⟩
  have hbW2:Below w2.heap.size w2 W2:=by rw [hW2];exact (Below.refl _ _).alloc (Nat.le_refl _) _
  have hs2:=hb2.size
  have hsW2:W2.heap.size=w2.heap.size+1:=by rw [hW2];simp
  have hb2':Below w1.heap.size w1 W2:=hb2.trans (hbW2.mono hs2)
  have HB2:=hide (HB1.out.trans (hb2'.mono hs1))
  have HL2:=hide (HL.out.below hb2')
  have HOw2:=hide (owns_of_block hown (fun q hq=>hbW2.block q (hown.lt q hq).2))
  have HBy2:=hide (hby.below hbW2)
  have HG2:Hid (W2.rowIs w2.heap.size 47 3 (gr3 rw1 rh1 (.slice ao l.length cap))):=by unfold Hid;rw [hW2];exact gr3_row _ _ _ _ _
  have HM2:=hide (row_below HM1.out hb2' hM1l)
  have HQ:=hide (And.intro hq1 hq2)
  have hg2:w2.heap.size<W2.heap.size:=by omega
  have hl2:w1.heap.size≤w2.heap.size:=hs2
  have HW2:=hide hW2
  have hM2w:=row_below HM1.out hb2 hM1l
  clear d0 d1 d2 d3 d4 d5
  obtain ⟨d0,d1,d2,d3,d4,d5⟩:=mp6_cells hM2w
  have hM2l:=hM2w.lt
  clear hb2 hown hby hq1 hq2 hbW2 hb2' hW2 hsW2 hM2w
  go_wp2_with fail
  rw [←HW2.out]
  refine (refRender_any WW HH _ _ _ A C n X Y K _ _ _ _ _ _ _ (by omega) HN2.out hS (HO.out.below HB2.out)).mono ?_
  rw [←HRE.out,←HRL.out]
  rintro e w3 ⟨rw2,rh2,v',l',rfl,hb3,hown3,hq3,hq4⟩
  have hsame:rw2=rw1∧rh2=rh1∧l'=l:=by
    by_cases e:RE=0
    · obtain ⟨k1,k2,k3⟩:=HQ.out.2 e
      obtain ⟨k4,k5,k6⟩:=hq4 e
      exact ⟨k4.trans k1.symm,k5.trans k2.symm,k6.trans k3.symm⟩
    · obtain ⟨k1,k2,k3⟩:=HQ.out.1 e
      obtain ⟨k4,k5,k6⟩:=hq3 e
      exact ⟨k4.trans k1.symm,k5.trans k2.symm,k6.trans k3.symm⟩
  obtain ⟨rfl,rfl,rfl⟩:=hsame
  obtain ⟨ao',cap',rfl,hby3⟩:=owns_by hown3
  obtain ⟨W3,hW3⟩:∃W3,W3=w3.alloc (.cells #[.int .i64 rw2,.int .i64 rh2,.slice ao' l'.length cap'] 47):=⟨_,rfl⟩
  have hbW3:Below w3.heap.size w3 W3:=by rw [hW3];exact (Below.refl _ _).alloc (Nat.le_refl _) _
  have hs3:=hb3.size
  have hsW3:W3.heap.size=w3.heap.size+1:=by rw [hW3];simp
  have hb3':Below W2.heap.size W2 W3:=hb3.trans (hbW3.mono hs3)
  have hs12:W0.heap.size≤W2.heap.size:=by omega
  have HB3:=hide (HB2.out.trans (hb3'.mono hs12))
  have HL3:=hide (HL2.out.below hb3')
  have HOw3:=hide (owns_of_block HOw2.out (fun q hq=>hb3'.block q (HOw2.out.lt q hq).2))
  have HBy3:=hide (HBy2.out.below hb3')
  have HBz3:=hide (hby3.below hbW3)
  have HG3:=hide (row_below HG2.out hb3' hg2)
  have HR3:Hid (W3.rowIs w3.heap.size 47 3 (gr3 rw2 rh2 (.slice ao' l'.length cap'))):=by unfold Hid;rw [hW3];exact gr3_row _ _ _ _ _
  have hg3:w3.heap.size<W3.heap.size:=by omega
  have HW3:=hide hW3
  clear hb3 hown3 hby3 hq3 hq4 hbW3 hb3' hW3 hsW3 d0 d1 d2 d3 d4 d5 HW2 HQ
  go_wp2_with fail
  rw [←HW3.out]
  refine (lent_any _ _ _ _ _ A C n B X Y K _ (by omega) HN1.out HL3.out (HO.out.below HB3.out)).mono ?_
  rintro e w4 ⟨rfl,hb4⟩
  have hs4:=hb4.size
  have hs23:W0.heap.size≤W3.heap.size:=by omega
  have HB4:=hide (HB3.out.trans (hb4.mono hs23))
  have HL4:=hide (HL3.out.below hb4)
  have HOw4:=hide (owns_of_block HOw3.out (fun q hq=>hb4.block q (HOw3.out.lt q hq).2))
  have HBy4:=hide (HBy3.out.below hb4)
  have HBz4:=hide (HBz3.out.below hb4)
  have HG4:=hide (row_below HG3.out hb4 (by omega))
  have HR4:=hide (row_below HR3.out hb4 hg3)
  obtain ⟨e0,e1,e2⟩:=gr3_cells HG4.out
  obtain ⟨f0,f1,f2⟩:=gr3_cells HR4.out
  have hg4:=HG4.out.lt
  have hr4:=HR4.out.lt
  clear hb4 HW3
  go_wp2_with fail
  refine (sameGray_any ao ao' l'.length cap cap' rw2 rh2 _ _ (by omega) HBy4.out HBz4.out).mono ?_
  rintro e w5 ⟨rfl,hb5⟩
  have hs5:=hb5.size
  have hs34:W0.heap.size≤w4.heap.size:=by omega
  have HB5:=hide (HB4.out.trans (hb5.mono hs34))
  have HL5:=hide (HL4.out.below hb5)
  have HOw5:=hide (owns_of_block HOw4.out (fun q hq=>hb5.block q (HOw4.out.lt q hq).2))
  have HG5:=hide (row_below HG4.out hb5 hg4)
  have H5:=hide (HH0.out.below HB5.out)
  clear hb5 e0 e1 e2 f0 f1 f2 HR4 HBz4 HBy4
  go_wp2_with fail
  refine (outline_full W0.heap.size h W0.heap.size N (N+2) B _ _ s _ (by omega) H5.out (HL5.out.lists HH0.out.under (by omega) HN1.out) (by omega) (by omega)).mono ?_
  rintro e w6 ⟨rfl,hT6,s1,hI6,hn6,hcs,hrs,_,_,_,_,_,_,hB6e,hvB6,hU6⟩
  have HU6:=hide hU6
  have hnotS:∀q t,tyOf w5 q=some t→t≠37→t≠125→t≠129→t≠127→t≠132→¬outS h W0.heap.size (N+2) B s q:=fun q t ty t1 t2 t3 t4 t5=>ty_not_outS H5.out HL5.out ty t1 t2 t3 t4 t5
  have hO6:=owns_of_block HOw5.out (fun q hq=>hT6.block q (HOw5.out.lt q hq).2 (hnotS q _ (owns_ty HOw5.out hq) (by decide) (by decide) (by decide) (by decide) (by decide)))
  have hG6:=hT6.row HG5.out (hnotS _ _ (row_ty HG5.out) (by decide) (by decide) (by decide) (by decide) (by decide))
  have hF6:∀q,(Value.slice ao l'.length cap).ownBlock=some q→∀e∈s1.B,e.1≠some q:=fun q hq e he e1=>by
    rw [hB6e] at he
    have k1:=HUB.out e he q e1
    have k2:=(hO6.lt q hq).1
    omega
  have hsn:s1.n+1≤1099511627776:=by rw [hn6];omega
  have hBd:Below w6.heap.size w6 w6.drew:=(Below.refl _ _).drew
  have HCall:=hide (heldBytes_any h (.slice ao l'.length cap) s1 w6.drew (hI6.below hBd) (ByRow.of_owns hO6) hF6 hsn)
  have k2:=(gr3_cells hG6).2.2
  have hg6:=hG6.lt
  have HT6:=hide hT6
  have HI6:=hide (And.intro hI6 (And.intro hn6 (And.intro hcs (And.intro hrs hvB6))))
  have HO6:=hide hO6
  clear hU6 hT6 hI6 hn6 hcs hrs hB6e hvB6 hnotS hO6 hG6 hF6 hBd HOw5 HG5
  go_wp2_with fail
  go_region_with (go_at_call 47;refine HCall.out.mono ?_;rintro e w7 ⟨rfl,hT7,s2,hI7,hK7⟩)
  all_goals
    have HT7:=hide hT7
    have HI7:=hide (And.intro hI7 hK7)
    clear hT7 hI7 hK7 HCall
    go_wp2_with (go_at_call 27;refine (num_any _ _).mono ?_;rintro e w' ⟨rfl,rfl⟩)
    go_ret
    obtain ⟨hI7,hK7⟩:=HI7.out
    obtain ⟨hI6,hn6,hcs6,hrs6,hvB6⟩:=HI6.out
    have hs6:=HT6.out.size
    have hs7:=HT7.out.size
    have hdr:w6.drew.heap.size=w6.heap.size:=rfl
    refine ⟨rfl,?_,?_,s2,hI7,?_,hK7.cs.trans hcs6,hK7.rs.trans hrs6,?_⟩
    · have t6:=HT6.out.below (B:=w0.heap.size) (by omega) (fun q hq=>outS_ge H5.out hh (by omega) (fun i hi=>by have:=HL5.out.geB i hi;omega) hq)
      have t7:=HT7.out.below (B:=w0.heap.size) (by omega) (fun q hq=>by
        rcases hq with rfl | hq | hq
        · exact hh
        · have:=(hI6.oB.lt q hq).1;omega
        · have:=(HO6.out.lt q hq).1;omega)
      exact (((HBW.out.trans (HB5.out.mono (by omega))).mono hsz0).trans t6).drew.trans t7
    · have t5:Touch (Used h s) w w5:=(Touch.refl _ w).of_below (HBW.out.trans (HB5.out.mono (by omega)))
      have t6:=t5.trans' HT6.out (fun q hq=>outS_used (B0:=w.heap.size) (by omega) (fun i hi=>by have:=HL5.out.geB i hi;omega) hq)
      refine t6.drew.trans' HT7.out (fun q hq=>?_)
      rcases hq with rfl | hq | hq
      · exact .inl (.inl rfl)
      · rw [hvB6] at hq
        exact .inl (.inr (.inr (.inr (.inr (.inr (.inr (.inr (.inr (.inr (.inr (.inr (.inr (.inr (.inl hq))))))))))))))
      · have:=(HO6.out.lt q hq).1
        exact .inr (by omega)
    · rw [hK7.n,hn6];omega
    · have hsw5:w.heap.size≤w5.heap.size:=by omega
      refine NewUsed.trans (s1:=s1) (fun q hq=>?_) (hK7.used (by omega) (fun q hq=>by have:=(HO6.out.lt q hq).1;omega))
      rcases HU6.out q hq with h1 | h1 | h1
      · exact .inl h1
      · exact outS_used (B0:=w.heap.size) (by omega) (fun i hi=>by have:=HL5.out.geB i hi;omega) h1
      · exact .inr (by omega)
def grayL (W H:Nat) (A:Nat→Nat→Int) (x y a b:Int):List Int:=if grayB W H x y a b=true then pixL A x.toNat y.toNat a.toNat (a.toNat*b.toNat) else []
def grayS (W H:Nat) (x y a b z:Int):Int:=if grayB W H x y a b=true then z else 0
def grayE (W H:Nat) (x y a b:Int):Int:=if grayB W H x y a b=true then 0 else 6
theorem grayL_small {W H:Nat} {A:Nat→Nat→Int} {x y a b:Int} (hW:1≤W∧W≤64) (hH:1≤H∧H≤64):(grayL W H A x y a b).length≤4096:=by
  unfold grayL
  split
  · rename_i h
    obtain ⟨x',y',a',b',rfl,rfl,rfl,rfl,ha,hb⟩:=grayB_yes h
    rw [pixL_len]
    have h1:a'≤64:=by omega
    have h2:b'≤64:=by omega
    simpa using Nat.mul_le_mul h1 h2
  · simp
theorem grayL_congr {W H:Nat} {A A':Nat→Nat→Int} {x y a b:Int} (h:∀i j,i<W→j<H→A i j=A' i j):grayL W H A x y a b=grayL W H A' x y a b:=by
  unfold grayL
  split
  · rename_i hb
    obtain ⟨x',y',a',b',rfl,rfl,rfl,rfl,ha,hb'⟩:=grayB_yes hb
    simp only [Int.toNat_natCast]
    unfold pixL
    refine List.map_congr_left fun q hq=>?_
    have hq:q<a'*b':=List.mem_range.1 hq
    have h1:q % a'<a':=Nat.mod_lt _ (by omega)
    have h2:q / a'<b':=Nat.div_lt_of_lt_mul hq
    rw [h _ _ (by omega) (by omega)]
  · rfl
theorem glyphGray_all (bk W H tk:Nat) (x y a b:Int) (tt:TypeId) (A:Nat→Nat→Int) (P st:Int) (S:Nat→Prop) (w:World) (hC:Cnv w bk tt W H tk A P S st) (hW:1≤W∧W≤64) (hH:1≤H∧H≤64) (hP:P≤140737488355328)
    (hA:∀i j,i<W→j<H → -9000000000000000000≤A i j∧A i j≤9000000000000000000) :
    Calls Tryz.prog 112 #[.pointer (some ⟨bk,0,none⟩),.int .i64 x,.int .i64 y,.int .i64 a,.int .i64 b] w fun e w'=>∃v,e=.returned (.tuple #[.agg #[.int .i64 (grayS W H x y a b a),.int .i64 (grayS W H x y a b b),v],.int .i64 (grayE W H x y a b)])∧Below w.heap.size w w'∧w'.ownsRow w.heap.size 5 1 v (grayL W H A x y a b).length (u8C (grayL W H A x y a b)):=by
  cases hg:grayB W H x y a b
  · refine (glyphGray_no bk W H tk x y a b tt A P st S w hC hW hH hg).mono ?_
    rintro e w' ⟨he,hb⟩
    refine ⟨.slice none 0 0,?_,hb,?_⟩
    · rw [he];simp [grayS,grayE,hg]
    · simp [grayL,hg,u8C];exact World.ownsRow_nil _ _ _ _
  · have hg2:=hg
    obtain ⟨x',y',a',b',rfl,rfl,rfl,rfl,ha,hb'⟩:=grayB_yes hg
    refine (glyphGray_any bk W H tk x' y' a' b' tt A P st S w hC hW hH hP ha hb' hA).mono ?_
    rintro e w' ⟨v,he,hb,ho⟩
    refine ⟨v,?_,hb,?_⟩
    · rw [he];simp [grayS,grayE,hg2]
    · have e1:grayL W H A x' y' a' b'=pixL A x' y' a' (a'*b'):=by simp [grayL,hg2]
      rw [e1,pixL_len]
      exact ho
theorem refGray_all (rb W H k:Nat) (x y a b:Int) (VR:Nat→Value) (VV:Nat→Nat→Value) (NN:Nat→Nat) (LL:Nat→Nat→List (Int×Int)) (sg:Nat→Int) (vR vS:Value) (w:World) (hR:Rcv w rb W H k VR VV NN LL sg vR vS) (hW:1≤W∧W≤64) (hH:1≤H∧H≤64) :
    Calls Tryz.prog 91 #[.pointer (some ⟨rb,0,none⟩),.int .i64 x,.int .i64 y,.int .i64 a,.int .i64 b] w fun e w'=>∃v,e=.returned (.tuple #[.agg #[.int .i64 (grayS W H x y a b a),.int .i64 (grayS W H x y a b b),v],.int .i64 (grayE W H x y a b)])∧Below w.heap.size w w'∧w'.ownsRow w.heap.size 5 1 v (grayL W H (histP NN LL sg k) x y a b).length (u8C (grayL W H (histP NN LL sg k) x y a b)):=by
  cases hg:grayB W H x y a b
  · refine (refGray_no rb W H k x y a b VR VV NN LL sg vR vS w hR hW hH hg).mono ?_
    rintro e w' ⟨he,hb⟩
    refine ⟨.slice none 0 0,?_,hb,?_⟩
    · rw [he];simp [grayS,grayE,hg]
    · simp [grayL,hg,u8C];exact World.ownsRow_nil _ _ _ _
  · have hg2:=hg
    obtain ⟨x',y',a',b',rfl,rfl,rfl,rfl,ha,hb'⟩:=grayB_yes hg
    refine (refGray_any rb W H k x' y' a' b' VR VV NN LL sg vR vS w hR hW hH ha hb').mono ?_
    rintro e w' ⟨v,he,hb,ho⟩
    refine ⟨v,?_,hb,?_⟩
    · rw [he];simp [grayS,grayE,hg2]
    · have e1:grayL W H (histP NN LL sg k) x' y' a' b'=pixL (histP NN LL sg k) x' y' a' (a'*b'):=by simp [grayL,hg2]
      rw [e1,pixL_len]
      exact ho
set_option maxRecDepth 100000 in
theorem grays_any (h k K:Nat) (x y a b:Int) (s:HS) (B R:Nat→Nat) (F:Nat→Nat→Prop) (w:World) (H:HeldInv w h s) (C:Cans w h s K B R F) (hk:k<K) (hs:s.n+1≤1099511627776) :
    Calls Tryz.prog 62 #[.pointer (some ⟨h,0,none⟩),.int .i64 k,.int .i64 x,.int .i64 y,.int .i64 a,.int .i64 b] w fun e w'=>e=.returned (.bool true)∧Below h w w'∧∃s',HeldInv w' h s'∧Cans w' h s' K B R F∧s'.n=s.n+1:=by
  obtain ⟨g,cap,g',cap',e1,e2,d1,d2,l1,l2⟩:=C.at hk
  have c0:w.cell? ⟨h,0,none⟩=some (.slice (some ⟨g,0,none⟩) K cap):=by rw [H.wd.cell (i:=0) (by omega),←e1];rfl
  have c1:w.cell? ⟨h,1,none⟩=some (.slice (some ⟨g',0,none⟩) K cap'):=by rw [H.wd.cell (i:=1) (by omega),←e2];rfl
  have hhl:=H.wd.lt
  have HUB:=hide H.underB
  obtain ⟨W,HH,tk,A,S,st,VR,VV,NN,LL,sg,vR,vS,hC,hR,hW,hH,hsm,hF,hap,hlt⟩:=C.pair k hk
  have htk:=hR.most
  have hbd:∀i j,i<W→j<HH → -9000000000000000000≤A i j∧A i j≤9000000000000000000:=fun i j hi hj=>by
    rw [hsm i j hi hj]
    have:=histA_bd (NN:=NN) (LL:=LL) (sg:=sg) (m:=tk) (i:Int) (j:Int) hR.fits hR.sgn tk (Nat.le_refl _)
    omega
  have HGr:=hide (glyphGray_all (B k) W HH tk x y a b _ A _ st S w hC hW hH (by omega) hbd)
  have hA:grayL W HH (histP NN LL sg tk) x y a b=grayL W HH A x y a b:=grayL_congr fun i j hi hj=>(hsm i j hi hj).symm
  have hsmall:(grayL W HH A x y a b).length≤4096:=grayL_small hW hH
  have HRc:=hide hR
  have HWH:=hide (And.intro hW hH)
  have HA:=hide hA
  have g0:(0:Int)≤(k:Int):=by omega
  have g1:(k:Int)<(K:Int):=by omega
  obtain ⟨l,hl⟩:∃l,l=grayL W HH A x y a b:=⟨_,rfl⟩
  obtain ⟨r1,hr1⟩:∃z,z=grayS W HH x y a b a:=⟨_,rfl⟩
  obtain ⟨r2,hr2⟩:∃z,z=grayS W HH x y a b b:=⟨_,rfl⟩
  obtain ⟨rE,hrE⟩:∃z,z=grayE W HH x y a b:=⟨_,rfl⟩
  rw [←hl] at hsmall HA
  rw [←hl,←hr1,←hr2,←hrE] at HGr
  have HE:=hide (And.intro hr1 (And.intro hr2 hrE))
  have HH0:=hide H
  have HC:=hide C
  clear H C e1 e2 hC hR hW hH hsm hF hap hlt hA hbd hl hr1 hr2 hrE
  go_enter Tryz.func62,Tryz.ntmps62
  go_wp2_with fail
  refine HGr.out.mono ?_
  rintro e w2 ⟨v,rfl,hb2,hown⟩
  obtain ⟨ao,cap2,rfl,hby⟩:=owns_by hown
  obtain ⟨W2,hW2⟩:∃W2,W2=w2.alloc (.cells #[.int .i64 r1,.int .i64 r2,.slice ao l.length cap2] 47):=⟨_,rfl⟩
  have hbW2:Below w2.heap.size w2 W2:=by rw [hW2];exact (Below.refl _ _).alloc (Nat.le_refl _) _
  have hs2:=hb2.size
  have hsW2:W2.heap.size=w2.heap.size+1:=by rw [hW2];simp
  have hb2':Below w.heap.size w W2:=hb2.trans (hbW2.mono hs2)
  have HB2:=hide hb2'
  have HOw2:=hide (owns_of_block hown (fun q hq=>hbW2.block q (hown.lt q hq).2))
  have HBy2:=hide (hby.below hbW2)
  have HG2:Hid (W2.rowIs w2.heap.size 47 3 (gr3 r1 r2 (.slice ao l.length cap2))):=by unfold Hid;rw [hW2];exact gr3_row _ _ _ _ _
  have hg2:w2.heap.size<W2.heap.size:=by omega
  have HW2:=hide hW2
  have q1:=(hb2.cell (p:=⟨h,1,none⟩) hhl).trans c1
  have q2:=(hb2.cell (p:=⟨g',k,none⟩) l2).trans d2
  have hh2:h<w2.heap.size:=by omega
  have hgg2:g'<w2.heap.size:=by omega
  clear hb2 hown hby hbW2 hb2' hW2 c0 c1 d1 d2 HGr
  go_wp2_with fail
  rw [←HW2.out]
  refine (refGray_all (R k) W HH tk x y a b VR VV NN LL sg vR vS W2 (HRc.out.below HB2.out) HWH.out.1 HWH.out.2).mono ?_
  rw [HA.out,←HE.out.1,←HE.out.2.1,←HE.out.2.2]
  rintro e w3 ⟨v',rfl,hb3,hown3⟩
  obtain ⟨ao',cap3,rfl,hby3⟩:=owns_by hown3
  obtain ⟨W3,hW3⟩:∃W3,W3=w3.alloc (.cells #[.int .i64 r1,.int .i64 r2,.slice ao' l.length cap3] 47):=⟨_,rfl⟩
  have hbW3:Below w3.heap.size w3 W3:=by rw [hW3];exact (Below.refl _ _).alloc (Nat.le_refl _) _
  have hs3:=hb3.size
  have hsW3:W3.heap.size=w3.heap.size+1:=by rw [hW3];simp
  have hb3':Below W2.heap.size W2 W3:=hb3.trans (hbW3.mono hs3)
  have hsw2:w.heap.size≤W2.heap.size:=by omega
  have HB3:=hide (HB2.out.trans (hb3'.mono hsw2))
  have HOw3:=hide (owns_of_block HOw2.out (fun q hq=>hb3'.block q (HOw2.out.lt q hq).2))
  have HBy3:=hide (HBy2.out.below hb3')
  have HBz3:=hide (hby3.below hbW3)
  have HG3:=hide (row_below HG2.out hb3' hg2)
  have HR3:Hid (W3.rowIs w3.heap.size 47 3 (gr3 r1 r2 (.slice ao' l.length cap3))):=by unfold Hid;rw [hW3];exact gr3_row _ _ _ _ _
  have hg3:w3.heap.size<W3.heap.size:=by omega
  have hg3':w2.heap.size<W3.heap.size:=by omega
  have HW3:=hide hW3
  obtain ⟨e0,e1,e2⟩:=gr3_cells HG3.out
  obtain ⟨f0,f1,f2⟩:=gr3_cells HR3.out
  clear hb3 hown3 hby3 hbW3 hb3' hW3 q1 q2
  have e0':w3.cell? ⟨w2.heap.size,0,none⟩=some (.int .i64 r1):=by rw [←e0,HW3.out];exact (World.cell?_of_block (w:=w3) (blk_alloc_lt _ _ _ (by simp;omega))).symm
  have e1':w3.cell? ⟨w2.heap.size,1,none⟩=some (.int .i64 r2):=by rw [←e1,HW3.out];exact (World.cell?_of_block (w:=w3) (blk_alloc_lt _ _ _ (by simp;omega))).symm
  have e2':w3.cell? ⟨w2.heap.size,2,none⟩=some (.slice ao l.length cap2):=by rw [←e2,HW3.out];exact (World.cell?_of_block (w:=w3) (blk_alloc_lt _ _ _ (by simp;omega))).symm
  have hg3w:w2.heap.size<w3.heap.size:=by omega
  clear e0 e1 e2 f0 f1 f2
  go_wp2_with fail
  rw [←HW3.out]
  refine (sameGray_any ao ao' l.length cap2 cap3 r1 r2 _ _ (by omega) HBy3.out HBz3.out).mono ?_
  rintro e w5 ⟨rfl,hb5⟩
  have hs5:=hb5.size
  have hsw3:w.heap.size≤W3.heap.size:=by omega
  have HB5:=hide (HB3.out.trans (hb5.mono hsw3))
  have hO5:=owns_of_block HOw3.out (fun q hq=>hb5.block q (HOw3.out.lt q hq).2)
  have hG5:=row_below HG3.out hb5 hg3'
  have hI5:=HH0.out.below HB5.out
  have hF6:∀q,(Value.slice ao l.length cap2).ownBlock=some q→∀e∈s.B,e.1≠some q:=fun q hq e he e1=>by
    have k1:=HUB.out e he q e1
    have k2:=(hO5.lt q hq).1
    omega
  have hBd:Below w5.heap.size w5 w5.drew:=(Below.refl _ _).drew
  have HCall:=hide (heldBytes_any h (.slice ao l.length cap2) s w5.drew (hI5.below hBd) (ByRow.of_owns hO5) hF6 hs)
  have k2:=(gr3_cells hG5).2.2
  have hg5:=hG5.lt
  have HO5:=hide hO5
  clear hb5 e0' e1' e2' hO5 hG5 hI5 hF6 hBd
  go_wp2_with fail
  go_region_with (go_at_call 47;refine HCall.out.mono ?_;rintro e w7 ⟨rfl,hT7,s2,hI7,hK7⟩)
  all_goals
    have HT7:=hide hT7
    have HI7:=hide (And.intro hI7 hK7)
    clear hT7 hI7 hK7 HCall
    go_wp2_with (go_at_call 27;refine (num_any _ _).mono ?_;rintro e w' ⟨rfl,hw'⟩;rw [hw'];clear hw')
    go_ret
    obtain ⟨hI7,hK7⟩:=HI7.out
    have hs7:=HT7.out.size
    have hdr:w5.drew.heap.size=w5.heap.size:=rfl
    have hge:∀q,(Value.slice ao l.length cap2).ownBlock=some q→w.heap.size≤q:=fun q hq=>(HO5.out.lt q hq).1
    have t5:Touch (Used h s) w w5.drew:=((Touch.refl _ w).of_below HB5.out).drew
    have t7:Touch (Used h s) w w7:=t5.trans' HT7.out (fun q hq=>by
      rcases hq with rfl | hq | hq
      · exact .inl (.inl rfl)
      · exact .inl (used_vB hq)
      · exact .inr (hge q hq))
    refine ⟨rfl,?_,s2,hI7,HC.out.step t7 (hK7.used (by omega) hge) hK7.cs hK7.rs,hK7.n⟩
    have b5:Below h w w5.drew:=(HB5.out.mono (by omega)).drew
    exact b5.trans (HT7.out.below (by omega) (fun q hq=>by
      rcases hq with rfl | hq | hq
      · exact Nat.le_refl _
      · exact (HH0.out.oB.lt q hq).1
      · have:=hge q hq;omega))
def lpickV (c n:Int):Int:=(if c<0 then -(c+1) else c).tmod n
theorem lpickV_rng (c n:Int) (hn:0<n):0≤lpickV c n∧lpickV c n<n:=by
  unfold lpickV
  split
  · exact ⟨Int.tmod_nonneg _ (by omega),Int.tmod_lt_of_pos _ hn⟩
  · exact ⟨Int.tmod_nonneg _ (by omega),Int.tmod_lt_of_pos _ hn⟩
theorem lpick_any (c n:Int) (w:World) (h1:-9223372036854775808≤c) (h2:c≤9223372036854775807) (hn:1≤n∧n≤1099511627776) :
    Calls Tryz.prog 57 #[.int .i64 c,.int .i64 n] w fun e w'=>e=.returned (.int .i64 (lpickV c n))∧w'=w:=by
  by_cases h:c<0
  · have HE:Hid (lpickV c n=(-(c+1)).tmod n):=by unfold Hid lpickV;rw [if_pos h]
    have r:=lpickV_rng c n (by omega)
    rw [HE.out] at r
    go_enter Tryz.func57,Tryz.ntmps57
    go_wp2
    go_ret
    exact ⟨ret_int (by rw [HE.out];first | rfl | rw [Int.neg_tmod] | (rw [Int.tmod_eq_emod_of_nonneg (by omega)])),rfl⟩
  · have HE:Hid (lpickV c n=c.tmod n):=by unfold Hid lpickV;rw [if_neg h]
    have r:=lpickV_rng c n (by omega)
    rw [HE.out] at r
    go_enter Tryz.func57,Tryz.ntmps57
    go_wp2
    go_ret
    exact ⟨ret_int (by rw [HE.out];first | rfl | rw [Int.neg_tmod] | (rw [Int.tmod_eq_emod_of_nonneg (by omega)])),rfl⟩
def CanQ (w0 w:World) (h:Nat) (s:HS) (K N:Nat) (w':World):Prop:=
  Below w0.heap.size w w'∧∃(s':HS) (K':Nat) (B' R':Nat→Nat) (F':Nat→Nat→Prop),HeldInv w' h s'∧Cans w' h s' K' B' R' F'∧s'.n≤s.n+N+24∧K'≤K+1
set_option maxRecDepth 100000 in
theorem canvas_any (h K:Nat) (kd a b c d kk:Int) (ad:Option Addr) (N cc:Nat) (A:Nat→Option Addr) (C n:Nat→Nat) (X Y KD:Nat→Nat→Int) (m0 m1 m2 m3 m4 m5 g0 g1 g2 g3 g4 g5 g6 g7 g8 uw uh:Int) (ua:Option Addr) (un uc:Nat) (vw vh:Int) (va:Option Addr) (vn vc:Nat) (tx:ByteArray) (s:HS) (B R:Nat→Nat) (F:Nat→Nat→Prop) (w0 w:World)
    (hN:N≤2097152) (hn:∀i,i<N→n i≤2097152) (hS:Num.sumN n N≤1099511627776) (ho:OutAt w0 ad N A C n X Y KD) (hkk:-9223372036854775808≤kk∧kk≤9223372036854775807)
    (hb0:Below w0.heap.size w0 w) (hh:w0.heap.size≤h) (H:HeldInv w h s) (CC:Cans w h s K B R F) (hK:K≤1099511627776) (hs:s.n+N+24≤1099511627776) :
    Calls Tryz.prog 17 #[.pointer (some ⟨h,0,none⟩),.agg #[.int .i64 kd,.int .i64 a,.int .i64 b,.int .i64 c,.int .i64 d,.int .i64 kk,.slice ad N cc,.int .i64 m0,.int .i64 m1,.int .i64 m2,.int .i64 m3,.int .i64 m4,.int .i64 m5,.int .i64 g0,.int .i64 g1,.int .i64 g2,.int .i64 g3,.int .i64 g4,.int .i64 g5,.int .i64 g6,.int .i64 g7,.int .i64 g8,.int .i64 uw,.int .i64 uh,.slice ua un uc,.int .i64 vw,.int .i64 vh,.slice va vn vc,.string tx]] w fun e w'=>e=.returned (.bool true)∧CanQ w0 w h s K N w':=by
  have hsz0:=hb0.size
  have hhw:=H.wd.lt
  obtain ⟨ao,cap,hcs,_⟩:=owns_formN CC.oC
  have c0:w.cell? ⟨h,0,none⟩=some (.slice ao K cap):=by rw [H.wd.cell (i:=0) (by omega),←hcs];rfl
  have stay:∀w1,Below w.heap.size w w1→CanQ w0 w h s K N w1:=fun w1 hb=>⟨hb.mono hsz0,s,K,B,R,F,H.below hb,CC.below hb,by omega,by omega⟩
  have HStay:=hide stay
  by_cases h1:kd=1
  · subst h1
    have HC:Hid (∀w1,Below w.heap.size w w1→Calls Tryz.prog 56 #[.pointer (some ⟨h,0,none⟩),.int .i64 a,.int .i64 b,.int .i64 c] w1 fun e w'=>e=.returned (.bool true)∧CanQ w0 w h s K N w'):=fun w1 hb=>
      (news_any h K a b c s B R F w1 (H.below hb) (CC.below hb) hK).mono fun e w' ⟨he,hbe,s',K',B',R',F',hI,hC,hn,hk⟩=>⟨he,(hb.mono hsz0).trans (hbe.mono hh),s',K',B',R',F',hI,hC,by omega,hk⟩
    clear H CC hcs c0 stay HStay ho hn
    go_enter Tryz.func17,Tryz.ntmps17
    go_wp2_with fail
    refine (HC.out _ (by (repeat any_goals first | exact .refl _ _ | assumption | refine .drew ?_ | refine below_drewN ?_ _ | refine .setCell ?_ ?_ _ | refine .alloc ?_ ?_ _ | omega | (simp <;> omega)))).mono ?_
    rintro e w' ⟨rfl,hq⟩
    have HQ:=hide hq
    clear hq
    go_wp2
    go_ret
    exact ⟨rfl,HQ.out⟩
  by_cases h0:K=0
  · subst h0
    clear H CC hcs stay ho hn
    go_enter Tryz.func17,Tryz.ntmps17
    go_wp2
    go_ret
    exact ⟨rfl,HStay.out _ (by (repeat any_goals first | exact .refl _ _ | assumption | refine .drew ?_ | refine below_drewN ?_ _ | refine .setCell ?_ ?_ _ | refine .alloc ?_ ?_ _ | omega | (simp <;> omega)))⟩
  have hK1:¬(K:Int)=0:=by omega
  have hr:=lpickV_rng kk K (by omega)
  obtain ⟨k,hk⟩:∃k:Nat,(k:Int)=lpickV kk K:=⟨(lpickV kk K).toNat,by omega⟩
  have hkK:k<K:=by omega
  have HPk:Hid (∀w1,Calls Tryz.prog 57 #[.int .i64 kk,.int .i64 K] w1 fun e w'=>e=.returned (.int .i64 k)∧w'=w1):=fun w1=>by
    rw [hk];exact lpick_any kk K w1 hkk.1 hkk.2 (by omega)
  by_cases h2:kd=2
  · subst h2
    have HC:Hid (∀w1,Below w.heap.size w w1→Calls Tryz.prog 58 #[.pointer (some ⟨h,0,none⟩),.int .i64 k,.slice ad N cc,.agg #[.int .i64 m0,.int .i64 m1,.int .i64 m2,.int .i64 m3,.int .i64 m4,.int .i64 m5],.int .i64 1] w1 fun e w'=>e=.returned (.bool true)∧CanQ w0 w h s K N w'):=fun w1 hb=>
      (takes_any ad N cc h k K A C n X Y KD m0 m1 m2 m3 m4 m5 1 s B R F w0 w1 hN hn hS ho (hb0.trans (hb.mono hsz0)) hh (H.below hb) (CC.below hb) hkK hs (.inl rfl)).mono fun e w' ⟨he,hbe,s',F',hI,hC,hn⟩=>⟨he,(hb.mono hsz0).trans hbe,s',K,B,R,F',hI,hC,hn,by omega⟩
    clear H CC hcs stay HStay ho hn hr hk hkk
    go_enter Tryz.func17,Tryz.ntmps17
    go_wp2_with fail
    go_quiet ((go_at_call 57;refine Calls.quiet_of_same (HPk.out _)))
    go_wp2_with fail
    refine (HC.out _ (by (repeat any_goals first | exact .refl _ _ | assumption | refine .drew ?_ | refine below_drewN ?_ _ | refine .setCell ?_ ?_ _ | refine .alloc ?_ ?_ _ | omega | (simp <;> omega)))).mono ?_
    rintro e w' ⟨rfl,hq⟩
    have HQ:=hide hq
    clear hq
    go_wp2
    go_ret
    exact ⟨rfl,HQ.out⟩
  by_cases h3:kd=3
  · subst h3
    have HC:Hid (∀w1,Below w.heap.size w w1→Calls Tryz.prog 58 #[.pointer (some ⟨h,0,none⟩),.int .i64 k,.slice ad N cc,.agg #[.int .i64 m0,.int .i64 m1,.int .i64 m2,.int .i64 m3,.int .i64 m4,.int .i64 m5],.int .i64 (-1)] w1 fun e w'=>e=.returned (.bool true)∧CanQ w0 w h s K N w'):=fun w1 hb=>
      (takes_any ad N cc h k K A C n X Y KD m0 m1 m2 m3 m4 m5 (-1) s B R F w0 w1 hN hn hS ho (hb0.trans (hb.mono hsz0)) hh (H.below hb) (CC.below hb) hkK hs (.inr rfl)).mono fun e w' ⟨he,hbe,s',F',hI,hC,hn⟩=>⟨he,(hb.mono hsz0).trans hbe,s',K,B,R,F',hI,hC,hn,by omega⟩
    clear H CC hcs stay HStay ho hn hr hk hkk
    go_enter Tryz.func17,Tryz.ntmps17
    go_wp2_with fail
    go_quiet ((go_at_call 57;refine Calls.quiet_of_same (HPk.out _)))
    go_wp2_with fail
    refine (HC.out _ (by (repeat any_goals first | exact .refl _ _ | assumption | refine .drew ?_ | refine below_drewN ?_ _ | refine .setCell ?_ ?_ _ | refine .alloc ?_ ?_ _ | omega | (simp <;> omega)))).mono ?_
    rintro e w' ⟨rfl,hq⟩
    have HQ:=hide hq
    clear hq
    go_wp2
    go_ret
    exact ⟨rfl,HQ.out⟩
  by_cases h4:kd=4
  · subst h4
    have HC:Hid (∀w1,Below w.heap.size w w1→Calls Tryz.prog 59 #[.pointer (some ⟨h,0,none⟩),.int .i64 k] w1 fun e w'=>e=.returned (.bool true)∧CanQ w0 w h s K N w'):=fun w1 hb=>
      (clears_any h k K s B R F w1 (H.below hb) (CC.below hb) hkK).mono fun e w' ⟨he,hbe,hI,F',hC⟩=>⟨he,(hb.mono hsz0).trans (hbe.mono hh),s,K,B,R,F',hI,hC,by omega,by omega⟩
    clear H CC hcs stay HStay ho hn hr hk hkk
    go_enter Tryz.func17,Tryz.ntmps17
    go_wp2_with fail
    go_quiet ((go_at_call 57;refine Calls.quiet_of_same (HPk.out _)))
    go_wp2_with fail
    refine (HC.out _ (by (repeat any_goals first | exact .refl _ _ | assumption | refine .drew ?_ | refine below_drewN ?_ _ | refine .setCell ?_ ?_ _ | refine .alloc ?_ ?_ _ | omega | (simp <;> omega)))).mono ?_
    rintro e w' ⟨rfl,hq⟩
    have HQ:=hide hq
    clear hq
    go_wp2
    go_ret
    exact ⟨rfl,HQ.out⟩
  by_cases h5:kd=5
  · subst h5
    have HC:Hid (∀w1,Below w.heap.size w w1→Calls Tryz.prog 60 #[.pointer (some ⟨h,0,none⟩),.int .i64 k] w1 fun e w'=>e=.returned (.bool true)∧CanQ w0 w h s K N w'):=fun w1 hb=>
      (counts_any h k K s B R F w1 (H.below hb) (CC.below hb) hkK).mono fun e w' ⟨he,hbe⟩=>⟨he,by rw [hbe];exact HStay.out w1 hb⟩
    clear H CC hcs stay HStay ho hn hr hk hkk
    go_enter Tryz.func17,Tryz.ntmps17
    go_wp2_with fail
    go_quiet ((go_at_call 57;refine Calls.quiet_of_same (HPk.out _)))
    go_wp2_with fail
    refine (HC.out _ (by (repeat any_goals first | exact .refl _ _ | assumption | refine .drew ?_ | refine below_drewN ?_ _ | refine .setCell ?_ ?_ _ | refine .alloc ?_ ?_ _ | omega | (simp <;> omega)))).mono ?_
    rintro e w' ⟨rfl,hq⟩
    have HQ:=hide hq
    clear hq
    go_wp2
    go_ret
    exact ⟨rfl,HQ.out⟩
  by_cases h6:kd=6
  · subst h6
    have HC:Hid (∀w1,Below w.heap.size w w1→Calls Tryz.prog 61 #[.pointer (some ⟨h,0,none⟩),.int .i64 k,.int .i64 a,.int .i64 b] w1 fun e w'=>e=.returned (.bool true)∧CanQ w0 w h s K N w'):=fun w1 hb=>
      (areas_any h k K a b s B R F w1 (H.below hb) (CC.below hb) hkK).mono fun e w' ⟨he,hbe⟩=>⟨he,HStay.out w' (hb.trans (hbe.mono hb.size))⟩
    clear H CC hcs stay HStay ho hn hr hk hkk
    go_enter Tryz.func17,Tryz.ntmps17
    go_wp2_with fail
    go_quiet ((go_at_call 57;refine Calls.quiet_of_same (HPk.out _)))
    go_wp2_with fail
    refine (HC.out _ (by (repeat any_goals first | exact .refl _ _ | assumption | refine .drew ?_ | refine below_drewN ?_ _ | refine .setCell ?_ ?_ _ | refine .alloc ?_ ?_ _ | omega | (simp <;> omega)))).mono ?_
    rintro e w' ⟨rfl,hq⟩
    have HQ:=hide hq
    clear hq
    go_wp2
    go_ret
    exact ⟨rfl,HQ.out⟩
  by_cases h7:kd=7
  · subst h7
    have HC:Hid (∀w1,Below w.heap.size w w1→Calls Tryz.prog 62 #[.pointer (some ⟨h,0,none⟩),.int .i64 k,.int .i64 a,.int .i64 b,.int .i64 c,.int .i64 d] w1 fun e w'=>e=.returned (.bool true)∧CanQ w0 w h s K N w'):=fun w1 hb=>
      (grays_any h k K a b c d s B R F w1 (H.below hb) (CC.below hb) hkK (by omega)).mono fun e w' ⟨he,hbe,s',hI,hC,hn⟩=>⟨he,(hb.mono hsz0).trans (hbe.mono hh),s',K,B,R,F,hI,hC,by omega,by omega⟩
    clear H CC hcs stay HStay ho hn hr hk hkk
    go_enter Tryz.func17,Tryz.ntmps17
    go_wp2_with fail
    go_quiet ((go_at_call 57;refine Calls.quiet_of_same (HPk.out _)))
    go_wp2_with fail
    refine (HC.out _ (by (repeat any_goals first | exact .refl _ _ | assumption | refine .drew ?_ | refine below_drewN ?_ _ | refine .setCell ?_ ?_ _ | refine .alloc ?_ ?_ _ | omega | (simp <;> omega)))).mono ?_
    rintro e w' ⟨rfl,hq⟩
    have HQ:=hide hq
    clear hq
    go_wp2
    go_ret
    exact ⟨rfl,HQ.out⟩
  clear H CC hcs stay ho hn hr hk hkk
  go_enter Tryz.func17,Tryz.ntmps17
  go_wp2_with fail
  go_quiet ((go_at_call 57;refine Calls.quiet_of_same (HPk.out _)))
  go_wp2
  go_ret
  exact ⟨rfl,HStay.out _ (by (repeat any_goals first | exact .refl _ _ | assumption | refine .drew ?_ | refine below_drewN ?_ _ | refine .setCell ?_ ?_ _ | refine .alloc ?_ ?_ _ | omega | (simp <;> omega)))⟩
def StepOk (w0:World) (h:Nat) (o:OpV):Prop:=∀(w:World) (s:HS) (K:Nat) (B R:Nat→Nat) (F:Nat→Nat→Prop),Below w0.heap.size w0 w→HeldInv w h s→Cans w h s K B R F→K≤1099511627776→s.n+o.N+24≤1099511627776 →
  Calls Tryz.prog 5 #[.pointer (some ⟨h,0,none⟩),.agg (opL o).toArray] w fun e w'=>e=.returned (.bool true)∧CanQ w0 w h s K o.N w'
theorem info_op:(Tryz.prog.info? 49).map (·.size)=some 29:=by kernel_rfl
theorem op_range (cs:List Value) (w:World) (t:TypeId):(w.alloc (.cells cs.toArray t)).rangeAt w.heap.size 0 cs:=by
  intro j v hv
  have hj:j<cs.length:=by
    rcases Nat.lt_or_ge j cs.length with h | h
    · exact h
    · rw [List.getElem?_eq_none h] at hv;cases hv
  have h:=World.rowIs_alloc w cs.toArray t (fun q=>cs[q]?.getD undef) (fun i hi=>by
    have hi:i<cs.length:=by simpa using hi
    simp [hi])
  have c:=h.cell (i:=j) (by simpa using hj)
  rw [Nat.zero_add,c,hv]
  rfl
set_option maxRecDepth 100000 in
theorem stepLow (w0:World) (h:Nat) (o:OpV) (q:Nat) (hq:q≤1048576) (ha:OpAt w0 o q) (hh:w0.heap.size≤h) (hk:o.kd≤7):StepOk w0 h o:=by
  intro w s K B R F hb0 H CC hK hs
  have hsz0:=hb0.size
  have hhw:=H.wd.lt
  have HC:Hid (∀w1,Below w.heap.size w w1→Calls Tryz.prog 17 #[.pointer (some ⟨h,0,none⟩),.agg (opL o).toArray] w1 fun e w'=>e=.returned (.bool true)∧CanQ w0 w h s K o.N w'):=fun w1 hb=>
    (canvas_any h K o.kd o.a o.b o.c o.d o.k o.ad o.N o.cc o.A o.C o.n o.X o.Y o.K o.m0 o.m1 o.m2 o.m3 o.m4 o.m5 o.g0 o.g1 o.g2 o.g3 o.g4 o.g5 o.g6 o.g7 o.g8 o.uw o.uh o.ua o.un o.uc o.vw o.vh o.va o.vn o.vc o.t s B R F w0 w1 (by have:=ha.hN;omega) (fun i hi=>by have:=ha.hn i hi;omega) (by have:=ha.hS;omega) ha.out ha.hk (hb0.trans (hb.mono hsz0)) hh (H.below hb) (CC.below hb) hK hs).mono fun e w' ⟨he,hbe,r⟩=>⟨he,(hb.mono hsz0).trans hbe,r⟩
  obtain ⟨cs,hcs⟩:∃cs,cs=opL o:=⟨_,rfl⟩
  have hlen:cs.length=29:=by rw [hcs];rfl
  have q0:(w.alloc (.cells cs.toArray 49)).cell? ⟨w.heap.size,0,none⟩=some (.int .i64 o.kd):=op_range cs w _ 0 _ (by rw [hcs];rfl)
  have HR:=hide (op_range cs w 49)
  have HI:Hid ((Tryz.prog.info? 49).map (·.size)=some cs.length):=by unfold Hid;rw [hlen];exact info_op
  rw [←hcs] at HC ⊢
  obtain ⟨kd,hkd⟩:∃kd,kd=o.kd:=⟨_,rfl⟩
  rw [←hkd] at hk q0
  have k8:¬kd=8:=by omega
  have k9:¬kd=9:=by omega
  have k10:¬kd=10:=by omega
  have k11:¬kd=11:=by omega
  have k12:¬kd=12:=by omega
  have k13:¬kd=13:=by omega
  have k14:¬kd=14:=by omega
  have k15:¬kd=15:=by omega
  have k16:¬kd=16:=by omega
  have k17:¬kd=17:=by omega
  clear H CC ha hb0 hcs hkd hlen
  go_enter Tryz.func5,Tryz.ntmps5
  go_wp2_with (refine wpList_load_mid rfl 49 _ rfl w.heap.size 0 rfl cs _ HR.out Tryz.underlying49 rfl HI.out ?_)
  refine (HC.out _ (by (repeat any_goals first | exact .refl _ _ | assumption | refine .drew ?_ | refine below_drewN ?_ _ | refine .setCell ?_ ?_ _ | refine .alloc ?_ ?_ _ | omega | (simp <;> omega)))).mono ?_
  rintro e w' ⟨rfl,hq⟩
  have HQ:=hide hq
  clear hq
  go_wp2
  go_ret
  exact ⟨rfl,HQ.out⟩
end Go.Proofs.YtkhcjkmifddlbabGreatDoor
