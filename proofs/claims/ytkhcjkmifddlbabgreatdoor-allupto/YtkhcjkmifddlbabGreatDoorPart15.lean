import Derived.Test.YtkhcjkmifddlbabGreatDoorPart14
import Derived.Test.YtkhcjkmifddlbabGreatDoorPart8
import Derived.Test.YtkhcjkmifddlbabGreatDoorPart10
import Derived.Test.YtkhcjkmifddlbabGreatDoorPart13
import Derived.Test.YtkhcjkmifddlbabGreatDoorPart12
import Derived.Test.YtkhcjkmifddlbabGreatDoorPart5
import Derived.Test.YtkhcjkmifddlbabGreatDoorPart4
import Derived.Test.YtkhcjkmifddlbabGreatDoorPart1
set_option maxHeartbeats 8000000
namespace Go.Proofs.YtkhcjkmifddlbabGreatDoor
open Go.RowKit Go.Deep
theorem cans_start (w:World) (h:Nat):Cans w h hs0 0 (fun _=>0) (fun _=>0) (fun _ _=>False):=
  ⟨World.ownsRow_nil _ _ _ _,World.ownsRow_nil _ _ _ _,fun k hk=>by omega,fun k l hk=>by omega,fun k hk=>by omega,fun q hq=>by simp [hs0,Value.ownBlock] at hq,fun k hk=>by omega⟩
set_option maxRecDepth 100000 in
theorem plays_any (ad:Option Addr) (L cc:Nat) (last:Int) (ops:Nat→OpV) (w:World) (hL:L≤1048576) (hsc:ScrAt w ad L ops) (hsum:Num.sumN (fun i=>(ops i).N) L≤1048576) (hst:∀i,i<L→(ops i).kd≤last→StepOk w w.heap.size (ops i)) :
    Calls Tryz.prog 4 #[.slice ad L cc,.int .i64 last] w fun e w'=>e=.returned (.bool true)∧Below w.heap.size w w':=by
  have HSc:=hide hsc
  have HSt:=hide hst
  have H0:=hide (held_start w)
  clear hsc hst
  go_enter Tryz.func4,Tryz.ntmps4
  go_wp2_with fail
  go_loopw [6] (fun t wr=>∃(i:Nat) (s:HS) (K:Nat) (B R:Nat→Nat) (F:Nat→Nat→Prop),i≤L∧t=.int .i64 i∧Below w.heap.size w wr∧HeldInv wr w.heap.size s∧Cans wr w.heap.size s K B R F∧s.n≤24*(i:Int)+(Num.sumN (fun j=>(ops j).N) i:Nat)∧K≤i) (fun t _=>L-(intOf t).toNat)
  case atStart=>
    refine ⟨0,hs0,0,_,_,_,by omega,rfl,by (repeat any_goals first | exact .refl _ _ | assumption | refine .drew ?_ | refine below_drewN ?_ _ | refine .setCell ?_ ?_ _ | refine .alloc ?_ ?_ _ | omega | (simp <;> omega)),H0.out,cans_start _ _,by simp [hs0,Num.sumN],by omega⟩
  case round=>
    obtain ⟨wo,rfl⟩:∃wo,wo=wr:=⟨_,rfl⟩
    obtain ⟨i,s,K,B,R,F,hi,rfl,hb,hI,hC,hn,hK⟩:=hrel
    by_cases hlt:i<L
    · have hd1:decide ((i:Int)<(L:Int))=true:=by simp;omega
      have g0:(0:Int)≤(i:Int):=by omega
      have g1:(i:Int)<(L:Int):=by omega
      obtain ⟨bb,off,rfl,hbl,hcell⟩:∃b off,ad=some ⟨b,off,none⟩∧b<w.heap.size∧∀i,i<L→∀q,q<29→w.cell? ⟨b,off+i*29+q,none⟩=(opL (ops i))[q]?:=by
        rcases HSc.out with h | h
        · omega
        · exact h
      have hcw:∀q,q<29→wo.cell? ⟨bb,off+i*29+q,none⟩=(opL (ops i))[q]?:=fun q hq=>(hb.cell (p:=⟨bb,off+i*29+q,none⟩) hbl).trans (hcell i hlt q hq)
      have hsi:s.n+(ops i).N+24≤1099511627776:=by
        have e1:=Num.sumN_mono (fun j=>(ops j).N) (show i+1≤L by omega)
        simp only [Num.sumN] at e1
        omega
      have HS1:Hid (Num.sumN (fun j=>(ops j).N) (i+1)=Num.sumN (fun j=>(ops j).N) i+(ops i).N):=rfl
      have HSi:=hide (fun hk=>HSt.out i hlt hk)
      have HRg:Hid (wo.rangeAt bb (off+i*29) (opL (ops i))):=fun j v hv=>by
        have hj:j<29:=by
          rcases Nat.lt_or_ge j 29 with h | h
          · exact h
          · rw [List.getElem?_eq_none (show (opL (ops i)).length≤j from h)] at hv;cases hv
        rw [hcw j hj];exact hv
      have q0:wo.cell? ⟨bb,off+i*29,none⟩=some (.int .i64 (ops i).kd):=hcw 0 (by omega)
      have HInf:Hid ((Tryz.prog.info? 49).map (·.size)=some (opL (ops i)).length):=info_op
      obtain ⟨o,ho⟩:∃o,o=ops i:=⟨_,rfl⟩
      rw [←ho] at hsi HS1 HSi HRg q0 HInf
      have hbo:bb<wo.heap.size:=by have:=hb.size;omega
      have hhI:=hI.wd.lt
      have HI:=hide (And.intro hI (And.intro hC (And.intro hn hK)))
      have HB:=hide hb
      obtain ⟨kd,hkd⟩:∃kd,kd=o.kd:=⟨_,rfl⟩
      rw [←hkd] at HSi q0
      clear hcell hcw hb hI hC hn hK ho hkd
      by_cases hkl:kd≤last
      · have hgt:¬last<kd:=by omega
        have HCall:=hide (HSi.out hkl wo s K B R F HB.out HI.out.1 HI.out.2.1 (by have:=HI.out.2.2.2;omega) hsi)
        obtain ⟨cs,hcs⟩:∃cs,cs=opL o:=⟨_,rfl⟩
        rw [←hcs] at HCall HRg HInf
        clear hcs
        go_wp2_with (refine wpList_load_mid rfl 49 _ rfl bb (off+i*29) rfl cs _ HRg.out Tryz.underlying49 rfl HInf.out ?_)
        refine HCall.out.mono ?_
        rintro e w2 ⟨rfl,hb2,s2,K2,B2,R2,F2,hI2,hC2,hn2,hk2⟩
        have hs2:=hb2.size
        have hh2:=hI2.wd.lt
        have HI2:=hide (And.intro hI2 (And.intro hC2 (And.intro hn2 hk2)))
        have HB2:=hide (HB.out.trans hb2)
        clear hb2 hI2 hC2 hn2 hk2 HCall q0
        go_wp2_with fail
        refine (dry_any w.heap.size s2 w2 HI2.out.1).mono ?_
        rintro e w3 ⟨rfl,hb3⟩
        have HB3:=hide hb3
        clear hb3
        go_wp2
        go_roundw
        case rel=>
          have hs0:=HB2.out.size
          refine ⟨i+1,s2,K2,B2,R2,F2,by omega,by go_num,HB2.out.trans (HB3.out.mono (by omega)),HI2.out.1.below HB3.out,HI2.out.2.1.below HB3.out,?_,?_⟩
          · have h1:=HI2.out.2.2.1
            have h2:=HI.out.2.2.1
            rw [HS1.out]
            omega
          · have h1:=HI2.out.2.2.2
            have h2:=HI.out.2.2.2
            omega
        case measure=>simp [intOf];omega
      · have hgt:last<kd:=by omega
        go_wp2
        go_roundw
        case rel=>
          refine ⟨i+1,s,K,B,R,F,by omega,by go_num,HB.out,HI.out.1,HI.out.2.1,?_,?_⟩
          · have h2:=HI.out.2.2.1
            rw [HS1.out]
            omega
          · have h2:=HI.out.2.2.2
            omega
        case measure=>simp [intOf];omega
    · have hd0:decide ((i:Int)<(L:Int))=false:=by simp;omega
      have HB:=hide hb
      clear hb hI hC
      go_wp2
      go_ret
      exact ⟨rfl,HB.out⟩
def allS (n:Nat→Nat) (X Y K:Nat→Nat→Int) (k:Nat):List Num.Sg:=(List.range k).flatMap fun i=>Num.refRing (X i) (Y i) (K i) (n i)
theorem allS_succ (n:Nat→Nat) (X Y K:Nat→Nat→Int) (k:Nat):allS n X Y K (k+1)=allS n X Y K k++Num.refRing (X k) (Y k) (K k) (n k):=by
  unfold allS;rw [List.range_succ,List.flatMap_append];simp
theorem allS_len (n:Nat→Nat) (X Y K:Nat→Nat→Int) (k:Nat):(allS n X Y K k).length≤2*Num.sumN n k:=by
  induction k with
  | zero=>simp [allS]
  | succ k ih=>
    rw [allS_succ,List.length_append]
    have:=refRing_len (X k) (Y k) (K k) (n k)
    simp only [Num.sumN];omega
def segsV (N:Nat) (n:Nat→Nat) (X Y K:Nat→Nat→Int):List Num.Sg:=if (Num.chkV N n X Y K).1=0 then allS n X Y K N else []
set_option maxRecDepth 100000 in
theorem outSegments_any (a:Option Addr) (N c:Nat) (A:Nat→Option Addr) (C n:Nat→Nat) (X Y K:Nat→Nat→Int) (w:World) (hN:N≤4294967296) (hn:∀i,i<N→n i≤4294967296) (ho:OutAt w a N A C n X Y K) :
    Calls Tryz.prog 71 #[.slice a N c] w fun e w'=>∃v,e=.returned (.tuple #[v,.int .i64 (Num.chkV N n X Y K).1])∧Below w.heap.size w w'∧w'.ownsRow w.heap.size 44 9 v (segsV N n X Y K).length ((segsV N n X Y K).flatMap sgC):=by
  have HO:=hide ho
  have HN:=hide hn
  have hcs:=Num.chk_cases N n X Y K
  have HRN:Hid ((Num.chkV N n X Y K).1=0→ringN N n X Y K=N):=fun h=>by unfold ringN;rw [if_pos h]
  obtain ⟨V0,hV⟩:∃V,V=Num.chkV N n X Y K:=⟨_,rfl⟩
  have hSV:segsV N n X Y K=if V0.1=0 then allS n X Y K N else []:=by unfold segsV;rw [hV]
  rw [←hV] at hcs HRN ⊢
  obtain ⟨T,hT⟩:∃T,T=segsV N n X Y K:=⟨_,rfl⟩
  rw [←hT] at hSV ⊢
  have HV:=hide hV
  clear ho hn hV hT
  rcases hcs with ⟨h0,hm,hsh,hfa⟩ | h0
  · rw [if_pos h0] at hSV
    obtain ⟨m16,m200,mn⟩:=ok_many hm
    have HSV:=hide hSV
    have HSH:=hide hsh
    have HMN:=hide mn
    have HRN2:=hide (HRN.out h0)
    clear hSV hsh hfa mn hm HRN
    obtain ⟨v0,v1,v2⟩:=V0
    have h0:v0=0:=h0
    subst h0
    obtain ⟨i0,hi0,hz0,hz1,hz2⟩:=info_parts info_seg
    go_enter Tryz.func71,Tryz.ntmps71
    go_wp2_with fail
    refine (outRings_any _ _ _ A C n X Y K _ hN HN.out HO.out).mono ?_
    rw [←HV.out,HRN2.out]
    rintro e w1 ⟨vr,VR,rfl,hb1,hRA⟩
    have hs1:=hb1.size
    obtain ⟨ao,cp,rfl,hao⟩:=owns_form9' hRA.outer
    have HRA:=hide hRA
    have HAo:=hide hao
    have HB1:=hide hb1
    clear hRA hao hb1
    go_wp2_with fail
    go_loopw [6,19] (fun v t wr=>∃k:Nat,k≤N∧t=.int .i64 k∧Below w1.heap.size w1 wr∧wr.ownsRow w1.heap.size 44 9 v (allS n X Y K k).length ((allS n X Y K k).flatMap sgC)) (fun _ t _=>N-(intOf t).toNat)
    case atStart=>exact ⟨0,by omega,rfl,Below.refl _ _,World.ownsRow_nil _ _ _ _⟩
    case round=>
      obtain ⟨v,rfl⟩:∃v,v=u6:=⟨_,rfl⟩
      obtain ⟨k,hk,rfl,hb,hown⟩:=hrel
      have hsz:=hb.size
      have hlen:=allS_len n X Y K k
      have hmon:=Num.sumN_mono n hk
      by_cases hlt:k<N
      · obtain ⟨gr,rfl⟩:=HAo.out (by omega)
        have hRA2:=HRA.out.below hb
        have ci:=hRA2.outer.cellAt k (by omega)
        rw [List.getElem?_map,List.getElem?_range hlt] at ci
        simp only [Option.map_some] at ci
        obtain ⟨s2,sb⟩:=ok_shape (HSH.out k hlt)
        have hnk:=HMN.out k hlt
        have hpos:=refRing_pos (X:=X k) (Y:=Y k) s2 sb
        have hrl:=refRing_len (X k) (Y k) (K k) (n k)
        have hown2:=hRA2.inner k hlt
        have hgrl:gr<w1.heap.size:=(HRA.out.outer.lt gr rfl).2
        unfold ringL at hown2
        clear sb hRA2
        have HSu:=hide (allS_succ n X Y K k)
        obtain ⟨L2,hL2⟩:∃L2,L2=Num.refRing (X k) (Y k) (K k) (n k):=⟨_,rfl⟩
        rw [←hL2] at HSu hpos hrl hown2
        clear hL2
        obtain ⟨L,hL⟩:∃L,L=allS n X Y K k:=⟨_,rfl⟩
        rw [←hL] at hown hlen HSu
        clear hL
        obtain ⟨g2,cap2,hv2,hg2,hgl2⟩:=hown2.form hpos
        rw [hv2] at hown2 ci
        have HNews:=hide (owns_news hown2)
        have HFl:=hide (flat9_len L2)
        have HOne:=hide (flat9_one L2)
        clear hown2 hv2
        obtain ⟨m2,hm2⟩:∃m2,m2=L2.length:=⟨_,rfl⟩
        obtain ⟨ys,hys⟩:∃ys,ys=L2.flatMap sgC:=⟨_,rfl⟩
        obtain ⟨ln,hln⟩:∃ln,ln=L.length:=⟨_,rfl⟩
        obtain ⟨xs,hxs⟩:∃xs,xs=L.flatMap sgC:=⟨_,rfl⟩
        rw [←hln,←hxs] at hown
        rw [←hln] at hlen
        rw [←hm2] at hpos hrl ci
        rw [←hys] at HNews HFl HOne
        rw [←hm2] at HFl
        have HM2:=hide hm2
        have HYS:=hide hys
        have HLN:=hide hln
        have HXS:=hide hxs
        have hgrw:gr<wr.heap.size:=by omega
        clear hm2 hys hln hxs
        go_wp2_with (at_builtin;refine wpList_append_lies _ rfl _ _ 62 rfl w1.heap.size 44 i0 (.agg #[.int .i64 0,.int .i64 0,.int .i64 0,.int .i64 0,.int .i64 0,.int .i64 0,.int .i64 0,.int .i64 0,.int .i64 0]) 9 72 Tryz.underlying62 hi0 hz0 hz1 hz2 rfl (by omega) v ln xs rfl hown ⟨g2,0,none⟩ m2 cap2 ys rfl HFl.out HNews.out HOne.out (by omega) ?c3 ?c4 ?c5 wr.heap.size rfl ?_)
        case c3=>unfold maxLen;omega
        case c4=>omega
        case c5=>first | omega | (simp;omega)
        intro g cap w3 hown3 hgrow hat hlt3
        have hb3:Below w1.heap.size w1 w3:=hb.grown hgrow (by omega) (fun q hq=>(hown.lt q hq).1)
        have HO3:Hid (w3.ownsRow w1.heap.size 44 9 (.slice (some ⟨g,0,none⟩) (ln+m2) cap) (allS n X Y K (k+1)).length ((allS n X Y K (k+1)).flatMap sgC)):=by
          unfold Hid
          rw [HSu.out,List.length_append,List.flatMap_append,←HLN.out,←HM2.out,←HXS.out,←HYS.out]
          exact hown3
        clear hown3 hgrow hat hown hb ci
        go_wp2
        go_roundw
        case rel=>exact ⟨k+1,by omega,by go_num,hb3,HO3.out⟩
        case measure=>simp [intOf];omega
      · have e:k=N:=by omega
        have HO9:=hide hown
        clear hown
        go_wp2
        go_ret2
        refine ⟨v,rfl,HB1.out.trans (hb.mono hs1),?_⟩
        rw [HSV.out]
        have h:=owns_mono9 (base':=w.heap.size) HO9.out hs1
        rw [e] at h
        exact h
  · rw [if_neg h0] at hSV
    have HSV:=hide hSV
    clear hSV
    obtain ⟨v0,v1,v2⟩:=V0
    have hb0:(v0 != 0)=true:=by simpa using h0
    clear h0 HRN
    go_enter Tryz.func71,Tryz.ntmps71
    go_wp2_with fail
    refine (outRings_any _ _ _ A C n X Y K _ hN HN.out HO.out).mono ?_
    rw [←HV.out]
    rintro e w1 ⟨vr,VR,rfl,hb1,_⟩
    go_wp2
    go_ret2
    refine ⟨_,rfl,hb1,?_⟩
    rw [HSV.out]
    exact World.ownsRow_nil _ _ _ _
theorem glyphSegments_any (a:Option Addr) (N c:Nat) (A:Nat→Option Addr) (C n:Nat→Nat) (X Y K:Nat→Nat→Int) (w:World) (hN:N≤4294967296) (hn:∀i,i<N→n i≤4294967296) (ho:OutAt w a N A C n X Y K) :
    Calls Tryz.prog 28 #[.slice a N c] w fun e w'=>∃v,e=.returned (.tuple #[v,.int .i64 (Num.chkV N n X Y K).1])∧Below w.heap.size w w'∧w'.ownsRow w.heap.size 44 9 v (segsV N n X Y K).length ((segsV N n X Y K).flatMap sgC):=by
  have HN:=hide hn
  have HO:=hide ho
  clear hn ho
  go_enter Tryz.func28,Tryz.ntmps28
  go_wp2_with fail
  refine (outSegments_any _ _ _ A C n X Y K _ hN HN.out HO.out).mono ?_
  rintro e w1 ⟨v,rfl,hb,hown⟩
  have HW:=hide hown
  clear hown
  go_wp2
  go_ret2
  exact ⟨v,rfl,hb,HW.out⟩
theorem flat9:∀(l:List Num.Sg) (i q:Nat) (hi:i<l.length),q<9→(l.flatMap sgC)[i*9+q]? = (sgC l[i])[q]?:=by
  intro l
  induction l with
  | nil=>intro i q hi;simp at hi
  | cons x r ih=>
    intro i q hi hq
    rw [List.flatMap_cons]
    have h2:(sgC x).length=9:=rfl
    cases i with
    | zero=>
      simp only [Nat.zero_mul,Nat.zero_add,List.getElem_cons_zero]
      rw [List.getElem?_append_left (by omega)]
    | succ j=>
      have:=ih j q (by simpa using hi) hq
      simp only [List.getElem_cons_succ]
      rw [List.getElem?_append_right (by omega),h2,show (j+1)*9+q-9=j*9+q by omega]
      exact this
theorem owns_seg {w:World} {base b cap:Nat} {t:TypeId} {l:List Num.Sg} (h:w.ownsRow base t 9 (.slice (some ⟨b,0,none⟩) l.length cap) l.length (l.flatMap sgC)) (i:Nat) (hi:i<l.length) :
    w.cell? ⟨b,i*9,none⟩=some (.int .i64 l[i].k)∧w.cell? ⟨b,i*9+1,none⟩=some (.int .i64 l[i].x0)∧w.cell? ⟨b,i*9+2,none⟩=some (.int .i64 l[i].y0)∧w.cell? ⟨b,i*9+3,none⟩=some (.int .i64 l[i].x1)∧w.cell? ⟨b,i*9+4,none⟩=some (.int .i64 l[i].y1)∧w.cell? ⟨b,i*9+5,none⟩=some (.int .i64 l[i].x2)∧w.cell? ⟨b,i*9+6,none⟩=some (.int .i64 l[i].y2)∧w.cell? ⟨b,i*9+7,none⟩=some (.int .i64 l[i].x3)∧w.cell? ⟨b,i*9+8,none⟩=some (.int .i64 l[i].y3):=by
  have e:∀q,q<9→w.cell? ⟨b,i*9+q,none⟩=(sgC l[i])[q]?:=fun q hq=>by
    rw [h.cellAt (i*9+q) (by omega)];exact flat9 l i q hi hq
  exact ⟨e 0 (by omega),e 1 (by omega),e 2 (by omega),e 3 (by omega),e 4 (by omega),e 5 (by omega),e 6 (by omega),e 7 (by omega),e 8 (by omega)⟩
set_option maxRecDepth 100000 in
theorem refSegments_any (a:Option Addr) (N c:Nat) (A:Nat→Option Addr) (C n:Nat→Nat) (X Y K:Nat→Nat→Int) (w:World) (hN:N≤4294967296) (hn:∀i,i<N→n i≤4294967296) (hS:Num.sumN n N≤1099511627776) (ho:OutAt w a N A C n X Y K) :
    Calls Tryz.prog 29 #[.slice a N c] w fun e w'=>∃v,e=.returned (.tuple #[v,.int .i64 (Num.chkV N n X Y K).1])∧Below w.heap.size w w'∧w'.ownsRow w.heap.size 44 9 v (segsV N n X Y K).length ((segsV N n X Y K).flatMap sgC):=by
  have HO:=hide ho
  have HN:=hide hn
  have hcs:=Num.chk_cases N n X Y K
  obtain ⟨V,hV⟩:∃V,V=Num.chkV N n X Y K:=⟨_,rfl⟩
  have hSV:segsV N n X Y K=if V.1=0 then allS n X Y K N else []:=by unfold segsV;rw [hV]
  rw [←hV] at hcs ⊢
  obtain ⟨T,hT⟩:∃T,T=segsV N n X Y K:=⟨_,rfl⟩
  rw [←hT] at hSV ⊢
  have HV:=hide hV
  clear ho hn hV hT
  rcases hcs with ⟨h0,hm,hsh,hfa⟩ | h0
  · rw [if_pos h0] at hSV
    obtain ⟨m16,m200,mn⟩:=ok_many hm
    have HSV:=hide hSV
    have HSH:=hide hsh
    have HFA:=hide hfa
    have HMN:=hide mn
    clear hSV hsh hfa mn hm
    obtain ⟨v0,v1,v2⟩:=V
    have h0:v0=0:=h0
    subst h0
    obtain ⟨i0,hi0,hz0,hz1,hz2⟩:=info_parts info_seg
    go_enter Tryz.func29,Tryz.ntmps29
    go_wp2_with fail
    refine (refCheck_any _ _ _ A C n X Y K _ hN HN.out hS HO.out).mono ?_
    rw [←HV.out]
    rintro e w1 ⟨rfl,hb1⟩
    have hs1:=hb1.size
    go_wp2_with fail
    go_loopw [7,8] (fun v t wr=>∃k:Nat,k≤N∧t=.int .i64 k∧Below w.heap.size w wr∧wr.ownsRow w.heap.size 44 9 v (allS n X Y K k).length ((allS n X Y K k).flatMap sgC)) (fun _ t _=>N-(intOf t).toNat)
    case atStart=>exact ⟨0,by omega,rfl,hb1,World.ownsRow_nil _ _ _ _⟩
    case round=>
      obtain ⟨v,rfl⟩:∃v,v=u7:=⟨_,rfl⟩
      obtain ⟨wo,rfl⟩:∃wo,wo=wr:=⟨wr,rfl⟩
      obtain ⟨k,hk,rfl,hb,hown⟩:=hrel
      have hsz:=hb.size
      have hlen:=allS_len n X Y K k
      have hmon:=Num.sumN_mono n hk
      by_cases hlt:k<N
      · have hd1:decide ((k:Int)<(N:Int))=true:=by simp;omega
        have HO2:=hide (HO.out.below hb)
        rcases HO2.out.1 with h | ⟨b,off,rfl,hc⟩
        · omega
        have ci:=hc k hlt
        clear hc
        obtain ⟨s2,sb⟩:=ok_shape (HSH.out k hlt)
        obtain ⟨fX,fY⟩:=ok_far (HFA.out k hlt)
        have hnk:=HMN.out k hlt
        have hpos:=refRing_pos (X:=X k) (Y:=Y k) s2 sb
        have hrl:=refRing_len (X k) (Y k) (K k) (n k)
        have HC:=hide (refRing_any (A k) (n k) (C k) (X k) (Y k) (K k) wo (by omega) (by omega) fX fY (HO2.out.2 k hlt))
        clear sb fX fY
        have HSu:=hide (allS_succ n X Y K k)
        obtain ⟨L2,hL2⟩:∃L2,L2=Num.refRing (X k) (Y k) (K k) (n k):=⟨_,rfl⟩
        rw [←hL2] at HC HSu hpos hrl
        clear hL2
        obtain ⟨L,hL⟩:∃L,L=allS n X Y K k:=⟨_,rfl⟩
        rw [←hL] at hown hlen HSu
        clear hL
        go_wp2_with fail
        refine HC.out.mono ?_
        rintro e w2 ⟨v2,rfl,hb2,hown2⟩
        have hs2:=hb2.size
        have hownA:=owns_of_block hown (fun b hbb=>hb2.block b (hown.lt b hbb).2)
        have hAlt:∀b,v.ownBlock=some b→b<wo.heap.size:=fun b hbb=>(hown.lt b hbb).2
        have hbw:Below w.heap.size w w2:=hb.trans (hb2.mono hsz)
        clear hb hb2 hown HC
        obtain ⟨g2,cap2,rfl,hg2,hgl2⟩:=hown2.form hpos
        have HW2:=hide hown2
        have HA:=hide hownA
        have HAl:=hide hAlt
        clear hown2 hownA hAlt
        obtain ⟨m2,hm2⟩:∃m2,m2=L2.length:=⟨_,rfl⟩
        rw [←hm2] at hpos hrl ⊢
        have HM2:=hide hm2
        clear hm2
        go_wp2_with fail
        go_loopw [7,10] (fun v t wr=>∃j:Nat,j≤m2∧t=.int .i64 j∧w2.heap.size≤wr.heap.size∧Below w.heap.size w wr∧wr.ownsRow w.heap.size 44 9 v (L++L2.take j).length ((L++L2.take j).flatMap sgC)∧(v.ownBlock≠some g2)∧wr.heap[g2]? = w2.heap[g2]?) (fun _ t _=>m2-(intOf t).toNat)
        case atStart=>
          refine ⟨0,by omega,rfl,Nat.le_refl _,hbw,by simpa using HA.out,fun e=>?_,rfl⟩
          have:=HAl.out g2 e
          omega
        case round=>
          obtain ⟨va,rfl⟩:∃va,va=u7:=⟨_,rfl⟩
          obtain ⟨j,hj,rfl,hsj,hbj,hownj,hnej,hblk⟩:=hrel
          by_cases hltj:j<m2
          · have hd2:decide ((j:Int)<(m2:Int))=true:=by simp;omega
            have hjl:j<L2.length:=by rw [←HM2.out];exact hltj
            have hw2j:=owns_of_block (w':=wr) HW2.out (fun b hbb=>by simp [Value.ownBlock] at hbb;subst hbb;exact hblk)
            obtain ⟨q0,q1,q2,q3,q4,q5,q6,q7,q8⟩:=owns_seg hw2j j hjl
            have htk:L2.take (j+1)=L2.take j++[L2[j]]:=by rw [List.take_succ_eq_append_getElem hjl]
            obtain ⟨S,hS9⟩:∃S,S=L2[j]:=⟨_,rfl⟩
            rw [←hS9] at q0 q1 q2 q3 q4 q5 q6 q7 q8 htk
            have HTK:=hide htk
            have hl3:(L++L2.take j).length≤2*200+2*200:=by simp;omega
            obtain ⟨ln,hln⟩:∃ln,ln=(L++L2.take j).length:=⟨_,rfl⟩
            obtain ⟨xs,hxs⟩:∃xs,xs=(L++L2.take j).flatMap sgC:=⟨_,rfl⟩
            rw [←hln,←hxs] at hownj
            rw [←hln] at hl3
            have HLN:=hide hln
            have HXS:=hide hxs
            have HNe:=hide hnej
            have HBk:=hide hblk
            clear hw2j htk hS9 hln hxs hnej hblk
            have g0:(0:Int)≤(j:Int):=by omega
            go_wp2_with (at_builtin;refine wpList_append_lies _ rfl _ _ 62 rfl w.heap.size 44 i0 (.agg #[.int .i64 0,.int .i64 0,.int .i64 0,.int .i64 0,.int .i64 0,.int .i64 0,.int .i64 0,.int .i64 0,.int .i64 0]) 9 72 Tryz.underlying62 hi0 hz0 hz1 hz2 rfl (by omega) va ln xs rfl (hownj.alloc _) ⟨wr.heap.size,0,none⟩ 1 1 [.int .i64 S.k,.int .i64 S.x0,.int .i64 S.y0,.int .i64 S.x1,.int .i64 S.y1,.int .i64 S.x2,.int .i64 S.y2,.int .i64 S.x3,.int .i64 S.y3] rfl rfl ?c1 ?c2 (by omega) ?c3 ?c4 ?c5 (wr.heap.size+1) (by simp) ?_)
            case c1=>exact news_new wr (sgC S) _ _ (by simp)
            case c2=>exact one_sg S
            case c3=>unfold maxLen;omega
            case c4=>omega
            case c5=>first | omega | (simp;omega)
            intro g cap w3 hown3 hgrow hat hlt3
            have hbs:=hbj.size
            have hb3:Below w.heap.size w w3:=(hbj.alloc (by omega) _).grown hgrow (by simp;omega) (fun q hq=>(hownj.lt q hq).1)
            have HO3:Hid (w3.ownsRow w.heap.size 44 9 (.slice (some ⟨g,0,none⟩) (ln+1) cap) (L++L2.take (j+1)).length ((L++L2.take (j+1)).flatMap sgC)):=by
              unfold Hid
              rw [HTK.out,←List.append_assoc]
              exact push_sg (by rw [←HXS.out];exact hown3) (by rw [HLN.out])
            have HNe2:Hid ((Value.slice (some ⟨g,0,none⟩) (ln+1) cap).ownBlock≠some g2):=by
              unfold Hid
              intro e
              simp [Value.ownBlock] at e
              rcases hat with hat | hat
              · exact HNe.out (by rw [hat,e])
              · omega
            have HBk2:Hid (w3.heap[g2]? = w2.heap[g2]?):=by
              unfold Hid
              rw [hgrow.block g2 (by rw [nblk_alloc];omega) (fun e=>HNe.out e.symm),blk_alloc_lt _ _ _ (by omega)]
              exact HBk.out
            have hs3:w2.heap.size≤w3.heap.size:=by have:=hgrow.size;rw [nblk_alloc] at this;omega
            clear hown3 hgrow hat hownj hbj q0 q1 q2 q3 q4 q5 q6 q7 q8
            go_wp2
            go_roundw
            case rel=>exact ⟨j+1,by omega,by go_num,hs3,hb3,HO3.out,HNe2.out,HBk2.out⟩
            case measure=>simp [intOf];omega
          · have e:j=m2:=by omega
            have HO4:Hid (wr.ownsRow w.heap.size 44 9 va (allS n X Y K (k+1)).length ((allS n X Y K (k+1)).flatMap sgC)):=by
              unfold Hid
              rw [HSu.out]
              rw [e,HM2.out,List.take_length] at hownj
              exact hownj
            have hd3:decide ((j:Int)<(m2:Int))=false:=by simp;omega
            clear hownj hnej hblk
            go_wp2
            go_roundw
            case rel=>exact ⟨k+1,by omega,by go_num,hbj,HO4.out⟩
            case measure=>simp [intOf];omega
      · have e:k=N:=by omega
        have hd0:decide ((k:Int)<(N:Int))=false:=by simp;omega
        have HO9:=hide hown
        clear hown
        go_wp2
        go_ret2
        refine ⟨v,rfl,hb,?_⟩
        rw [HSV.out]
        have h:=HO9.out
        rw [e] at h
        exact h
  · rw [if_neg h0] at hSV
    have HSV:=hide hSV
    clear hSV
    obtain ⟨v0,v1,v2⟩:=V
    have hb0:(v0 != 0)=true:=by simpa using h0
    clear h0
    go_enter Tryz.func29,Tryz.ntmps29
    go_wp2_with fail
    refine (refCheck_any _ _ _ A C n X Y K _ hN HN.out hS HO.out).mono ?_
    rw [←HV.out]
    rintro e w1 ⟨rfl,hb1⟩
    go_wp2
    go_ret2
    refine ⟨_,rfl,hb1,?_⟩
    rw [HSV.out]
    exact World.ownsRow_nil _ _ _ _
theorem owns_form9 {w:World} {base:Nat} {t:TypeId} {v:Value} {l:List Num.Sg} (h:w.ownsRow base t 9 v l.length (l.flatMap sgC)):∃ao cap,v=.slice ao l.length cap∧(0<l.length→∃b,ao=some ⟨b,0,none⟩):=by
  rcases h.2 with ⟨rfl,h0⟩ | ⟨g,cap,cur,rfl,_⟩
  · exact ⟨none,0,by rw [h0],by omega⟩
  · exact ⟨some ⟨g,0,none⟩,cap,rfl,fun _=>⟨g,rfl⟩⟩
set_option maxRecDepth 100000 in
theorem sameSegments_any (v v':Value) (base base':Nat) (l:List Num.Sg) (w:World) (hl:l.length≤4294967296) (h1:w.ownsRow base 44 9 v l.length (l.flatMap sgC)) (h2:w.ownsRow base' 44 9 v' l.length (l.flatMap sgC)) :
    Calls Tryz.prog 30 #[v,v'] w fun e w'=>e=.returned (.bool true)∧∃nd,w'=w.drewN nd:=by
  obtain ⟨ao,cap,rfl,ha⟩:=owns_form9 h1
  obtain ⟨ao',cap',rfl,ha'⟩:=owns_form9 h2
  have H1:=hide h1
  have H2:=hide h2
  have HA:=hide ha
  have HA':=hide ha'
  clear h1 h2 ha ha'
  obtain ⟨n,hn⟩:∃n,n=l.length:=⟨_,rfl⟩
  rw [←hn] at hl ⊢
  have HN:=hide hn
  clear hn
  go_enter Tryz.func30,Tryz.ntmps30
  go_wp2_with fail
  go_loopw [5] (fun i wr=>∃k nd:Nat,k≤n∧i=.int .i64 k∧wr=w.drewN nd) (fun i _=>n-(intOf i).toNat)
  case atStart=>exact ⟨0,0,by omega,rfl,rfl⟩
  case round=>
    obtain ⟨k,nd,hk,rfl,rfl⟩:=hrel
    by_cases hlt:k<n
    · obtain ⟨b,rfl⟩:=HA.out (by rw [←HN.out];omega)
      obtain ⟨b',rfl⟩:=HA'.out (by rw [←HN.out];omega)
      have hkl:k<l.length:=by rw [←HN.out];exact hlt
      obtain ⟨q0,q1,q2,q3,q4,q5,q6,q7,q8⟩:=owns_seg H1.out k hkl
      obtain ⟨r0,r1,r2,r3,r4,r5,r6,r7,r8⟩:=owns_seg H2.out k hkl
      obtain ⟨S,hS⟩:∃S,S=l[k]:=⟨_,rfl⟩
      rw [←hS] at q0 q1 q2 q3 q4 q5 q6 q7 q8 r0 r1 r2 r3 r4 r5 r6 r7 r8
      clear hS
      have g0:(0:Int)≤(k:Int):=by omega
      have g1:(k:Int)<(n:Int):=by omega
      have hd1:decide ((k:Int)<(n:Int))=true:=by simp;omega
      go_wp2
      go_quiet (fail)
      go_wp2
      go_roundw
      case rel=>exact ⟨k+1,nd+nq,by omega,by go_num,rfl⟩
      case measure=>simp [intOf];omega
    · go_wp2
      go_ret
      exact ⟨rfl,nd,rfl⟩
theorem info_hs:(Tryz.prog.info? 64).map (fun i=>(i.zero,i.size,i.bytes))=some (some (.agg #[.slice none 0 0,.int .i64 0]),2,32):=by kernel_rfl
theorem markS_step {wr:World} {b m i:Nat} {t:TypeId} {f:Nat→Value} {mk:Int} (h:wr.rowIs b t (m*9) f) (hf:∀q,q<i*9→f q=mkS mk q) (wr2:World) (hb:wr2.heap[b]? = wr.heap[b]?) :
    ∃f',(((((((((wr2.setCell ⟨b,i*9,none⟩ (.int .i64 9)).setCell ⟨b,i*9+1,none⟩ (.int .i64 (2199023255552+mk))).setCell ⟨b,i*9+2,none⟩ (.int .i64 (-7))).setCell ⟨b,i*9+3,none⟩ (.int .i64 (2199023255552+mk))).setCell ⟨b,i*9+4,none⟩ (.int .i64 (-7))).setCell ⟨b,i*9+5,none⟩ (.int .i64 (2199023255552+mk))).setCell ⟨b,i*9+6,none⟩ (.int .i64 (-7))).setCell ⟨b,i*9+7,none⟩ (.int .i64 (2199023255552+mk))).setCell ⟨b,i*9+8,none⟩ (.int .i64 (-7))).rowIs b t (m*9) f'∧∀q,q<(i+1)*9→f' q=mkS mk q:=by
  refine ⟨_,((((((((((h.of_block hb).set (i*9) _).set (i*9+1) _).set (i*9+2) _).set (i*9+3) _).set (i*9+4) _).set (i*9+5) _).set (i*9+6) _).set (i*9+7) _).set (i*9+8) _),fun q hq=>?_⟩
  by_cases e8:q=i*9+8
  · subst e8;rw [if_pos rfl];unfold mkS;rw [if_neg (by omega),if_neg (by omega)]
  rw [if_neg e8]
  by_cases e7:q=i*9+7
  · subst e7;rw [if_pos rfl];unfold mkS;rw [if_neg (by omega),if_pos (by omega)]
  rw [if_neg e7]
  by_cases e6:q=i*9+6
  · subst e6;rw [if_pos rfl];unfold mkS;rw [if_neg (by omega),if_neg (by omega)]
  rw [if_neg e6]
  by_cases e5:q=i*9+5
  · subst e5;rw [if_pos rfl];unfold mkS;rw [if_neg (by omega),if_pos (by omega)]
  rw [if_neg e5]
  by_cases e4:q=i*9+4
  · subst e4;rw [if_pos rfl];unfold mkS;rw [if_neg (by omega),if_neg (by omega)]
  rw [if_neg e4]
  by_cases e3:q=i*9+3
  · subst e3;rw [if_pos rfl];unfold mkS;rw [if_neg (by omega),if_pos (by omega)]
  rw [if_neg e3]
  by_cases e2:q=i*9+2
  · subst e2;rw [if_pos rfl];unfold mkS;rw [if_neg (by omega),if_neg (by omega)]
  rw [if_neg e2]
  by_cases e1:q=i*9+1
  · subst e1;rw [if_pos rfl];unfold mkS;rw [if_neg (by omega),if_pos (by omega)]
  rw [if_neg e1]
  by_cases e0:q=i*9
  · subst e0;rw [if_pos rfl];unfold mkS;rw [if_pos (by omega)]
  rw [if_neg e0]
  exact hf q (by omega)
theorem markSegment_b (n:Int) (w:World) (h0:0≤n) (h1:n≤1099511627776) :
    Calls Tryz.prog 18 #[.int .i64 n] w fun e w'=>e=.returned (.agg #[.int .i64 9,.int .i64 (2199023255552+n),.int .i64 (-7),.int .i64 (2199023255552+n),.int .i64 (-7),.int .i64 (2199023255552+n),.int .i64 (-7),.int .i64 (2199023255552+n),.int .i64 (-7)])∧Below w.heap.size w w':=
  (markSegment_exact n w h0 h1).mono fun e w' ⟨he,hw⟩=>⟨he,by rw [hw];(repeat any_goals first | exact .refl _ _ | assumption | refine .drew ?_ | refine below_drewN ?_ _ | refine .setCell ?_ ?_ _ | refine .alloc ?_ ?_ _ | omega | (simp <;> omega))⟩
def segS (h:Nat) (s:HS) (x:Value) (b:Nat):Prop:=b=h∨s.vS.ownBlock=some b∨x.ownBlock=some b
set_option maxRecDepth 100000 in
theorem heldSegments_any (h n base:Nat) (x:Value) (xs:List Value) (s:HS) (w:World) (H:HeldInv w h s) (hx:w.ownsRow base 44 9 x n xs) (hne:∀e∈s.S,∀b,e.1=some b→x.ownBlock≠some b) (hn:s.n+1≤1099511627776) :
    Calls Tryz.prog 31 #[.pointer (some ⟨h,2,none⟩),x] w fun e w'=>e=.returned (.tuple #[])∧Touch (segS h s x) w w'∧∃s',HeldInv w' h s'∧s'.n=s.n+1∧s'.cs=s.cs∧s'.rs=s.rs∧∀q,Used h s' q→Used h s q∨x.ownBlock=some q∨w.heap.size≤q:=by
  have l0:0≤s.n:=by have:=H.lo;omega
  have HH:=hide H
  have HX:=hide hx
  have HNe:=hide hne
  have hform:∃(ao:Option Nat) (cap:Nat),x=.slice (ao.map fun b=>⟨b,0,none⟩) n cap∧n≤cap∧(cap:Int)≤9223372036854775807∧x.ownBlock=ao∧(ao=none→cap=0)∧∀b,ao=some b→∃f,w.rowIs b 44 (cap*9) f:=by
    rcases hx.2 with ⟨rfl,h0⟩ | ⟨g,cap,cur,rfl,_,hg,hle,hcap,hsz,_⟩
    · exact ⟨none,0,by rw [h0];rfl,by omega,by omega,rfl,fun _=>rfl,fun b hb=>by cases hb⟩
    · refine ⟨some g,cap,rfl,hle,by unfold maxLen at hcap;omega,rfl,(fun e=>by cases e),fun b hb=>?_⟩
      simp at hb;subst hb
      exact ⟨fun q=>cur[q]?.getD undef,cur,hg,hsz,fun i hi=>by simp [show i<cur.size by omega]⟩
  obtain ⟨ao,cap,rfl,hle,hcap,hob,hnil,hrow⟩:=hform
  have HRow:=hide hrow
  have HNil:=hide hnil
  have HOB:=hide hob
  clear H hx hne hrow hob
  obtain ⟨ad,had⟩:∃ad,ad=ao.map (fun b=>(⟨b,0,none⟩:Addr)):=⟨_,rfl⟩
  rw [←had]
  have HAD:=hide had
  clear had
  have hcapn:ad=none→cap=0:=fun e=>by
    have:=HAD.out
    rw [e] at this
    cases ao with
    | none=>exact hnil rfl
    | some b=>simp at this
  clear hnil
  go_enter Tryz.func31,Tryz.ntmps31
  go_wp2_with fail
  refine (mark_any h _ _ HH.out hn).mono ?_
  rintro e w1 ⟨rfl,hw1⟩
  have hT1:Touch (fun b=>b=h) w w1:=by rw [hw1];exact Touch.setCell (S:=fun b=>b=h) (Touch.refl _ _) (.inl (by rfl)) _
  have hI1:HeldInv w1 h { s with n:=s.n+1 }:=by rw [hw1];exact HH.out.marked hn
  have hR1:∀b,ao=some b→∃f,w1.rowIs b 44 (cap*9) f:=fun b hb=>by
    obtain ⟨f,hf⟩:=HRow.out b hb
    exact ⟨f,hT1.row hf (row_ne hf HH.out.wd (by decide))⟩
  have HT1:=hide hT1
  have HI1:=hide hI1
  have HR1:=hide hR1
  clear hw1 hT1 hI1 hR1
  obtain ⟨mk,hmk⟩:∃mk,mk=s.n+1:=⟨_,rfl⟩
  rw [←hmk]
  have m0:0≤mk:=by omega
  have m1:mk≤1099511627776:=by omega
  have HM:=hide hmk
  clear hmk
  go_wp2_with fail
  go_loopw [6] (fun t wr=>∃i:Nat,i≤cap∧t=.int .i64 i∧Touch (fun b=>ao=some b) w1 wr∧∀b,ao=some b→∃f,wr.rowIs b 44 (cap*9) f∧∀q,q<i*9→f q=mkS mk q) (fun t _=>cap-(intOf t).toNat)
  case atStart=>
    refine ⟨0,by omega,rfl,Touch.refl _ _,fun b hb=>?_⟩
    obtain ⟨f,hf⟩:=HR1.out b hb
    exact ⟨f,hf,by omega⟩
  case round=>
    obtain ⟨i,hi,rfl,hq,hrows⟩:=hrel
    by_cases hlt:i<cap
    · have hd1:decide ((i:Int)<(cap:Int))=true:=by simp;omega
      have hex:∃b,ao=some b:=by
        cases hao:ao with
        | none=>
          exfalso
          have:=hcapn (by rw [HAD.out,hao];rfl)
          omega
        | some b=>exact ⟨b,rfl⟩
      obtain ⟨b,hao⟩:=hex
      obtain ⟨f,hr,hf⟩:=hrows b hao
      have had:ad=some ⟨b,0,none⟩:=by rw [HAD.out,hao];rfl
      subst had
      have hbl:=hr.lt
      have HQ:=hide hq
      have HRw:=hide (And.intro hr hf)
      clear hq hrows hr hf
      have g0:(0:Int)≤(i:Int):=by omega
      have g1:(i:Int)<(cap:Int):=by omega
      go_wp2_with fail
      refine (markSegment_b _ _ m0 m1).mono ?_
      rintro e w2 ⟨rfl,hb2⟩
      have hr2:=row_below HRw.out.1 hb2 hbl
      have c0:=hr2.cell (i:=i*9) (by omega)
      have z0:=hr2.frozen (i*9)
      have c1:=hr2.cell (i:=i*9+1) (by omega)
      have z1:=hr2.frozen (i*9+1)
      have c2:=hr2.cell (i:=i*9+2) (by omega)
      have z2:=hr2.frozen (i*9+2)
      have c3:=hr2.cell (i:=i*9+3) (by omega)
      have z3:=hr2.frozen (i*9+3)
      have c4:=hr2.cell (i:=i*9+4) (by omega)
      have z4:=hr2.frozen (i*9+4)
      have c5:=hr2.cell (i:=i*9+5) (by omega)
      have z5:=hr2.frozen (i*9+5)
      have c6:=hr2.cell (i:=i*9+6) (by omega)
      have z6:=hr2.frozen (i*9+6)
      have c7:=hr2.cell (i:=i*9+7) (by omega)
      have z7:=hr2.frozen (i*9+7)
      have c8:=hr2.cell (i:=i*9+8) (by omega)
      have z8:=hr2.frozen (i*9+8)
      have hbl2:=hr2.lt
      have HSt:=hide (markS_step HRw.out.1 HRw.out.2 w2 (hb2.block b hbl))
      have HT2:=hide (HQ.out.of_below hb2)
      have HAo:=hide hao
      clear hr2 hb2 hao
      go_wp2
      go_roundw
      case rel=>
        obtain ⟨f',hf1,hf2⟩:=HSt.out
        refine ⟨i+1,by omega,by go_num,?_,fun b' hb'=>?_⟩
        · have hSb:(fun b=>ao=some b) b∨w1.heap.size≤b:=.inl HAo.out
          exact (((((((((HT2.out.setCell (p:=⟨b,i*9,none⟩) hSb _).setCell (p:=⟨b,i*9+1,none⟩) hSb _).setCell (p:=⟨b,i*9+2,none⟩) hSb _).setCell (p:=⟨b,i*9+3,none⟩) hSb _).setCell (p:=⟨b,i*9+4,none⟩) hSb _).setCell (p:=⟨b,i*9+5,none⟩) hSb _).setCell (p:=⟨b,i*9+6,none⟩) hSb _).setCell (p:=⟨b,i*9+7,none⟩) hSb _).setCell (p:=⟨b,i*9+8,none⟩) hSb _)
        · have e:b'=b:=(Option.some.inj (HAo.out.symm.trans hb')).symm
          subst e
          exact ⟨f',hf1,hf2⟩
      case measure=>simp [intOf];omega
    · have e:i=cap:=by omega
      have hd0:decide ((i:Int)<(cap:Int))=false:=by simp;omega
      have hfull:∀b,ao=some b→wr.rowIs b 44 (cap*9) (mkS mk):=fun b hb=>by
        obtain ⟨f,hr,hf⟩:=hrows b hb
        exact hr.congr (fun q hq=>hf q (by omega))
      have hIw:HeldInv wr h { s with n:=s.n+1 }:=HI1.out.of_blocks fun b u=>hq.block b (HI1.out.used_lt u) (fun e=>by
        obtain ⟨f,hr⟩:=HR1.out b e
        obtain ⟨x,hx,hxb⟩:=HI1.out.used_seg u (row_ty hr)
        exact HNe.out x hx b hxb (by rw [HOB.out];exact e))
      have HFull:=hide hfull
      have HIw:=hide hIw
      have HQ:=hide hq
      clear hfull hIw hq hrows
      have c5:wr.cell? ⟨h,2+3,none⟩=some s.vS:=by rw [HIw.out.wd.cell (by omega)];rfl
      have z5:=HIw.out.wd.frozen 5
      have hhl:=HIw.out.wd.lt
      obtain ⟨i0,hi0,hz0,hz1,hz2⟩:=info_parts info_hs
      obtain ⟨ys,hys⟩:∃ys,ys=s.S.flatMap seC:=⟨_,rfl⟩
      have hoS:wr.ownsRow h 64 2 s.vS s.S.length ys:=by
        rw [hys];exact HIw.out.oS
      have HX2:=hide hys
      clear hys
      have hplen:(s.S.length:Int)≤1099511627776:=by
        have hlo:=HIw.out.lo
        simp at hlo;omega
      go_wp2_with (at_builtin;refine wpList_append_lies _ rfl _ _ 30 rfl h 64 i0 (.agg #[.slice none 0 0,.int .i64 0]) 2 32 Tryz.underlying30 hi0 hz0 hz1 hz2 rfl (by omega) s.vS s.S.length ys rfl (hoS.alloc _) ⟨wr.heap.size,0,none⟩ 1 1 [.slice ad cap cap,.int .i64 mk] rfl rfl ?d1 ?d2 (by omega) ?d3 ?d4 ?d5 (wr.heap.size+1) (by simp) ?_)
      try (case d1=>exact news_new wr [.slice ad cap cap,.int .i64 mk] _ _ rfl)
      case d2=>first | exact ⟨rfl,rfl⟩ | (intro u hu;simp at hu;rcases hu with rfl | rfl <;> rfl)
      case d3=>unfold maxLen;omega
      case d4=>omega
      case d5=>first | omega | (simp;omega)
      intro g1 cap1 w2 hown2 hgrow hat hlt2
      rw [HM.out,HX2.out,HAD.out] at hown2
      have hty:some h≠s.vS.ownBlock:=fun e=>by
        have:=owns_ty hoS e.symm
        rw [row_ty HIw.out.wd] at this
        simp at this
      have hI2:HeldInv (w2.setCell ⟨h,5,none⟩ (.slice (some ⟨g1,0,none⟩) (s.S.length+1) cap1)) h { ({ s with n:=s.n+1 }:HS) with vS:=.slice (some ⟨g1,0,none⟩) (s.S.length+1) cap1,S:=s.S++[(ao,cap,s.n+1)] }:=
        HeldInv.pushS (b:=ao) (m:=cap) (g:=g1) (cap:=cap1) HIw.out (fun b hb=>by show wr.rowIs b _ (cap*9) (mkS (s.n+1));rw [←HM.out];exact HFull.out b hb) HNil.out hcap (by have:=HH.out.lo;simp at this ⊢;omega) hown2 hgrow hat
      have hT2:Touch (segS h s (.slice (ao.map fun b=>⟨b,0,none⟩) n cap)) w (w2.setCell ⟨h,5,none⟩ (.slice (some ⟨g1,0,none⟩) (s.S.length+1) cap1)):=by
        have t0:Touch (segS h s (.slice (ao.map fun b=>⟨b,0,none⟩) n cap)) w w:=Touch.refl _ _
        have t1:=t0.trans' HT1.out (fun x hx=>.inl (.inl hx))
        have t2:=t1.trans' HQ.out (fun x hx=>.inl (.inr (.inr (by rw [HOB.out];exact hx))))
        have t3:=(t2.alloc _).grown hgrow (fun b hb=>.inl (.inr (.inl hb)))
        exact t3.setCell (.inl (.inl (by rfl))) _
      have hsw:w.heap.size≤wr.heap.size:=Nat.le_trans HT1.out.size HQ.out.size
      have HU2:Hid (∀q,Used h { ({ s with n:=s.n+1 }:HS) with vS:=.slice (some ⟨g1,0,none⟩) (s.S.length+1) cap1,S:=s.S++[(ao,cap,s.n+1)] } q→Used h s q∨(Value.slice (ao.map fun b=>⟨b,0,none⟩) n cap).ownBlock=some q∨w.heap.size≤q):=fun q u=>by
        rcases used_S (s:=s) u with u | u | ⟨e,he,u⟩
        · exact .inl u
        · simp [Value.ownBlock] at u
          subst u
          rcases hat with hat | hat
          · exact .inl (used_vS hat)
          · exact .inr (.inr (by omega))
        · rcases List.mem_append.1 he with he | he
          · exact .inl (used_eS ⟨e,he,u⟩)
          · simp at he;subst he;exact .inr (.inl (by rw [HOB.out];exact u))
      have HI2:=hide hI2
      have HT2:=hide hT2
      have c5':=(hgrow.cell_far ⟨h,2+3,none⟩ (by simp;omega) hty).trans (by go_simp:_=some s.vS)
      have z5':=(hgrow.frozen_far ⟨h,5,none⟩ (by simp;omega) hty).trans (by go_simp:_=false)
      clear hown2 hgrow hat hty hoS hI2 hT2
      go_wp2
      go_end0
      exact ⟨rfl,by rw [HAD.out];exact HT2.out,_,HI2.out,rfl,rfl,rfl,by rw [HAD.out];exact HU2.out⟩
theorem seg_not_outS {w:World} {base h ob N base' n:Nat} {B nn:Nat→Nat} {X Y K:Nat→Nat→Int} {s:HS} {v:Value} {xs:List Value} (H:HeldInv w h s) (L:Lent w base ob N B nn X Y K) (ho:w.ownsRow base' 44 9 v n xs) {b:Nat} (hb:v.ownBlock=some b):¬outS h ob (N+2) B s b:=by
  have ty:=owns_ty ho hb
  rintro (rfl | rfl | ⟨i,hi,rfl⟩ | h1 | h1)
  · rw [row_ty H.wd] at ty;simp at ty
  · rw [row_ty L.outer] at ty;simp at ty
  · rw [row_ty (L.inner i hi)] at ty;simp at ty
  · rw [owns_ty H.oP h1] at ty;simp at ty
  · rw [owns_ty H.oO h1] at ty;simp at ty
set_option maxRecDepth 100000 in
theorem segments_any (a:Option Addr) (N c h:Nat) (A:Nat→Option Addr) (C n:Nat→Nat) (X Y K:Nat→Nat→Int) (s:HS) (w0 w:World) (hN:N≤2097152) (hn:∀i,i<N→n i≤2097152) (hS:Num.sumN n N≤1099511627776)
    (ho:OutAt w0 a N A C n X Y K) (hb0:Below w0.heap.size w0 w) (hh:w0.heap.size≤h) (H:HeldInv w h s) (hs:s.n+N+4≤1099511627776) :
    Calls Tryz.prog 8 #[.pointer (some ⟨h,0,none⟩),.slice a N c] w fun e w'=>e=.returned (.bool true)∧Below w0.heap.size w w'∧∃s',HeldInv w' h s'∧s'.n=s.n+N+4∧s'.cs=s.cs∧s'.rs=s.rs∧Touch (Used h s) w w'∧NewUsed w.heap.size h s s':=by
  have hn1:∀i,i<N→n i≤4294967295:=fun i hi=>by have:=hn i hi;omega
  have hn2:∀i,i<N→n i≤4294967296:=fun i hi=>by have:=hn i hi;omega
  have hsz0:=hb0.size
  have hhw:=H.wd.lt
  have HH:=hide H
  have HN1:=hide hn1
  have HN2:=hide hn2
  have HO:=hide (ho.below hb0)
  have hsl:(segsV N n X Y K).length≤4294967296:=by
    unfold segsV
    split
    · rename_i h0
      rcases Num.chk_cases N n X Y K with ⟨_,hm,_,_⟩ | h1
      · have:=allS_len n X Y K N
        have:=(ok_many hm).2.1
        omega
      · exact absurd h0 h1
    · simp
  clear H hn1 hn2 ho hn hb0
  obtain ⟨SV,hSV⟩:∃SV,SV=segsV N n X Y K:=⟨_,rfl⟩
  obtain ⟨cd,hcd⟩:∃cd,cd=(Num.chkV N n X Y K).1:=⟨_,rfl⟩
  rw [←hSV] at hsl
  have HSV:=hide hSV
  have HCD:=hide hcd
  clear hSV hcd
  go_enter Tryz.func8,Tryz.ntmps8
  go_wp2_with fail
  refine (lend_any _ _ _ A C n X Y K _ (by omega) HN1.out HO.out).mono ?_
  rintro e w1 ⟨rfl,hb1,B,hL⟩
  have HL:=hide hL
  have HB1:=hide hb1
  have hs1:=hb1.size
  clear hL hb1
  go_wp2_with fail
  refine (glyphSegments_any _ _ _ _ _ n X Y K _ (by omega) HN2.out HL.out.out).mono ?_
  rw [←HSV.out,←HCD.out]
  rintro e w2 ⟨l,rfl,hb2,hol⟩
  have HB2:=hide (HB1.out.trans (hb2.mono hs1))
  have HL2:=hide (HL.out.below hb2)
  have Hol2:=hide hol
  have hs2:=hb2.size
  clear hb2 hol
  go_wp2_with fail
  refine (refSegments_any _ _ _ A C n X Y K _ (by omega) HN2.out hS (HO.out.below HB2.out)).mono ?_
  rw [←HSV.out,←HCD.out]
  rintro e w3 ⟨r,rfl,hb3,hor⟩
  have HB3:=hide (HB2.out.trans (hb3.mono (by omega)))
  have HL3:=hide (HL2.out.below hb3)
  have Hol3:=hide (owns_of_block Hol2.out (fun b hbb=>hb3.block b (Hol2.out.lt b hbb).2))
  have Hor3:=hide hor
  have hs3:=hb3.size
  clear hb3 hor
  go_wp2_with fail
  refine (lent_any _ _ _ _ _ A C n B X Y K _ (by omega) HN1.out HL3.out (HO.out.below HB3.out)).mono ?_
  rintro e w4 ⟨rfl,hb4⟩
  have HB4:=hide (HB3.out.trans (hb4.mono (by omega)))
  have HL4:=hide (HL3.out.below hb4)
  have Hol4:=hide (owns_of_block Hol3.out (fun b hbb=>hb4.block b (Hol3.out.lt b hbb).2))
  have Hor4:=hide (owns_of_block Hor3.out (fun b hbb=>hb4.block b (Hor3.out.lt b hbb).2))
  have hs4:=hb4.size
  clear hb4
  go_wp2_with fail
  refine (sameSegments_any l r _ _ SV _ hsl Hol4.out Hor4.out).mono ?_
  rintro e w5 ⟨rfl,nd,hw5⟩
  have HB5:Hid (Below w.heap.size w w5):=by unfold Hid;rw [hw5];exact below_drewN HB4.out nd
  have HL5:Hid (Lent w5 w.heap.size w.heap.size N B n X Y K):=by unfold Hid;rw [hw5];exact HL4.out.below (below_drewN (Below.refl _ _) nd)
  have Hol5:Hid (w5.ownsRow w1.heap.size 44 9 l SV.length (SV.flatMap sgC)):=by unfold Hid;rw [hw5];exact Hol4.out
  have hs5:w4.heap.size≤w5.heap.size:=by rw [hw5];exact Nat.le_refl _
  clear hw5
  have H5:=hide (HH.out.below HB5.out)
  go_wp2_with fail
  refine (outline_full w.heap.size h w.heap.size N (N+2) B _ _ s _ (by omega) H5.out (HL5.out.lists HH.out.under (by omega) HN1.out) (by omega) (by omega)).mono ?_
  rintro e w6 ⟨rfl,hT6,s1,hI6,hn6,hcs,hrs,hS6,hvS,_,_,_,_,_,_,hU6⟩
  have HU6:=hide hU6
  have Hol6:Hid (w6.ownsRow w1.heap.size 44 9 l SV.length (SV.flatMap sgC)):=
    owns_of_block Hol5.out (fun b hbb=>hT6.block b (Hol5.out.lt b hbb).2 (seg_not_outS H5.out HL5.out Hol5.out hbb))
  have HT6:=hide hT6
  have HI6:=hide hI6
  have hN6:=hide (And.intro hn6 (And.intro hcs hrs))
  have HS6:=hide hS6
  have HVS:=hide hvS
  have hsn:s1.n+1≤1099511627776:=by rw [hn6];omega
  clear hU6 hT6 hI6 hn6 hcs hrs hS6 hvS
  go_wp2_with fail
  refine (heldSegments_any h _ _ l _ s1 _ HI6.out Hol6.out (fun x hx b hb e=>by
    rw [HS6.out] at hx
    have h1:=(HH.out.eS x hx b hb).lt
    have h2:=(Hol6.out.lt b e).1
    omega) hsn).mono ?_
  rintro e w7 ⟨rfl,hT7,s2,hI7,hn7,hcs7,hrs7,hU7⟩
  have HU7:=hide hU7
  have HT7:=hide hT7
  have HI7:=hide (And.intro hI7 (And.intro hn7 (And.intro hcs7 hrs7)))
  clear hU7 hT7 hI7 hn7 hcs7 hrs7
  go_wp2_with (go_at_call 27;refine (num_any _ _).mono ?_;rintro e w' ⟨rfl,rfl⟩)
  go_ret
  obtain ⟨hI7,hn7,hcs7,hrs7⟩:=HI7.out
  obtain ⟨hn6,hcs6,hrs6⟩:=hN6.out
  refine ⟨rfl,?_,s2,hI7,?_,hcs7.trans hcs6,hrs7.trans hrs6,?_,fun q hq=>?_⟩
  · have t6:=HT6.out.below (B:=w0.heap.size) (by omega) (fun b hb=>outS_ge H5.out hh (by omega) (fun i hi=>by have:=HL5.out.geB i hi;omega) hb)
    have hs6:=HT6.out.size
    have t7:=HT7.out.below (B:=w0.heap.size) (by omega) (fun b hb=>by
      rcases hb with rfl | hb | hb
      · exact hh
      · have:=(HI6.out.oS.lt b hb).1;omega
      · have:=(Hol6.out.lt b hb).1;omega)
    exact ((HB5.out.mono hsz0).trans t6).trans t7
  · rw [hn7,hn6];omega
  · have t6:=((Touch.refl (Used h s) w).of_below HB5.out).trans' HT6.out (fun q hq=>outS_used (B0:=w.heap.size) (by omega) (fun i hi=>by have:=HL5.out.geB i hi;omega) hq)
    refine t6.trans' HT7.out (fun q hq=>?_)
    rcases hq with rfl | hq | hq
    · exact .inl (.inl rfl)
    · rw [HVS.out] at hq;exact .inl (used_vS hq)
    · have:=(Hol6.out.lt q hq).1;exact .inr (by omega)
  · have hs6:=HT6.out.size
    have old:Used h s1 q→Used h s q∨w.heap.size≤q:=fun hq=>by
      rcases HU6.out q hq with h1 | h1 | h1
      · exact .inl h1
      · exact outS_used (B0:=w.heap.size) (by omega) (fun i hi=>by have:=HL5.out.geB i hi;omega) h1
      · exact .inr (by omega)
    rcases HU7.out q hq with h1 | h1 | h1
    · exact old h1
    · have:=(Hol6.out.lt q h1).1;exact .inr (by omega)
    · exact .inr (by omega)
theorem keep4 {w:World} {o1 o2 o3 o4:Obj} {b o:Nat} {v:Value} (hb:b<w.heap.size) (h:w.cell? ⟨b,o,none⟩=some v):((((w.alloc o1).alloc o2).alloc o3).alloc o4).drew.cell? ⟨b,o,none⟩=some v:=by
  have e:Below w.heap.size w ((((w.alloc o1).alloc o2).alloc o3).alloc o4).drew:=by (repeat any_goals first | exact .refl _ _ | assumption | refine .drew ?_ | refine below_drewN ?_ _ | refine .setCell ?_ ?_ _ | refine .alloc ?_ ?_ _ | omega | (simp <;> omega))
  exact (e.cell (p:=⟨b,o,none⟩) hb).trans h
theorem last_at:∀(RR:List (Int×Int)) (k:Nat) (hk:k≤RR.length) (x y:Int),((x,y)::RR)[k]'(by simp;omega)=Num.lastS x y (RR.take k):=by
  intro RR
  induction RR with
  | nil=>intro k hk x y;simp at hk;subst hk;rfl
  | cons t r ih=>
    intro k hk x y
    cases k with
    | zero=>rfl
    | succ k=>exact ih k (by simpa using hk) t.1 t.2
set_option maxRecDepth 100000 in
theorem refCuts_any (ax ay bx b2:Int) (w:World) :
    Calls Tryz.prog 43 #[.agg #[.int .i64 ax,.int .i64 ay],.agg #[.int .i64 bx,.int .i64 b2]] w fun e w'=>∃v,e=.returned (.tuple #[v,.int .i64 (Num.cutsE ax ay bx b2)])∧Below w.heap.size w w'∧w'.ownsRow w.heap.size 42 2 v (Num.cutsL ax ay bx b2).length ((Num.cutsL ax ay bx b2).flatMap spC):=by
  cases ha:Num.inB ax ay
  · obtain ⟨e1,e2⟩:=cuts_no (ax:=ax) (ay:=ay) (bx:=bx) (b2:=b2) (by rw [ha];rfl)
    rw [e1,e2]
    clear e1 e2
    go_enter Tryz.func43,Tryz.ntmps43
    go_wp2_with (go_at_call 76;refine (refInRange_exact _ _ _).mono ?_;rintro e w' ⟨rfl,rfl⟩)
    go_ret2
    exact ⟨_,rfl,by (repeat any_goals first | exact .refl _ _ | assumption | refine .drew ?_ | refine below_drewN ?_ _ | refine .setCell ?_ ?_ _ | refine .alloc ?_ ?_ _ | omega | (simp <;> omega)),World.ownsRow_nil _ _ _ _⟩
  cases hb:Num.inB bx b2
  · obtain ⟨e1,e2⟩:=cuts_no (ax:=ax) (ay:=ay) (bx:=bx) (b2:=b2) (by rw [ha,hb];rfl)
    rw [e1,e2]
    clear e1 e2
    go_enter Tryz.func43,Tryz.ntmps43
    go_wp2_with (go_at_call 76;refine (refInRange_exact _ _ _).mono ?_;rintro e w' ⟨rfl,rfl⟩)
    go_ret2
    exact ⟨_,rfl,by (repeat any_goals first | exact .refl _ _ | assumption | refine .drew ?_ | refine below_drewN ?_ _ | refine .setCell ?_ ?_ _ | refine .alloc ?_ ?_ _ | omega | (simp <;> omega)),World.ownsRow_nil _ _ _ _⟩
  obtain ⟨eE,eL⟩:=cuts_yes ha hb
  have hRin:∀t∈Num.rowsV ax ay bx b2++[(bx,b2)],Num.inB t.1 t.2=true:=fun t ht=>by
    rcases List.mem_append.1 ht with ht | ht
    · exact Num.rowsV_in ha hb t ht
    · simp at ht;subst ht;exact hb
  have hmem:∀z∈Num.linesV ay b2,(ay<z∧z<b2)∨(b2<z∧z<ay):=fun z hz=>Num.linesV_mem hz
  have hat0:∀j (hj:j<(Num.linesV ay b2).length),(Num.rowsV ax ay bx b2).take (j+1)=(Num.rowsV ax ay bx b2).take j++[(fun z=>(Num.atV ax bx ay b2 z,z)) (Num.linesV ay b2)[j]]:=fun j hj=>atRows_at hj
  have hll:(Num.rowsV ax ay bx b2).length=(Num.linesV ay b2).length:=by unfold Num.rowsV;simp
  have hle:=Num.linesV_len ay b2
  have HLn:=hide (fun w=>refLines_any ay b2 w)
  obtain ⟨L,hL⟩:∃L,L=Num.linesV ay b2:=⟨_,rfl⟩
  obtain ⟨R,hR⟩:∃R,R=Num.rowsV ax ay bx b2:=⟨_,rfl⟩
  rw [←hL] at HLn hmem hll hle
  have hat1:∀j (hj:j<L.length),R.take (j+1)=R.take j++[(fun z=>(Num.atV ax bx ay b2 z,z)) L[j]]:=by rw [hR,hL];exact hat0
  rw [←hR] at hll eL hRin
  obtain ⟨RR,hRR⟩:∃RR,RR=R++[(bx,b2)]:=⟨_,rfl⟩
  rw [←hRR] at eL hRin
  have HRR:=hide hRR
  clear hRR
  have HAt:=hide hat1
  have HMem:=hide hmem
  have HIn:=hide hRin
  have HXat:=hide (fun (z:Int) w (h1:ay≠b2) (h2:-16384≤z∧z≤16384)=>xat_any ax ay bx b2 z w h1 (Num.inB_yes ha) (Num.inB_yes hb) h2)
  have hay:=(Num.inB_yes ha).2
  have hby:=(Num.inB_yes hb).2
  rw [eE,eL]
  have HA:=hide ha
  clear hL hR hat0 hat1 hmem hRin eE eL
  obtain ⟨i0,hi0,hz0,hz1,hz2⟩:=info_parts info_spot
  obtain ⟨W4,hW4⟩:∃W4,W4=((((w.alloc (.cells #[.int .i64 ax,.int .i64 ay] 42)).alloc (.cells #[.int .i64 bx,.int .i64 b2] 42)).alloc (.cells #[.int .i64 ax,.int .i64 ay] 42)).alloc (.cells #[.int .i64 bx,.int .i64 b2] 42)):=⟨_,rfl⟩
  have hsW:W4.heap.size=w.heap.size+4:=by rw [hW4];simp
  have HV0:=hide (World.ownsRow_lit (base:=w.heap.size+4) (e:=42) (size:=2) W4 #[.int .i64 ax,.int .i64 ay] 1 (by omega) (by unfold maxLen;omega) rfl)
  rw [hsW] at HV0
  have HW4:=hide hW4
  have HB4:Hid (Below w.heap.size w W4):=by unfold Hid;rw [hW4];(repeat any_goals first | exact .refl _ _ | assumption | refine .drew ?_ | refine below_drewN ?_ _ | refine .setCell ?_ ?_ _ | refine .alloc ?_ ?_ _ | omega | (simp <;> omega))
  clear hW4
  go_enter Tryz.func43,Tryz.ntmps43
  go_wp2_with (go_at_call 76;refine (refInRange_exact _ _ _).mono ?_;rintro e w' ⟨rfl,rfl⟩)
  refine (HLn.out _).mono ?_
  rw [←HW4.out]
  rintro e w1 ⟨vL,rfl,hb1,hown1⟩
  clear ha hb
  have hs1:w.heap.size+4<w1.heap.size:=by have:=hb1.size;simp at this;omega
  have hB1:Below (w.heap.size+4) W4 w1:=((Below.refl _ _).alloc (by omega) _).trans (hb1.mono (by simp;omega))
  have hV1:=owns_of_block HV0.out (fun b hbb=>hb1.block b (HV0.out.lt b hbb).2)
  obtain ⟨ao,capL,rfl,hao⟩:=owns_formN hown1
  have HO1:=hide hown1
  have HAo:=hide hao
  obtain ⟨m2,hm2⟩:∃m2,m2=L.length:=⟨_,rfl⟩
  rw [←hm2] at hle hll ⊢
  have HM2:=hide hm2
  have hbl:∀g2,ao=some ⟨g2,0,none⟩→w.heap.size+4<g2∧g2<w1.heap.size:=fun g2 e=>by
    have:=hown1.lt g2 (by rw [e];rfl)
    simp at this;omega
  have HBl:=hide hbl
  clear hb1 hown1 hao hm2 hbl
  go_wp2_with fail
  go_loopw [8,10] (fun v t wr=>∃j:Nat,j≤m2∧t=.int .i64 j∧w1.heap.size≤wr.heap.size∧Below (w.heap.size+4) W4 wr∧wr.ownsRow (w.heap.size+4) 42 2 v (j+1) (((ax,ay)::R.take j).flatMap spC)∧∀g2,ao=some ⟨g2,0,none⟩→v.ownBlock≠some g2∧wr.heap[g2]? = w1.heap[g2]?) (fun _ t _=>m2-(intOf t).toNat)
  case atStart=>exact ⟨0,by omega,rfl,Nat.le_refl _,hB1,by simpa [spC] using hV1,fun g2 e2=>⟨by have:=HBl.out g2 e2;simp [Value.ownBlock];omega,rfl⟩⟩
  case round=>
    obtain ⟨v,rfl⟩:∃v,v=u8:=⟨_,rfl⟩
    obtain ⟨j,hj,rfl,hsr,hB,hown,hne⟩:=hrel
    have sz0:w.heap.size<wr.heap.size:=by omega
    have sz1:w.heap.size+1<wr.heap.size:=by omega
    have a0:wr.cell? ⟨w.heap.size,0,none⟩=some (.int .i64 ax):=(hB.cell (p:=⟨w.heap.size,0,none⟩) (by simp)).trans (by rw [HW4.out];go_simp)
    have a1:wr.cell? ⟨w.heap.size,1,none⟩=some (.int .i64 ay):=(hB.cell (p:=⟨w.heap.size,1,none⟩) (by simp)).trans (by rw [HW4.out];go_simp)
    have e0:wr.cell? ⟨w.heap.size+1,0,none⟩=some (.int .i64 bx):=(hB.cell (p:=⟨w.heap.size+1,0,none⟩) (by simp)).trans (by rw [HW4.out];go_simp)
    have e1:wr.cell? ⟨w.heap.size+1,1,none⟩=some (.int .i64 b2):=(hB.cell (p:=⟨w.heap.size+1,1,none⟩) (by simp)).trans (by rw [HW4.out];go_simp)
    by_cases hlt:j<m2
    · have hjl:j<L.length:=by rw [←HM2.out];exact hlt
      obtain ⟨g2,rfl⟩:=HAo.out (by omega)
      obtain ⟨hne2,hblk⟩:=hne g2 rfl
      obtain ⟨gl1,gl2⟩:=HBl.out g2 rfl
      have hO2:=owns_of_block (w':=wr) HO1.out (fun b hbb=>by simp [Value.ownBlock] at hbb;subst hbb;exact hblk)
      have cz:=owns_int hO2 j hjl
      have hzm:=HMem.out _ (List.getElem_mem hjl)
      have HTk:=hide (HAt.out j hjl)
      obtain ⟨z,hz⟩:∃z,z=L[j]:=⟨_,rfl⟩
      rw [←hz] at cz hzm HTk
      clear hO2 hz
      have zb:-16384≤z∧z≤16384:=by omega
      have hpq:ay≠b2:=by omega
      have HC:=hide (fun w=>HXat.out z w hpq zb)
      obtain ⟨m,hm⟩:∃m,m=Num.atV ax bx ay b2 z:=⟨_,rfl⟩
      rw [←hm] at HC
      have HTk2:Hid (R.take (j+1)=R.take j++[(m,z)]):=by unfold Hid;rw [HTk.out,hm]
      have hd1:decide ((j:Int)<(m2:Int))=true:=by simp;omega
      have g0:(0:Int)≤(j:Int):=by omega
      have g1:(j:Int)<(m2:Int):=by omega
      obtain ⟨xs,hxs⟩:∃xs,xs=((ax,ay)::R.take j).flatMap spC:=⟨_,rfl⟩
      rw [←hxs] at hown
      have HX:=hide hxs
      have HNe:=hide hne2
      have HBk:=hide hblk
      clear hm hzm HTk hxs hne hne2 hblk zb hpq
      go_wp2_with fail
      go_region_held3 (fun w'=>w'.cell? ⟨w.heap.size,0,none⟩=some (.int .i64 ax)∧w'.cell? ⟨w.heap.size,1,none⟩=some (.int .i64 ay)∧w'.cell? ⟨w.heap.size+1,0,none⟩=some (.int .i64 bx)∧w'.cell? ⟨w.heap.size+1,1,none⟩=some (.int .i64 b2)∧w'.cell? ⟨g2,j,none⟩=some (.int .i64 z)) (go_keep) ((go_at_call 86;refine (HC.out _).mono ?_;rintro e w' ⟨rfl,rfl⟩))
      obtain ⟨wS,hwS⟩:∃wS,wS=((wr.alloc (.cells #[.int .i64 ax,.int .i64 ay] 42)).alloc (.cells #[.int .i64 bx,.int .i64 b2] 42)).drew:=⟨_,rfl⟩
      rw [←hwS]
      have hbS:Below wr.heap.size wr wS:=by rw [hwS];(repeat any_goals first | exact .refl _ _ | assumption | refine .drew ?_ | refine below_drewN ?_ _ | refine .setCell ?_ ?_ _ | refine .alloc ?_ ?_ _ | omega | (simp <;> omega))
      have hsS:=hbS.size
      have cz':=(hbS.cell (p:=⟨g2,j,none⟩) (by show g2<wr.heap.size;omega)).trans cz
      have hownS:=owns_of_block hown (fun b hbb=>hbS.block b (hown.lt b hbb).2)
      have hBS:Below (w.heap.size+4) W4 wS:=hB.trans (hbS.mono (by omega))
      have hbkS:wS.heap[g2]? = w1.heap[g2]?:=(hbS.block g2 (by omega)).trans HBk.out
      clear hwS hbS hown hB a0 a1 e0 e1 cz
      go_wp2_with (at_builtin;refine wpList_append_lies _ rfl _ _ 88 rfl (w.heap.size+4) 42 i0 (.agg #[.int .i64 0,.int .i64 0]) 2 16 Tryz.underlying88 hi0 hz0 hz1 hz2 rfl (by omega) v (j+1) xs rfl (hownS.alloc _) ⟨wS.heap.size,0,none⟩ 1 1 [.int .i64 m,.int .i64 z] rfl rfl ?e1 ?e2 (by omega) ?e3 ?e4 ?e5 (wS.heap.size+1) (by simp) ?_)
      try (case e1=>exact news_sp wS [.int .i64 m,.int .i64 z] _ _ rfl)
      case e2=>first | exact one_two _ _ | exact ⟨rfl,rfl⟩
      case e3=>unfold maxLen;omega
      case e4=>omega
      case e5=>first | omega | (simp;omega)
      intro g cap w4 hown4 hgrow hat hlt4
      have hb4:Below (w.heap.size+4) W4 w4:=(hBS.alloc (by omega) _).grown hgrow (by simp;omega) (fun q hq=>(hownS.lt q hq).1)
      have hs4:w1.heap.size≤w4.heap.size:=by have:=hgrow.size;rw [nblk_alloc] at this;omega
      have HO4:Hid (w4.ownsRow (w.heap.size+4) 42 2 (.slice (some ⟨g,0,none⟩) (j+1+1) cap) (j+1+1) (((ax,ay)::R.take (j+1)).flatMap spC)):=by
        unfold Hid
        have:=push_sp (l:=(ax,ay)::R.take j) (l':=(ax,ay)::R.take (j+1)) (p:=(m,z)) (m:=j+1+1) (by rw [←HX.out];exact hown4) (by rw [HTk2.out];rfl) (by rw [List.length_cons,List.length_take,hll];omega)
        rw [List.length_cons,List.length_take,hll,Nat.min_eq_left (by omega)] at this
        exact this
      have HNe2:Hid ((Value.slice (some ⟨g,0,none⟩) (j+1+1) cap).ownBlock≠some g2):=by
        unfold Hid
        intro e
        simp [Value.ownBlock] at e
        rcases hat with hat | hat
        · exact HNe.out (by rw [hat,e])
        · omega
      have HBk2:Hid (w4.heap[g2]? = w1.heap[g2]?):=by
        unfold Hid
        rw [hgrow.block g2 (by rw [nblk_alloc];omega) (fun e=>HNe.out e.symm),blk_alloc_lt _ _ _ (by omega)]
        exact hbkS
      clear hown4 hgrow hat hownS hBS hbkS cz'
      go_wp2
      go_roundw
      case rel=>exact ⟨j+1,by omega,by go_num,hs4,hb4,HO4.out,fun g3 e3=>by simp at e3;subst e3;exact ⟨HNe2.out,HBk2.out⟩⟩
      case measure=>simp [intOf];omega
    · have e:j=m2:=by omega
      have hd0:decide ((j:Int)<(m2:Int))=false:=by simp;omega
      have htk:R.take j=R:=List.take_of_length_le (by omega)
      rw [htk] at hown
      obtain ⟨xs,hxs⟩:∃xs,xs=((ax,ay)::R).flatMap spC:=⟨_,rfl⟩
      rw [←hxs] at hown
      have HX:=hide hxs
      clear hne hxs htk
      subst e
      go_wp2_with (at_builtin;refine wpList_append_lies _ rfl _ _ 88 rfl (w.heap.size+4) 42 i0 (.agg #[.int .i64 0,.int .i64 0]) 2 16 Tryz.underlying88 hi0 hz0 hz1 hz2 rfl (by omega) v (j+1) xs rfl (hown.alloc _) ⟨wr.heap.size,0,none⟩ 1 1 [.int .i64 bx,.int .i64 b2] rfl rfl ?h1 ?h2 (by omega) ?h3 ?h4 ?h5 (wr.heap.size+1) (by simp) ?_)
      try (case h1=>exact news_sp wr [.int .i64 bx,.int .i64 b2] _ _ rfl)
      case h2=>first | exact one_two _ _ | exact ⟨rfl,rfl⟩
      case h3=>unfold maxLen;omega
      case h4=>omega
      case h5=>first | omega | (simp;omega)
      intro g8 cap8 w2 hown2 hgrow hat hlt2
      have hB2:Below (w.heap.size+4) W4 w2:=(hB.alloc (by omega) _).grown hgrow (by simp;omega) (fun q hq=>(hown.lt q hq).1)
      have hs2:w.heap.size+4<w2.heap.size:=by have:=hgrow.size;rw [nblk_alloc] at this;omega
      have f0:w2.cell? ⟨w.heap.size,0,none⟩=some (.int .i64 ax):=(hB2.cell (p:=⟨w.heap.size,0,none⟩) (by simp)).trans (by rw [HW4.out];go_simp)
      have f1:w2.cell? ⟨w.heap.size,1,none⟩=some (.int .i64 ay):=(hB2.cell (p:=⟨w.heap.size,1,none⟩) (by simp)).trans (by rw [HW4.out];go_simp)
      have HBw:Hid (Below w.heap.size w w2):=HB4.out.trans (hB2.mono (by omega))
      have sz2:w.heap.size<w2.heap.size:=by omega
      have hRRl:RR.length=j+1:=by rw [HRR.out];simp;omega
      have HO8:Hid (w2.ownsRow (w.heap.size+4) 42 2 (.slice (some ⟨g8,0,none⟩) ((ax,ay)::RR).length cap8) ((ax,ay)::RR).length (((ax,ay)::RR).flatMap spC)):=by
        unfold Hid
        have e1:((ax,ay)::RR).length=j+1+1:=by simp;omega
        have e2:((ax,ay)::RR).flatMap spC=xs++[.int .i64 bx,.int .i64 b2]:=by rw [HRR.out,HX.out];simp [spC]
        rw [e1,e2]
        exact hown2
      have hg8:g8<w2.heap.size:=hlt2
      obtain ⟨n,hn⟩:∃n,n=RR.length:=⟨_,rfl⟩
      have hjn:j+1+1=n+1:=by omega
      have HN:=hide hn
      have n2:n≤1027:=by omega
      have hRR2:RR.length≤1027:=by omega
      have HLt:=hide hRR2
      have HVo:=hide (World.ownsRow_lit (base:=w2.heap.size) (e:=42) (size:=2) w2 #[.int .i64 ax,.int .i64 ay] 1 (Nat.le_refl _) (by unfold maxLen;omega) rfl)
      rw [hjn]
      clear hown2 hgrow hat hown hB a0 a1 e0 e1 hn hRRl hB2 hjn hRR2
      go_wp2_with fail
      go_loopw [12,13] (fun v t wr=>∃k:Nat,k≤n∧t=.int .i64 ((k:Int)+1)∧Below w2.heap.size w2 wr∧wr.ownsRow w2.heap.size 42 2 v (cutU ax ay RR k).length ((cutU ax ay RR k).flatMap spC)) (fun _ t _=>(n+1-intOf t).toNat)
      case atStart=>
        refine ⟨0,by omega,rfl,(Below.refl _ _).alloc (Nat.le_refl _) _,?_⟩
        have e:cutU ax ay RR 0=[(ax,ay)]:=by simp [cutU,Num.cutF]
        rw [e]
        exact HVo.out
      case round=>
        obtain ⟨vo,rfl⟩:∃vo,vo=u12:=⟨_,rfl⟩
        obtain ⟨wo,rfl⟩:∃wo,wo=wr:=⟨wr,rfl⟩
        obtain ⟨k,hk,rfl,hb,hown⟩:=hrel
        have hsz:=hb.size
        by_cases hlt2:k<n
        · have hkl:k<RR.length:=by rw [←HN.out];exact hlt2
          have hd1:decide ((k:Int)+1<((n+1:Nat):Int))=true:=by simp;omega
          have hO8:=owns_of_block (w':=wo) HO8.out (fun b hbb=>by simp [Value.ownBlock] at hbb;subst hbb;exact hb.block _ hg8)
          obtain ⟨p0,p1⟩:=owns_sp hO8 k (by simp;omega)
          obtain ⟨q0,q1⟩:=owns_sp hO8 (k+1) (by simp;omega)
          rw [List.getElem_cons_succ] at q0 q1
          have hla:=last_at RR k (by omega) ax ay
          have hfin:=Num.lastS_in (RR.take k) ax ay HA.out (fun t ht=>HIn.out t (List.mem_of_mem_take ht))
          have htin:=HIn.out _ (List.getElem_mem hkl)
          have HSu:=hide (cutU_succ hkl (x:=(Num.lastS ax ay (RR.take k)).1) (y:=(Num.lastS ax ay (RR.take k)).2) rfl)
          rw [hla] at p0 p1
          have hlen:=cutU_len ax ay RR k HLt.out
          obtain ⟨pp,hpp⟩:∃pp,pp=Num.lastS ax ay (RR.take k):=⟨_,rfl⟩
          obtain ⟨qq,hqq⟩:∃qq,qq=RR[k]:=⟨_,rfl⟩
          rw [←hpp] at p0 p1 hfin HSu
          rw [←hqq] at q0 q1 htin HSu
          obtain ⟨px,py⟩:=pp
          obtain ⟨qx,qy⟩:=qq
          simp only at p0 p1 q0 q1 hfin htin HSu
          have hP:=Num.inB_yes hfin
          have hQ:=Num.inB_yes htin
          have hcmem:∀z∈Num.linesV px qx,(px<z∧z<qx)∨(qx<z∧z<px):=fun z hz=>Num.linesV_mem hz
          have hcat:∀i (hi:i<(Num.linesV px qx).length),(Num.colsV px py qx qy).take (i+1)=(Num.colsV px py qx qy).take i++[(fun z=>(z,Num.atV py qy px qx z)) (Num.linesV px qx)[i]]:=fun i hi=>atCols_at hi
          have hcll:(Num.colsV px py qx qy).length=(Num.linesV px qx).length:=by unfold Num.colsV;simp
          have hcle:=Num.linesV_len px qx
          have HLc:=hide (fun w=>refLines_any px qx w)
          have HYat:=hide (fun (z:Int) w (h1:px≠qx) (h2:-16384≤z∧z≤16384)=>yat_any px py qx qy z w h1 hP hQ h2)
          obtain ⟨LC,hLC⟩:∃LC,LC=Num.linesV px qx:=⟨_,rfl⟩
          obtain ⟨CV,hCV⟩:∃CV,CV=Num.colsV px py qx qy:=⟨_,rfl⟩
          rw [←hLC] at HLc hcmem hcll hcle
          have hcat1:∀i (hi:i<LC.length),CV.take (i+1)=CV.take i++[(fun z=>(z,Num.atV py qy px qx z)) LC[i]]:=by rw [hCV,hLC];exact hcat
          rw [←hCV] at hcll HSu
          have HCat:=hide hcat1
          have HCm:=hide hcmem
          have hpx:=hP.1
          have hqx:=hQ.1
          obtain ⟨U,hU⟩:∃U,U=cutU ax ay RR k:=⟨_,rfl⟩
          rw [←hU] at HSu hown hlen
          have HOw:=hide hown
          have HB:=hide hb
          clear hO8 hla hfin htin hpp hqq hP hQ hcmem hcat hLC hCV hcat1 hU hown hb
          have hg8w:g8<wo.heap.size:=by omega
          have k0:(0:Int)≤(k:Int):=by omega
          have k1:(k:Int)<((n+1:Nat):Int):=by omega
          have k2:(k:Int)+1<((n+1:Nat):Int):=by omega
          go_wp2_with fail
          refine (HLc.out _).mono ?_
          rintro e w3 ⟨vC,rfl,hb3,hown3⟩
          have hs3:wo.heap.size+1<w3.heap.size:=by have:=hb3.size;simp at this;omega
          have hs3':wo.heap.size<w3.heap.size:=by omega
          have hB3:Below wo.heap.size wo w3:=Below.trans (by (repeat any_goals first | exact .refl _ _ | assumption | refine .drew ?_ | refine below_drewN ?_ _ | refine .setCell ?_ ?_ _ | refine .alloc ?_ ?_ _ | omega | (simp <;> omega))) (hb3.mono (by simp;omega))
          have hP3:w3.rowIs wo.heap.size 42 2 (sp2 px py):=row_below ((sp2_row px py wo 42).alloc _) hb3 (by simp;omega)
          have hQ3:w3.rowIs (wo.heap.size+1) 42 2 (sp2 qx qy):=by
            have h:=sp2_row qx qy (wo.alloc (.cells #[.int .i64 px,.int .i64 py] 42)) 42
            rw [nblk_alloc] at h
            exact row_below h hb3 (by simp)
          have hV3:=owns_of_block HOw.out (fun b hbb=>hB3.block b (HOw.out.lt b hbb).2)
          have hvlt:∀b,vo.ownBlock=some b→w2.heap.size≤b∧b<wo.heap.size:=fun b hbb=>HOw.out.lt b hbb
          obtain ⟨ac,capC,rfl,hac⟩:=owns_formN hown3
          have hcl:∀gC,ac=some ⟨gC,0,none⟩→wo.heap.size+1<gC∧gC<w3.heap.size:=fun gC e=>by
            have:=hown3.lt gC (by rw [e];rfl)
            simp at this;omega
          obtain ⟨mC,hmC⟩:∃mC,mC=LC.length:=⟨_,rfl⟩
          rw [←hmC] at hcle hcll ⊢
          have HMC:=hide hmC
          have HOC:=hide hown3
          have HAC:=hide hac
          have HCL:=hide hcl
          have HP3:=hide hP3
          have HQ3:=hide hQ3
          have HVl:=hide hvlt
          have HB3:=hide (HB.out.trans (hB3.mono hsz))
          clear hb3 hown3 hac hcl hP3 hQ3 hvlt hmC p0 p1 q0 q1 hB3 k0 k1 k2
          go_wp2_with fail
          go_loopw [12,16] (fun v t wr=>∃i:Nat,i≤mC∧t=.int .i64 i∧Touch (fun b=>vo.ownBlock=some b) w3 wr∧Below w2.heap.size w2 wr∧(v.ownBlock=vo.ownBlock∨∃g,v.ownBlock=some g∧w3.heap.size≤g)∧wr.ownsRow w2.heap.size 42 2 v (U++CV.take i).length ((U++CV.take i).flatMap spC)) (fun _ t _=>mC-(intOf t).toNat)
          case atStart=>exact ⟨0,by omega,rfl,Touch.refl _ _,HB3.out,.inl rfl,by simpa using hV3⟩
          case round=>
            obtain ⟨v,rfl⟩:∃v,v=u12:=⟨_,rfl⟩
            obtain ⟨i,hi,rfl,hT,hBi,hvb,hown⟩:=hrel
            have hsi:=hT.size
            have hP:=hT.row HP3.out (fun e=>by have:=HVl.out _ e;omega)
            have hQ:=hT.row HQ3.out (fun e=>by have:=HVl.out _ e;omega)
            obtain ⟨pa,pb⟩:=sp2_cells hP
            obtain ⟨qa,qb⟩:=sp2_cells hQ
            have y0:wo.heap.size<wr.heap.size:=by omega
            have y1:wo.heap.size+1<wr.heap.size:=by omega
            have hlenI:(U++CV.take i).length≤1054730+1026:=by rw [List.length_append,List.length_take];omega
            by_cases hlti:i<mC
            · have hil:i<LC.length:=by rw [←HMC.out];exact hlti
              obtain ⟨gC,rfl⟩:=HAC.out (by omega)
              obtain ⟨gl3,gl4⟩:=HCL.out gC rfl
              have hneC:¬vo.ownBlock=some gC:=fun e=>by have:=HVl.out _ e;omega
              have hblkC:wr.heap[gC]? = w3.heap[gC]?:=hT.block gC gl4 hneC
              have hOC:=owns_of_block (w':=wr) HOC.out (fun b hbb=>by simp [Value.ownBlock] at hbb;subst hbb;exact hblkC)
              have cz:=owns_int hOC i hil
              have hzm:=HCm.out _ (List.getElem_mem hil)
              have HTk:=hide (HCat.out i hil)
              obtain ⟨z,hz⟩:∃z,z=LC[i]:=⟨_,rfl⟩
              rw [←hz] at cz hzm HTk
              clear hOC hz
              have zb:-16384≤z∧z≤16384:=by omega
              have hpq:px≠qx:=by omega
              have HC:=hide (fun w=>HYat.out z w hpq zb)
              obtain ⟨m,hm⟩:∃m,m=Num.atV py qy px qx z:=⟨_,rfl⟩
              rw [←hm] at HC
              have HTk2:Hid (U++CV.take (i+1)=(U++CV.take i)++[(z,m)]):=by unfold Hid;rw [HTk.out,hm,List.append_assoc]
              have hdi:decide ((i:Int)<(mC:Int))=true:=by simp;omega
              have g0:(0:Int)≤(i:Int):=by omega
              have g1:(i:Int)<(mC:Int):=by omega
              have hgCw:gC<wr.heap.size:=by omega
              obtain ⟨xs2,hxs⟩:∃xs2,xs2=(U++CV.take i).flatMap spC:=⟨_,rfl⟩
              obtain ⟨ln,hln⟩:∃ln,ln=(U++CV.take i).length:=⟨_,rfl⟩
              rw [←hxs,←hln] at hown
              rw [←hln] at hlenI
              have HX2:=hide hxs
              have HLn2:=hide hln
              have HT:=hide hT
              have HVb:=hide hvb
              have HBi:=hide hBi
              clear hm hzm HTk hxs hln zb hpq hT hvb hBi hP hQ hneC hblkC
              go_wp2_with fail
              go_region_held3 (fun w'=>w'.cell? ⟨wo.heap.size,0,none⟩=some (.int .i64 px)∧w'.cell? ⟨wo.heap.size,1,none⟩=some (.int .i64 py)∧w'.cell? ⟨wo.heap.size+1,0,none⟩=some (.int .i64 qx)∧w'.cell? ⟨wo.heap.size+1,1,none⟩=some (.int .i64 qy)∧w'.cell? ⟨gC,i,none⟩=some (.int .i64 z)) (first | exact ⟨keep4 y0 pa,keep4 y0 pb,keep4 y1 qa,keep4 y1 qb,keep4 hgCw cz⟩ | go_keep) ((go_at_call 87;refine (HC.out _).mono ?_;rintro e w' ⟨rfl,rfl⟩))
              obtain ⟨wS,hwS⟩:∃wS,wS=((((wr.alloc (.cells #[.int .i64 px,.int .i64 py] 42)).alloc (.cells #[.int .i64 qx,.int .i64 qy] 42)).alloc (.cells #[.int .i64 py,.int .i64 px] 42)).alloc (.cells #[.int .i64 qy,.int .i64 qx] 42)).drew:=⟨_,rfl⟩
              rw [←hwS]
              have hbS:Below wr.heap.size wr wS:=by rw [hwS];(repeat any_goals first | exact .refl _ _ | assumption | refine .drew ?_ | refine below_drewN ?_ _ | refine .setCell ?_ ?_ _ | refine .alloc ?_ ?_ _ | omega | (simp <;> omega))
              have hsS:=hbS.size
              have cz':=(hbS.cell (p:=⟨gC,i,none⟩) hgCw).trans cz
              have hownS:=owns_of_block hown (fun b hbb=>hbS.block b (hown.lt b hbb).2)
              have hTS:=HT.out.of_below hbS
              have hBS:Below w2.heap.size w2 wS:=HBi.out.trans (hbS.mono (by omega))
              clear hwS hbS hown pa pb qa qb cz
              go_wp2_with (at_builtin;refine wpList_append_lies _ rfl _ _ 88 rfl w2.heap.size 42 i0 (.agg #[.int .i64 0,.int .i64 0]) 2 16 Tryz.underlying88 hi0 hz0 hz1 hz2 rfl (by omega) v ln xs2 rfl (hownS.alloc _) ⟨wS.heap.size,0,none⟩ 1 1 [.int .i64 z,.int .i64 m] rfl rfl ?l1 ?l2 (by omega) ?l3 ?l4 ?l5 (wS.heap.size+1) (by simp) ?_)
              try (case l1=>exact news_sp wS [.int .i64 z,.int .i64 m] _ _ rfl)
              case l2=>first | exact one_two _ _ | exact ⟨rfl,rfl⟩
              case l3=>unfold maxLen;omega
              case l4=>omega
              case l5=>first | omega | (simp;omega)
              intro g cap w4 hown4 hgrow hat hlt4
              have hb4:Below w2.heap.size w2 w4:=(hBS.alloc (by omega) _).grown hgrow (by simp;omega) (fun q hq=>(hownS.lt q hq).1)
              have hT4:Touch (fun b=>vo.ownBlock=some b) w3 w4:=(hTS.alloc _).grown hgrow (fun b hbb=>by
                rcases HVb.out with h | ⟨g',h1,h2⟩
                · exact .inl (h ▸ hbb)
                · rw [h1] at hbb;simp at hbb;subst hbb;exact .inr h2)
              have HVb4:Hid ((Value.slice (some ⟨g,0,none⟩) (ln+1) cap).ownBlock=vo.ownBlock∨∃g',(Value.slice (some ⟨g,0,none⟩) (ln+1) cap).ownBlock=some g'∧w3.heap.size≤g'):=by
                unfold Hid
                rcases hat with hat | hat
                · rcases HVb.out with h | ⟨g',h1,h2⟩
                  · left;rw [←h,hat];rfl
                  · right;rw [hat] at h1;exact ⟨g',by simpa [Value.ownBlock] using h1,h2⟩
                · right;exact ⟨g,rfl,by omega⟩
              have HO4:Hid (w4.ownsRow w2.heap.size 42 2 (.slice (some ⟨g,0,none⟩) (ln+1) cap) (U++CV.take (i+1)).length ((U++CV.take (i+1)).flatMap spC)):=by
                unfold Hid
                exact push_sp (l:=U++CV.take i) (p:=(z,m)) (m:=ln+1) (by rw [←HX2.out];exact hown4) HTk2.out (by rw [HLn2.out])
              have HT4:=hide hT4
              clear hown4 hgrow hat hownS hBS hTS cz' hT4
              go_wp2
              go_roundw
              case rel=>exact ⟨i+1,by omega,by go_num,HT4.out,hb4,HVb4.out,HO4.out⟩
              case measure=>simp [intOf];omega
            · have hdi:decide ((i:Int)<(mC:Int))=false:=by simp;omega
              have htk:CV.take i=CV:=List.take_of_length_le (by omega)
              rw [htk] at hown hlenI
              obtain ⟨xs2,hxs⟩:∃xs2,xs2=(U++CV).flatMap spC:=⟨_,rfl⟩
              obtain ⟨ln,hln⟩:∃ln,ln=(U++CV).length:=⟨_,rfl⟩
              rw [←hxs,←hln] at hown
              rw [←hln] at hlenI
              have HX2:=hide hxs
              have HLn2:=hide hln
              clear hxs hln htk hT hvb hP hQ pa pb
              go_wp2_with (at_builtin;refine wpList_append_lies _ rfl _ _ 88 rfl w2.heap.size 42 i0 (.agg #[.int .i64 0,.int .i64 0]) 2 16 Tryz.underlying88 hi0 hz0 hz1 hz2 rfl (by omega) v ln xs2 rfl (hown.alloc _) ⟨wr.heap.size,0,none⟩ 1 1 [.int .i64 qx,.int .i64 qy] rfl rfl ?n1 ?n2 (by omega) ?n3 ?n4 ?n5 (wr.heap.size+1) (by simp) ?_)
              try (case n1=>exact news_sp wr [.int .i64 qx,.int .i64 qy] _ _ rfl)
              case n2=>first | exact one_two _ _ | exact ⟨rfl,rfl⟩
              case n3=>unfold maxLen;omega
              case n4=>omega
              case n5=>first | omega | (simp;omega)
              intro g cap w4 hown4 hgrow hat hlt4
              have hb4:Below w2.heap.size w2 w4:=(hBi.alloc (by omega) _).grown hgrow (by simp;omega) (fun q hq=>(hown.lt q hq).1)
              have HO4:Hid (w4.ownsRow w2.heap.size 42 2 (.slice (some ⟨g,0,none⟩) (ln+1) cap) (cutU ax ay RR (k+1)).length ((cutU ax ay RR (k+1)).flatMap spC)):=by
                unfold Hid
                exact push_sp (l:=U++CV) (p:=(qx,qy)) (m:=ln+1) (by rw [←HX2.out];exact hown4) HSu.out (by rw [HLn2.out])
              clear hown4 hgrow hat hown hBi qa qb
              go_wp2
              go_roundw
              case rel=>exact ⟨k+1,by omega,by go_num,hb4,HO4.out⟩
              case measure=>simp [intOf];omega
        · have e:k=n:=by omega
          have hd9:decide ((k:Int)+1<((n+1:Nat):Int))=false:=by simp;omega
          have HO:=hide hown
          have HBz:=hide (HBw.out.trans (hb.mono (by omega)))
          clear hown hb
          go_wp2
          go_ret2
          refine ⟨vo,rfl,HBz.out,?_⟩
          have h:=owns_mono (base':=w.heap.size) HO.out (by omega)
          rw [e,HN.out] at h
          exact h
theorem HeldInv.free {w:World} {h:Nat} {s:HS} (H:HeldInv w h s) {b:Nat} (hb:w.heap.size≤b):s.Free b:=
  ⟨fun e he e1=>by have:=(H.eT e he b e1).lt;omega,fun e he i hi e1=>by have:=(H.eJ e he i hi).lt;omega⟩
theorem curveL_len (g:Num.Sg):(Num.curveL g).length≤112:=by
  unfold Num.curveL
  split
  · rename_i h
    have:=curveN_eq (Num.curve_ok h).2
    simp;omega
  · simp
theorem spotS_ge {w:World} {h n base T:Nat} {s:HS} {x:Value} {xs:List Value} (H:HeldInv w h s) (hx:w.ownsRow base 42 2 x n xs) (hT:T≤h) (hb:T≤base):∀b,spotS h s x b→T≤b:=by
  rintro b (rfl | hb' | hb')
  · exact hT
  · have:=(H.oT.lt b hb').1;omega
  · have:=(hx.lt b hb').1;omega
set_option maxRecDepth 100000 in
theorem curves_any (h T:Nat) (k x0 y0 x1 y1 x2 y2 x3 y3:Int) (s:HS) (w:World) (hT:T≤h) (H:HeldInv w h s) (hs:s.n+1≤1099511627776) :
    Calls Tryz.prog 10 #[.pointer (some ⟨h,0,none⟩),.agg #[.int .i64 k,.int .i64 x0,.int .i64 y0,.int .i64 x1,.int .i64 y1,.int .i64 x2,.int .i64 y2,.int .i64 x3,.int .i64 y3]] w fun e w'=>e=.returned (.bool true)∧Below T w w'∧∃s',HeldInv w' h s'∧s'.n=s.n+1∧s'.cs=s.cs∧s'.rs=s.rs∧Touch (Used h s) w w'∧NewUsed w.heap.size h s s':=by
  have hhw:=H.wd.lt
  have HH:=hide H
  have hcl:=curveL_len (⟨k,x0,y0,x1,y1,x2,y2,x3,y3⟩:Num.Sg)
  have HRow:=hide (sg9_row k x0 y0 x1 y1 x2 y2 x3 y3 w 44)
  obtain ⟨CL,hCL⟩:∃CL,CL=Num.curveL (⟨k,x0,y0,x1,y1,x2,y2,x3,y3⟩:Num.Sg):=⟨_,rfl⟩
  obtain ⟨cd,hcd⟩:∃cd,cd=Num.curveE (⟨k,x0,y0,x1,y1,x2,y2,x3,y3⟩:Num.Sg):=⟨_,rfl⟩
  rw [←hCL] at hcl
  have HCL:=hide hCL
  have HCD:=hide hcd
  clear H hCL hcd
  go_enter Tryz.func10,Tryz.ntmps10
  go_wp2_with fail
  refine (glyphCurve_any _ _ _ _ _ _ _ _ _ _).mono ?_
  rw [←HCL.out,←HCD.out]
  rintro e w1 ⟨l,rfl,hb1,hol⟩
  have hs1:w.heap.size<w1.heap.size:=by have:=hb1.size;simp at this;omega
  have HB1:Hid (Below w.heap.size w w1):=Below.trans (by (repeat any_goals first | exact .refl _ _ | assumption | refine .drew ?_ | refine below_drewN ?_ _ | refine .setCell ?_ ?_ _ | refine .alloc ?_ ?_ _ | omega | (simp <;> omega))) (hb1.mono (by simp))
  have HR1:=hide (row_below HRow.out hb1 HRow.out.lt)
  have Hol1:=hide (owns_mono (base':=w.heap.size) hol (by simp))
  obtain ⟨c0,c1,c2,c3,c4,c5,c6,c7,c8⟩:=sg9_cells HR1.out
  clear hb1 hol
  go_wp2_with fail
  refine (refCurve_any _ _ _ _ _ _ _ _ _ _).mono ?_
  rw [←HCL.out,←HCD.out]
  rintro e w2 ⟨r,rfl,hb2,hor⟩
  have hs2:=hb2.size
  have HB2:=hide (HB1.out.trans (hb2.mono (by omega)))
  have Hol2:=hide (owns_of_block Hol1.out (fun b hbb=>hb2.block b (Hol1.out.lt b hbb).2))
  have Hor2:=hide hor
  clear hb2 hor c0 c1 c2 c3 c4 c5 c6 c7 c8
  go_wp2_with fail
  refine (sameSpots_any l r _ _ CL _ (by omega) Hol2.out Hor2.out).mono ?_
  rintro e w3 ⟨rfl,nd,hw3⟩
  have HB3:Hid (Below w.heap.size w w3):=by unfold Hid;rw [hw3];exact below_drewN HB2.out nd
  have Hol3:Hid (w3.ownsRow w.heap.size 42 2 l CL.length (CL.flatMap spC)):=by unfold Hid;rw [hw3];exact Hol2.out
  have hs3:w2.heap.size≤w3.heap.size:=by rw [hw3];exact Nat.le_refl _
  clear hw3
  have H3:=hide (HH.out.below HB3.out)
  go_wp2_with fail
  refine (heldSpots_any h _ _ l _ s _ H3.out Hol3.out (fun b hb=>HH.out.free (Hol3.out.lt b hb).1) hs).mono ?_
  rintro e w4 ⟨rfl,hT4,s1,hI4,hK⟩
  have HT4:=hide hT4
  have HI4:=hide hI4
  have HK:=hide hK
  clear hT4 hI4 hK
  go_wp2_with (go_at_call 27;refine (num_any _ _).mono ?_;rintro e w' ⟨rfl,rfl⟩)
  go_ret
  refine ⟨rfl,?_,s1,HI4.out,HK.out.n,HK.out.cs,HK.out.rs,?_,fun q hq=>?_⟩
  · exact (HB3.out.mono (by omega)).trans (HT4.out.below (by omega) (spotS_ge H3.out Hol3.out hT (by omega)))
  · refine ((Touch.refl (Used h s) w).of_below HB3.out).trans' HT4.out (fun q hq=>?_)
    rcases hq with rfl | hq | hq
    · exact .inl (.inl rfl)
    · exact .inl (used_vT hq)
    · exact .inr (Hol3.out.lt q hq).1
  · rcases HK.out.used h q hq with h1 | h1 | h1
    · exact .inl h1
    · exact .inr (Hol3.out.lt q h1).1
    · exact .inr (by omega)
theorem cutsL_len (ax ay bx b2:Int):(Num.cutsL ax ay bx b2).length≤1054730:=by
  unfold Num.cutsL
  split
  · have h:=Num.cutF_len (Num.rowsV ax ay bx b2++[(bx,b2)]) ax ay
    have h2:=Num.rowsV_len ax ay bx b2
    simp only [List.length_cons]
    simp only [List.length_append,List.length_cons,List.length_nil] at h
    omega
  · simp
theorem two_rows (ax ay bx b2:Int) (w:World) (t:TypeId):((w.alloc (.cells #[.int .i64 ax,.int .i64 ay] t)).alloc (.cells #[.int .i64 bx,.int .i64 b2] t)).rowIs w.heap.size t 2 (sp2 ax ay)∧((w.alloc (.cells #[.int .i64 ax,.int .i64 ay] t)).alloc (.cells #[.int .i64 bx,.int .i64 b2] t)).rowIs (w.heap.size+1) t 2 (sp2 bx b2):=by
  have h:=sp2_row bx b2 (w.alloc (.cells #[.int .i64 ax,.int .i64 ay] t)) t
  rw [nblk_alloc] at h
  exact ⟨(sp2_row ax ay w t).alloc _,h⟩
set_option maxRecDepth 100000 in
theorem cuts_any (h T:Nat) (ax ay bx b2:Int) (s:HS) (w:World) (hT:T≤h) (H:HeldInv w h s) (hs:s.n+1≤1099511627776) :
    Calls Tryz.prog 12 #[.pointer (some ⟨h,0,none⟩),.agg #[.int .i64 ax,.int .i64 ay],.agg #[.int .i64 bx,.int .i64 b2]] w fun e w'=>e=.returned (.bool true)∧Below T w w'∧∃s',HeldInv w' h s'∧s'.n=s.n+1∧s'.cs=s.cs∧s'.rs=s.rs∧Touch (Used h s) w w'∧NewUsed w.heap.size h s s':=by
  have hhw:=H.wd.lt
  have HH:=hide H
  have hcl:=cutsL_len ax ay bx b2
  have HRow:=hide (two_rows ax ay bx b2 w 42)
  obtain ⟨CL,hCL⟩:∃CL,CL=Num.cutsL ax ay bx b2:=⟨_,rfl⟩
  obtain ⟨cd,hcd⟩:∃cd,cd=Num.cutsE ax ay bx b2:=⟨_,rfl⟩
  rw [←hCL] at hcl
  have HCL:=hide hCL
  have HCD:=hide hcd
  clear H hCL hcd
  go_enter Tryz.func12,Tryz.ntmps12
  go_wp2_with fail
  refine (glyphCuts_any _ _ _ _ _).mono ?_
  rw [←HCL.out,←HCD.out]
  rintro e w1 ⟨l,rfl,hb1,hol⟩
  have hs1:w.heap.size+1<w1.heap.size:=by have:=hb1.size;simp at this;omega
  have hs1':w.heap.size<w1.heap.size:=by omega
  have HB1:Hid (Below w.heap.size w w1):=Below.trans (by (repeat any_goals first | exact .refl _ _ | assumption | refine .drew ?_ | refine below_drewN ?_ _ | refine .setCell ?_ ?_ _ | refine .alloc ?_ ?_ _ | omega | (simp <;> omega))) (hb1.mono (by simp;omega))
  obtain ⟨a0,a1⟩:=sp2_cells (row_below HRow.out.1 hb1 HRow.out.1.lt)
  obtain ⟨e0,e1⟩:=sp2_cells (row_below HRow.out.2 hb1 HRow.out.2.lt)
  have Hol1:=hide (owns_mono (base':=w.heap.size) hol (by simp;omega))
  clear hb1 hol
  go_wp2_with fail
  refine (refCuts_any _ _ _ _ _).mono ?_
  rw [←HCL.out,←HCD.out]
  rintro e w2 ⟨r,rfl,hb2,hor⟩
  have hs2:=hb2.size
  have HB2:=hide (HB1.out.trans (hb2.mono (by omega)))
  have Hol2:=hide (owns_of_block Hol1.out (fun b hbb=>hb2.block b (Hol1.out.lt b hbb).2))
  have Hor2:=hide hor
  clear hb2 hor a0 a1 e0 e1
  go_wp2_with fail
  refine (sameSpots_any l r _ _ CL _ (by omega) Hol2.out Hor2.out).mono ?_
  rintro e w3 ⟨rfl,nd,hw3⟩
  have HB3:Hid (Below w.heap.size w w3):=by unfold Hid;rw [hw3];exact below_drewN HB2.out nd
  have Hol3:Hid (w3.ownsRow w.heap.size 42 2 l CL.length (CL.flatMap spC)):=by unfold Hid;rw [hw3];exact Hol2.out
  have hs3:w2.heap.size≤w3.heap.size:=by rw [hw3];exact Nat.le_refl _
  clear hw3
  have H3:=hide (HH.out.below HB3.out)
  go_wp2_with fail
  refine (heldSpots_any h _ _ l _ s _ H3.out Hol3.out (fun b hb=>HH.out.free (Hol3.out.lt b hb).1) hs).mono ?_
  rintro e w4 ⟨rfl,hT4,s1,hI4,hK⟩
  have HT4:=hide hT4
  have HI4:=hide hI4
  have HK:=hide hK
  clear hT4 hI4 hK
  go_wp2_with (go_at_call 27;refine (num_any _ _).mono ?_;rintro e w' ⟨rfl,rfl⟩)
  go_ret
  refine ⟨rfl,?_,s1,HI4.out,HK.out.n,HK.out.cs,HK.out.rs,?_,fun q hq=>?_⟩
  · exact (HB3.out.mono (by omega)).trans (HT4.out.below (by omega) (spotS_ge H3.out Hol3.out hT (by omega)))
  · refine ((Touch.refl (Used h s) w).of_below HB3.out).trans' HT4.out (fun q hq=>?_)
    rcases hq with rfl | hq | hq
    · exact .inl (.inl rfl)
    · exact .inl (used_vT hq)
    · exact .inr (Hol3.out.lt q hq).1
  · rcases HK.out.used h q hq with h1 | h1 | h1
    · exact .inl h1
    · exact .inr (Hol3.out.lt q h1).1
    · exact .inr (by omega)
end Go.Proofs.YtkhcjkmifddlbabGreatDoor
namespace Go.Proofs.YtkhcjkmifddlbabGreatDoor
namespace Num
def picB (W H:Int) (n:Nat):Bool:=decide (1≤W∧W≤64∧1≤H∧H≤64∧(n:Int)=W*H)
def mixV (u v way:Int):Int:=if way=0 then (if u+v<255 then u+v else 255) else if way=1 then (if u > v then u else v) else if way=3 then (if u-v > 0 then u-v else 0) else v
def lsY (a b:Int):Int:=if a<b then a else b
theorem mixV_bd {u v way:Int} (hu:0≤u∧u≤255) (hv:0≤v∧v≤255):0≤mixV u v way∧mixV u v way≤255:=by
  unfold mixV;repeat' split
  all_goals omega
def covB (x:Int) (n i:Nat):Bool:=decide (x≤(i:Int)∧(i:Int)-x<(n:Int))
def layV (uw ow oh:Nat) (U O:Nat→Int) (x y way:Int) (i j:Nat):Int:=
  if covB x ow i=true∧covB y oh j=true then mixV (U (j*uw+i)) (O (((j:Int)-y).toNat*ow+((i:Int)-x).toNat)) way else U (j*uw+i)
def layL (uw ow oh:Nat) (U O:Nat→Int) (x y way:Int) (k:Nat):List Int:=(List.range k).map fun q=>layV uw ow oh U O x y way (q % uw) (q / uw)
theorem layL_succ (uw ow oh:Nat) (U O:Nat→Int) (x y way:Int) (k:Nat):layL uw ow oh U O x y way (k+1)=layL uw ow oh U O x y way k++[layV uw ow oh U O x y way (k % uw) (k / uw)]:=by
  unfold layL;rw [List.range_succ,List.map_append];rfl
theorem layL_len (uw ow oh:Nat) (U O:Nat→Int) (x y way:Int) (k:Nat):(layL uw ow oh U O x y way k).length=k:=by simp [layL]
def layE (UW UH:Int) (n:Nat) (OW OH:Int) (m:Nat) (way eg ew:Int):Int:=if picB UW UH n=true∧picB OW OH m=true then (if 0≤way∧way≤3 then 0 else ew) else eg
theorem mul_row {j i uw uh:Nat} (hj:j<uh) (hi:i<uw):j*uw+i<uw*uh:=by
  have h:(j+1)*uw≤uh*uw:=Nat.mul_le_mul_right uw hj
  rw [Nat.succ_mul] at h
  rw [Nat.mul_comm uw uh]
  omega
theorem mul_le_sq {a b:Nat} (ha:a≤64) (hb:b≤64):a*b≤4096:=Nat.mul_le_mul ha hb
end Num
end Go.Proofs.YtkhcjkmifddlbabGreatDoor
