import Derived.Test.YtkhcjkmifddlbabGreatDoorPart7
import Derived.Test.YtkhcjkmifddlbabGreatDoorPart6
import Derived.Test.YtkhcjkmifddlbabGreatDoorPart1
import Derived.Test.YtkhcjkmifddlbabGreatDoorPart2
import Derived.BigQuiet
import Derived.Deep.QuietTactic
set_option maxHeartbeats 8000000
namespace Go.Proofs.YtkhcjkmifddlbabGreatDoor
open Go.RowKit Go.Deep
def refU (X Y K:Nat→Int) (n k:Nat):List Num.Sg:=(List.range k).filterMap (Num.refF X Y K n)
theorem refU_no {X Y K:Nat→Int} {n k:Nat} (h:Num.onB X Y K n k=false):refU X Y K n (k+1)=refU X Y K n k:=by
  unfold refU;rw [List.range_succ,List.filterMap_append];simp [Num.refF,h]
theorem refU_yes {X Y K:Nat→Int} {n k:Nat} (h:Num.onB X Y K n k=true):refU X Y K n (k+1)=refU X Y K n k++[Num.fromV X Y K n k]:=by
  unfold refU;rw [List.range_succ,List.filterMap_append];simp [Num.refF,h]
theorem refU_len (X Y K:Nat→Int) (n k:Nat):(refU X Y K n k).length≤k:=by
  unfold refU;have:=List.length_filterMap_le (Num.refF X Y K n) (List.range k);simpa using this
set_option maxRecDepth 100000 in
theorem refRing_any (a:Option Addr) (n c:Nat) (X Y K:Nat→Int) (w:World) (hp:0<n) (hn:n≤2097152) (hX:∀i,i<n → -4096≤X i∧X i≤4096) (hY:∀i,i<n → -4096≤Y i∧Y i≤4096) (hr:RingAt w a n X Y K) :
    Calls Tryz.prog 72 #[.slice a n c] w fun e w'=>∃v,e=.returned v∧Below w.heap.size w w'∧w'.ownsRow w.heap.size 44 9 v (Num.refRing X Y K n).length ((Num.refRing X Y K n).flatMap sgC):=by
  have HR:=hide hr
  have HX:=hide hX
  have HY:=hide hY
  clear hr hX hY
  obtain ⟨i0,hi0,hz0,hz1,hz2⟩:=info_parts info_seg
  go_enter Tryz.func72,Tryz.ntmps72
  go_wp2_with fail
  go_loopw [3,4] (fun v t wr=>∃k:Nat,k≤2*n∧t=.int .i64 k∧Below w.heap.size w wr∧wr.ownsRow w.heap.size 44 9 v (refU X Y K n k).length ((refU X Y K n k).flatMap sgC)) (fun _ t _=>2*n-(intOf t).toNat)
  case atStart=>exact ⟨0,by omega,rfl,Below.refl _ _,World.ownsRow_nil _ _ _ _⟩
  case round=>
    obtain ⟨v,rfl⟩:∃v,v=u3:=⟨_,rfl⟩
    obtain ⟨k,hk,rfl,hb,hown⟩:=hrel
    have hsz:=hb.size
    have hlen:=refU_len X Y K n k
    by_cases hlt:k<2*n
    · have hd1:decide ((k:Int)<2*(n:Int))=true:=by simp;omega
      go_wp2_with fail
      refine (begins_any _ _ _ k X Y K _ hp hn (by omega) HX.out HY.out (HR.out.below hb)).mono ?_
      rintro e w1 ⟨rfl,hb1⟩
      have hs1:=hb1.size
      have hown1:=owns_of_block hown (fun b hbb=>hb1.block b (hown.lt b hbb).2)
      have hbw1:Below w.heap.size w w1:=hb.trans (hb1.mono hsz)
      clear hb hb1 hown
      cases hon:Num.onB X Y K n k
      · have HU:=hide (refU_no hon)
        clear hon
        go_wp2
        go_roundw
        case rel=>exact ⟨k+1,by omega,by go_num,hbw1,by rw [HU.out];exact hown1⟩
        case measure=>simp [intOf];omega
      · have HU:=hide (refU_yes hon)
        clear hon
        go_wp2_with fail
        refine (from_any _ _ _ k X Y K _ hp hn (by omega) HX.out HY.out (HR.out.below hbw1)).mono ?_
        obtain ⟨F,hF⟩:∃F,F=Num.fromV X Y K n k:=⟨_,rfl⟩
        rw [←hF]
        have HF:=hide hF
        clear hF
        rintro e w2 ⟨rfl,hb2⟩
        have hs2:=hb2.size
        have hown2:=owns_of_block hown1 (fun b hbb=>hb2.block b (hown1.lt b hbb).2)
        have hbw2:Below w.heap.size w w2:=hbw1.trans (hb2.mono (by omega))
        clear hb2 hown1 hbw1
        obtain ⟨L,hL⟩:∃L,L=refU X Y K n k:=⟨_,rfl⟩
        rw [←hL] at hown2 hlen
        obtain ⟨ln,hln⟩:∃ln,ln=L.length:=⟨_,rfl⟩
        obtain ⟨xs,hxs⟩:∃xs,xs=L.flatMap sgC:=⟨_,rfl⟩
        rw [←hln,←hxs] at hown2
        rw [←hln] at hlen
        have HL:=hide hL
        have HLn:=hide hln
        have Hxs:=hide hxs
        clear hL hln hxs
        go_wp2_with (at_builtin;refine wpList_append_lies _ rfl _ _ 62 rfl w.heap.size 44 i0 (.agg #[.int .i64 0,.int .i64 0,.int .i64 0,.int .i64 0,.int .i64 0,.int .i64 0,.int .i64 0,.int .i64 0,.int .i64 0]) 9 72 Tryz.underlying62 hi0 hz0 hz1 hz2 rfl (by omega) v ln xs rfl ((hown2.alloc _).alloc _) ⟨w2.heap.size+1,0,none⟩ 1 1 [.int .i64 F.k,.int .i64 F.x0,.int .i64 F.y0,.int .i64 F.x1,.int .i64 F.y1,.int .i64 F.x2,.int .i64 F.y2,.int .i64 F.x3,.int .i64 F.y3] rfl rfl ?c1 ?c2 (by omega) ?c3 ?c4 ?c5 (w2.heap.size+1+1) (by simp) ?_)
        case c1=>exact news_new (w2.alloc _) (sgC F) _ _ (by simp)
        case c2=>exact one_sg F
        case c3=>unfold maxLen;omega
        case c4=>omega
        case c5=>first | omega | (simp;omega)
        intro g cap w3 hown3 hgrow hat hlt3
        have hb3:Below w.heap.size w w3:=((hbw2.alloc (by omega) _).alloc (by simp;omega) _).grown hgrow (by simp;omega) (fun q hq=>(hown2.lt q hq).1)
        have HO3:Hid (w3.ownsRow w.heap.size 44 9 (.slice (some ⟨g,0,none⟩) (ln+1) cap) (refU X Y K n (k+1)).length ((refU X Y K n (k+1)).flatMap sgC)):=by
          unfold Hid
          rw [HU.out,←HL.out,←HF.out]
          exact push_sg (by rw [←Hxs.out];exact hown3) (by rw [HLn.out])
        clear hown3 hgrow hat hown2 hbw2
        go_wp2
        go_roundw
        case rel=>exact ⟨k+1,by omega,by go_num,hb3,HO3.out⟩
        case measure=>simp [intOf];omega
    · have e:k=2*n:=by omega
      have hd0:decide ((k:Int)<2*(n:Int))=false:=by simp;omega
      have HO:=hide hown
      clear hown
      go_wp2
      go_ret
      refine ⟨v,rfl,hb,?_⟩
      have h:=HO.out
      rw [e] at h
      exact h
set_option maxRecDepth 100000 in
theorem ringSegments_any (a:Option Addr) (n c:Nat) (X Y K:Nat→Int) (w:World) (hn:n≤2097152) (h2:2≤n) (hs:∀i,i<n→Num.badB K n i=false) (hX:∀i,i<n → -4096≤X i∧X i≤4096) (hY:∀i,i<n → -4096≤Y i∧Y i≤4096) (hr:RingAt w a n X Y K) :
    Calls Tryz.prog 156 #[.slice a n c] w fun e w'=>∃v,e=.returned v∧Below w.heap.size w w'∧w'.ownsRow w.heap.size 44 9 v (Num.refRing X Y K n).length ((Num.refRing X Y K n).flatMap sgC):=by
  obtain ⟨f,p,hp,hp0,hpb,hwalk⟩:=Num.segs_eq (X:=X) (Y:=Y) h2 hs
  have HR:=hide hr
  have HX:=hide hX
  have HY:=hide hY
  have hlen:=impU_len X Y K n n
  have hpos:=imp_pos (X:=X) (Y:=Y) (K:=K) (n:=n) (by omega)
  clear hr hX hY hs
  obtain ⟨R,hR⟩:∃R,R=impU X Y K n n:=⟨_,rfl⟩
  have hR2:Num.imp X Y K n=R:=by rw [hR];rfl
  rw [hR2] at hp hpb hwalk
  rw [←hR] at hlen hpos
  have hf:=first_of hp hp0 hpb
  have hfl:f<R.length:=by
    rcases Nat.lt_or_ge f R.length with h | h
    · exact h
    · rw [List.getElem?_eq_none h] at hp;cases hp
  have hpg:p=(gX R f,gY R f,gK R f):=by rw [gAll hfl];rw [List.getElem?_eq_getElem hfl] at hp;simpa using hp.symm
  obtain ⟨T,hT⟩:∃T,T=Num.refRing X Y K n:=⟨_,rfl⟩
  rw [←hT] at hwalk ⊢
  have HW:=hide hwalk
  have HF:=hide hf
  have HPG:=hide hpg
  have HRR:=hide hR
  clear hwalk hf hpg hp hp0 hpb hT hR2 hR
  obtain ⟨r,hr⟩:∃r,r=R.length:=⟨_,rfl⟩
  have HRL:=hide hr
  go_enter Tryz.func156,Tryz.ntmps156
  go_wp2_with fail
  refine (withImplied_any _ _ _ X Y K _ hn HX.out HY.out HR.out).mono ?_
  rw [←HRR.out]
  rintro e w1 ⟨v,rfl,hb1,hown1⟩
  obtain ⟨g,cap,rfl,hgb,hgl⟩:=hown1.form hpos
  have HR1:=hide (owns_ring hown1)
  rw [←hr] at hpos hlen hfl
  rw [←hr]
  have hs1:=hb1.size
  clear hown1 hr
  go_wp2_with fail
  refine (firstOn_any _ _ _ (gX R) (gY R) (gK R) _ (by omega) (by rw [HRL.out];exact HR1.out)).mono ?_
  rw [HRL.out,HF.out,←HRL.out]
  rintro e w2 ⟨rfl,hb2⟩
  have hs2:=hb2.size
  have HR2:=hide (HR1.out.below hb2)
  have hb02:Below w.heap.size w w2:=hb1.trans (hb2.mono hs1)
  clear hb1 hb2
  have hneg:((f:Int) == -1)=false:=by simp
  rcases HR2.out with h | ⟨b,off,hbo,hc⟩
  · have:=HRL.out;omega
  simp at hbo
  obtain ⟨rfl,rfl⟩:=hbo
  simp only [Nat.zero_add] at hc
  rw [←HRL.out] at hc
  obtain ⟨c0,c1,c2⟩:=hc f hfl
  have HC:=hide hc
  clear hc
  have hgl2:g<w2.heap.size:=by omega
  have g0:(0:Int)≤(f:Int):=by omega
  have g1:(f:Int)<(r:Int):=by omega
  go_wp2_with (go_at_call 182;refine (spot_any _ _ _ _).mono ?_;rintro e w' ⟨rfl,rfl⟩)
  go_loopw [5,7,24] (fun v i t wr=>∃(j:Nat) (sg:Num.Sg) (out:List Num.Sg),j≤r∧t=.int .i64 j∧i=.int .i64 (wrp r (f+j))∧Below w2.heap.size w2 wr∧wr.rowIs (w2.heap.size+1+1) 44 9 (sgF sg) ∧
      wr.ownsRow (w2.heap.size+1+1+1) 44 9 v out.length (out.flatMap sgC)∧out.length≤j∧out++Num.walkL ((R.drop (f+1)++R.take (f+1)).drop j) sg=T) (fun _ _ t _=>r-(intOf t).toNat)
  case atStart=>
    refine ⟨0,Num.initS p,[],by omega,rfl,by simp [wrp,hfl],by (repeat any_goals first | exact .refl _ _ | assumption | refine .drew ?_ | refine below_drewN ?_ _ | refine .setCell ?_ ?_ _ | refine .alloc ?_ ?_ _ | omega | (simp <;> omega)),?_,World.ownsRow_nil _ _ _ _,by simp,by simpa using HW.out⟩
    rw [HPG.out]
    have h:=row_sg ((w2.alloc (.cells #[.int .i64 (gX R f),.int .i64 (gY R f),.int .i64 (gK R f)] 129)).alloc (.cells #[.int .i64 (gX R f),.int .i64 (gY R f)] 42)) (Num.initS (gX R f,gY R f,gK R f)) 44
    rw [nblk_alloc,nblk_alloc] at h
    exact h
  case round=>
    obtain ⟨v,rfl⟩:∃v,v=u5:=⟨_,rfl⟩
    obtain ⟨j,sg,out,hj,rfl,rfl,hb,hrow,hown,hol,hwk⟩:=hrel
    have hsz:=hb.size
    have HWK:=hide hwk
    clear hwk c0 c1 c2
    by_cases hlt:j<r
    · have hd1:decide ((j:Int)<(r:Int))=true:=by simp;omega
      have hxl:=wrp_lt hfl (show j≤r by omega)
      have hys:=wrp_succ hfl hlt
      have hyl:=wrp_lt hfl (show j+1≤r by omega)
      have hrot:=rot_drop (R:=R) (f:=f) (j:=j) (by rw [←HRL.out];exact hfl) (by rw [←HRL.out];exact hlt)
      rw [←HRL.out] at hrot
      obtain ⟨x,hx⟩:∃x,x=wrp r (f+j):=⟨_,rfl⟩
      obtain ⟨y,hy⟩:∃y,y=wrp r (f+(j+1)):=⟨_,rfl⟩
      rw [←hx] at hxl hys ⊢
      rw [←hy] at hys hyl hrot
      have HY2:=hide hy
      have HRot:=hide hrot
      have hGl:=hrow.lt
      obtain ⟨q0,q1,q2,q3,q4,q5,q6,q7,q8⟩:=sg_cells hrow
      have z0:=hrow.frozen 0
      have z1:=hrow.frozen 1
      have z2:=hrow.frozen 2
      have z3:=hrow.frozen 3
      have z4:=hrow.frozen 4
      have z5:=hrow.frozen 5
      have z6:=hrow.frozen 6
      have z7:=hrow.frozen 7
      have z8:=hrow.frozen 8
      have hcy:wr.cell? ⟨g,y*3,none⟩=some (.int .i64 (gX R y))∧wr.cell? ⟨g,y*3+1,none⟩=some (.int .i64 (gY R y))∧wr.cell? ⟨g,y*3+2,none⟩=some (.int .i64 (gK R y)):=by
        obtain ⟨u0,u1,u2⟩:=HC.out y hyl
        exact ⟨(hb.cell (p:=⟨g,_,none⟩) hgl2).trans u0,(hb.cell (p:=⟨g,_,none⟩) hgl2).trans u1,(hb.cell (p:=⟨g,_,none⟩) hgl2).trans u2⟩
      obtain ⟨d0,d1,d2⟩:=hcy
      have hgw:g<wr.heap.size:=by omega
      have HRow:=hide hrow
      clear hrow hrot hy hx
      by_cases hw:x+1=r
      · rw [if_pos hw] at hys
        subst hys
        simp only [Nat.zero_mul,Nat.zero_add] at d0 d1 d2
        have hw1:((x:Int)+1 == (r:Int))=true:=by simp;omega
        have gy:(0:Int)<(r:Int):=by omega
        cases hk0:(gK R 0 == 0)
        · have HW2:Hid (out++Num.walkL ((R.drop (f+1)++R.take (f+1)).drop (j+1)) (Num.addP sg (gX R 0,gY R 0,gK R 0))=T):=by
            have:=HWK.out
            rw [HRot.out,walk_ctl (by exact hk0)] at this
            exact this
          go_wp2_with fail
          refine (withControl_any sg (gX R 0,gY R 0,gK R 0) _).mono ?_
          rintro e w3 ⟨rfl,hb3⟩
          have hbw:Below wr.heap.size wr w3:=Below.trans (by (repeat any_goals first | exact .refl _ _ | assumption | refine .drew ?_ | refine below_drewN ?_ _ | refine .setCell ?_ ?_ _ | refine .alloc ?_ ?_ _ | omega | (simp <;> omega))) (hb3.mono (by simp))
          have HO:=hide (owns_set9 hown hbw (G:=w2.heap.size+1+1) (by omega) (Num.addP sg (gX R 0,gY R 0,gK R 0)))
          have HR3:=hide (row_below HRow.out hbw hGl)
          have hs3:=hbw.size
          obtain ⟨e0,e1,e2,e3,e4,e5,e6,e7,e8⟩:=sg_cells HR3.out
          have y0:=HR3.out.frozen 0
          have y1:=HR3.out.frozen 1
          have y2:=HR3.out.frozen 2
          have y3:=HR3.out.frozen 3
          have y4:=HR3.out.frozen 4
          have y5:=HR3.out.frozen 5
          have y6:=HR3.out.frozen 6
          have y7:=HR3.out.frozen 7
          have y8:=HR3.out.frozen 8
          have hb4:Below w2.heap.size w2 w3:=hb.trans (hbw.mono hsz)
          have HS9:=hide (set9_row HR3.out (Num.addP sg (gX R 0,gY R 0,gK R 0)))
          have HB9:=hide (set9_below hb4 (b:=w2.heap.size+1+1) (by omega) (Num.addP sg (gX R 0,gY R 0,gK R 0)))
          clear hb3 hbw hown hb q0 q1 q2 q3 q4 q5 q6 q7 q8 z0 z1 z2 z3 z4 z5 z6 z7 z8 d0 d1 d2
          obtain ⟨ag,hag⟩:∃ag,ag=Num.addP sg (gX R 0,gY R 0,gK R 0):=⟨_,rfl⟩
          rw [←hag] at HO HS9 HW2 HB9 ⊢
          clear hag
          go_wp2
          go_roundw
          case rel=>exact ⟨j+1,ag,out,by omega,by go_num,by rw [←HY2.out];rfl,HB9.out,HS9.out,HO.out,by omega,HW2.out⟩
          case measure=>simp [intOf];omega
        · go_wp2_with fail
          refine (spot_any _ _ _ _).mono ?_
          rintro e w3 ⟨rfl,hw3⟩
          have hbw:Below wr.heap.size wr w3:=by rw [hw3];(repeat any_goals first | exact .refl _ _ | assumption | refine .drew ?_ | refine below_drewN ?_ _ | refine .setCell ?_ ?_ _ | refine .alloc ?_ ?_ _ | omega | (simp <;> omega))
          clear hw3
          have HR3:=hide (row_below HRow.out hbw hGl)
          have hs3:=hbw.size
          obtain ⟨e0,e1,e2,e3,e4,e5,e6,e7,e8⟩:=sg_cells HR3.out
          have y7:=HR3.out.frozen 7
          have y8:=HR3.out.frozen 8
          have hG3:w2.heap.size+1+1<w3.heap.size:=by omega
          have hown3:=owns_of_block hown (fun b hbb=>hbw.block b (hown.lt b hbb).2)
          have hb4:Below w2.heap.size w2 w3:=hb.trans (hbw.mono hsz)
          clear hbw hown hb q0 q1 q2 q3 q4 q5 q6 q7 q8 z0 z1 z2 z3 z4 z5 z6 z7 z8 d0 d1 d2
          obtain ⟨i0,hi0,hz0,hz1,hz2⟩:=info_parts info_seg
          obtain ⟨ol,hol2⟩:∃ol,ol=out.length:=⟨_,rfl⟩
          obtain ⟨xs,hxs⟩:∃xs,xs=out.flatMap sgC:=⟨_,rfl⟩
          rw [←hol2] at hol
          rw [←hol2,←hxs] at hown3
          have HOL:=hide hol2
          have HXS:=hide hxs
          clear hol2 hxs
          have hown4:((w3.setCell ⟨w2.heap.size+1+1,7,none⟩ (.int .i64 (gX R 0))).setCell ⟨w2.heap.size+1+1,8,none⟩ (.int .i64 (gY R 0))).ownsRow (w2.heap.size+1+1+1) 44 9 v ol xs:=
            owns_of_block hown3 (fun b hbb=>by
              have:=(hown3.lt b hbb).1
              rw [set_other (by omega),set_other (by omega)])
          go_wp2_with (at_builtin;refine wpList_append_lies _ rfl _ _ 62 rfl (w2.heap.size+1+1+1) 44 i0 (.agg #[.int .i64 0,.int .i64 0,.int .i64 0,.int .i64 0,.int .i64 0,.int .i64 0,.int .i64 0,.int .i64 0,.int .i64 0]) 9 72 Tryz.underlying62 hi0 hz0 hz1 hz2 rfl (by omega) v ol xs rfl (hown4.alloc _) ⟨w3.heap.size,0,none⟩ 1 1 [.int .i64 sg.k,.int .i64 sg.x0,.int .i64 sg.y0,.int .i64 sg.x1,.int .i64 sg.y1,.int .i64 sg.x2,.int .i64 sg.y2,.int .i64 (gX R 0),.int .i64 (gY R 0)] rfl rfl ?m1 ?m2 (by omega) ?m3 ?m4 ?m5 (w3.heap.size+1) (by simp) ?_)
          case m1=>exact news_new ((w3.setCell ⟨w2.heap.size+1+1,7,none⟩ (.int .i64 (gX R 0))).setCell ⟨w2.heap.size+1+1,8,none⟩ (.int .i64 (gY R 0))) [.int .i64 sg.k,.int .i64 sg.x0,.int .i64 sg.y0,.int .i64 sg.x1,.int .i64 sg.y1,.int .i64 sg.x2,.int .i64 sg.y2,.int .i64 (gX R 0),.int .i64 (gY R 0)] _ _ (by simp)
          case m2=>exact one_sg (Num.setTo sg (gX R 0,gY R 0,gK R 0))
          case m3=>unfold maxLen;omega
          case m4=>omega
          case m5=>simp;omega
          intro g2 cap2 w4 hown5 hgrow hat hlt4
          have hne:some (w2.heap.size+1+1)≠v.ownBlock:=fun e=>by have:=(hown3.lt _ e.symm).1;omega
          have hR4:w4.rowIs (w2.heap.size+1+1) 44 9 (sgF (Num.setTo sg (gX R 0,gY R 0,gK R 0))):=
            ((set2_row HR3.out (gX R 0,gY R 0,gK R 0)).alloc _).of_block (hgrow.block _ (by simp;omega) hne)
          have hb5:Below w2.heap.size w2 w4:=Below.grown (w:=((w3.setCell ⟨w2.heap.size+1+1,7,none⟩ (.int .i64 (gX R 0))).setCell ⟨w2.heap.size+1+1,8,none⟩ (.int .i64 (gY R 0))).alloc _) (by (repeat any_goals first | exact .refl _ _ | assumption | refine .drew ?_ | refine below_drewN ?_ _ | refine .setCell ?_ ?_ _ | refine .alloc ?_ ?_ _ | omega | (simp <;> omega))) hgrow (by simp;omega) (fun q hq=>by have:=(hown3.lt q hq).1;omega)
          have hO6:w4.ownsRow (w2.heap.size+1+1+1) 44 9 (.slice (some ⟨g2,0,none⟩) (ol+1) cap2) (out++[Num.setTo sg (gX R 0,gY R 0,gK R 0)]).length ((out++[Num.setTo sg (gX R 0,gY R 0,gK R 0)]).flatMap sgC):=
            push_sg (by rw [←HXS.out];exact hown5) (by rw [HOL.out])
          have HO7:=hide (owns_set9 hO6 (Below.refl _ _) (G:=w2.heap.size+1+1) (by omega) (Num.initS (gX R 0,gY R 0,gK R 0)))
          have HS9:=hide (set9_row hR4 (Num.initS (gX R 0,gY R 0,gK R 0)))
          have HB9:=hide (set9_below hb5 (b:=w2.heap.size+1+1) (by omega) (Num.initS (gX R 0,gY R 0,gK R 0)))
          have HW2:Hid ((out++[Num.setTo sg (gX R 0,gY R 0,gK R 0)])++Num.walkL ((R.drop (f+1)++R.take (f+1)).drop (j+1)) (Num.initS (gX R 0,gY R 0,gK R 0))=T):=by
            have:=HWK.out
            rw [HRot.out,walk_on (by exact hk0)] at this
            unfold Hid
            rw [List.append_assoc]
            exact this
          have HOl2:Hid ((out++[Num.setTo sg (gX R 0,gY R 0,gK R 0)]).length≤j+1):=by
            unfold Hid
            have:=HOL.out
            simp;omega
          obtain ⟨t0,t1,t2,t3,t4,t5,t6,t7,t8⟩:=sg_cells hR4
          have t7:w4.cell? ⟨w2.heap.size+1+1,7,none⟩=some (.int .i64 (gX R 0)):=t7
          have t8:w4.cell? ⟨w2.heap.size+1+1,8,none⟩=some (.int .i64 (gY R 0)):=t8
          have y0:=hR4.frozen 0
          have y1:=hR4.frozen 1
          have y2:=hR4.frozen 2
          have y3:=hR4.frozen 3
          have y4:=hR4.frozen 4
          have y5:=hR4.frozen 5
          have y6:=hR4.frozen 6
          have y7:=hR4.frozen 7
          have y8:=hR4.frozen 8
          have hG4:=hR4.lt
          clear hown5 hgrow hat hne hO6 hown4 hown3 hb4 e0 e1 e2 e3 e4 e5 e6 e7 e8 hR4
          go_wp2
          go_roundw
          case rel=>exact ⟨j+1,Num.initS (gX R 0,gY R 0,gK R 0),out++[Num.setTo sg (gX R 0,gY R 0,gK R 0)],by omega,by go_num,by rw [←HY2.out];rfl,HB9.out,HS9.out,HO7.out,HOl2.out,HW2.out⟩
          case measure=>simp [intOf];omega
      · rw [if_neg hw] at hys
        subst hys
        have hw1:((x:Int)+1 == (r:Int))=false:=by simp;omega
        have gy:(x:Int)+1<(r:Int):=by omega
        cases hk0:(gK R (x+1) == 0)
        · have HW2:Hid (out++Num.walkL ((R.drop (f+1)++R.take (f+1)).drop (j+1)) (Num.addP sg (gX R (x+1),gY R (x+1),gK R (x+1)))=T):=by
            have:=HWK.out
            rw [HRot.out,walk_ctl (by exact hk0)] at this
            exact this
          go_wp2_with fail
          refine (withControl_any sg (gX R (x+1),gY R (x+1),gK R (x+1)) _).mono ?_
          rintro e w3 ⟨rfl,hb3⟩
          have hbw:Below wr.heap.size wr w3:=Below.trans (by (repeat any_goals first | exact .refl _ _ | assumption | refine .drew ?_ | refine below_drewN ?_ _ | refine .setCell ?_ ?_ _ | refine .alloc ?_ ?_ _ | omega | (simp <;> omega))) (hb3.mono (by simp))
          have HO:=hide (owns_set9 hown hbw (G:=w2.heap.size+1+1) (by omega) (Num.addP sg (gX R (x+1),gY R (x+1),gK R (x+1))))
          have HR3:=hide (row_below HRow.out hbw hGl)
          have hs3:=hbw.size
          obtain ⟨e0,e1,e2,e3,e4,e5,e6,e7,e8⟩:=sg_cells HR3.out
          have y0:=HR3.out.frozen 0
          have y1:=HR3.out.frozen 1
          have y2:=HR3.out.frozen 2
          have y3:=HR3.out.frozen 3
          have y4:=HR3.out.frozen 4
          have y5:=HR3.out.frozen 5
          have y6:=HR3.out.frozen 6
          have y7:=HR3.out.frozen 7
          have y8:=HR3.out.frozen 8
          have hb4:Below w2.heap.size w2 w3:=hb.trans (hbw.mono hsz)
          have HS9:=hide (set9_row HR3.out (Num.addP sg (gX R (x+1),gY R (x+1),gK R (x+1))))
          have HB9:=hide (set9_below hb4 (b:=w2.heap.size+1+1) (by omega) (Num.addP sg (gX R (x+1),gY R (x+1),gK R (x+1))))
          clear hb3 hbw hown hb q0 q1 q2 q3 q4 q5 q6 q7 q8 z0 z1 z2 z3 z4 z5 z6 z7 z8 d0 d1 d2
          obtain ⟨ag,hag⟩:∃ag,ag=Num.addP sg (gX R (x+1),gY R (x+1),gK R (x+1)):=⟨_,rfl⟩
          rw [←hag] at HO HS9 HW2 HB9 ⊢
          clear hag
          go_wp2
          go_roundw
          case rel=>exact ⟨j+1,ag,out,by omega,by go_num,by rw [←HY2.out];go_num,HB9.out,HS9.out,HO.out,by omega,HW2.out⟩
          case measure=>simp [intOf];omega
        · go_wp2_with fail
          refine (spot_any _ _ _ _).mono ?_
          rintro e w3 ⟨rfl,hw3⟩
          have hbw:Below wr.heap.size wr w3:=by rw [hw3];(repeat any_goals first | exact .refl _ _ | assumption | refine .drew ?_ | refine below_drewN ?_ _ | refine .setCell ?_ ?_ _ | refine .alloc ?_ ?_ _ | omega | (simp <;> omega))
          clear hw3
          have HR3:=hide (row_below HRow.out hbw hGl)
          have hs3:=hbw.size
          obtain ⟨e0,e1,e2,e3,e4,e5,e6,e7,e8⟩:=sg_cells HR3.out
          have y7:=HR3.out.frozen 7
          have y8:=HR3.out.frozen 8
          have hG3:w2.heap.size+1+1<w3.heap.size:=by omega
          have hown3:=owns_of_block hown (fun b hbb=>hbw.block b (hown.lt b hbb).2)
          have hb4:Below w2.heap.size w2 w3:=hb.trans (hbw.mono hsz)
          clear hbw hown hb q0 q1 q2 q3 q4 q5 q6 q7 q8 z0 z1 z2 z3 z4 z5 z6 z7 z8 d0 d1 d2
          obtain ⟨i0,hi0,hz0,hz1,hz2⟩:=info_parts info_seg
          obtain ⟨ol,hol2⟩:∃ol,ol=out.length:=⟨_,rfl⟩
          obtain ⟨xs,hxs⟩:∃xs,xs=out.flatMap sgC:=⟨_,rfl⟩
          rw [←hol2] at hol
          rw [←hol2,←hxs] at hown3
          have HOL:=hide hol2
          have HXS:=hide hxs
          clear hol2 hxs
          have hown4:((w3.setCell ⟨w2.heap.size+1+1,7,none⟩ (.int .i64 (gX R (x+1)))).setCell ⟨w2.heap.size+1+1,8,none⟩ (.int .i64 (gY R (x+1)))).ownsRow (w2.heap.size+1+1+1) 44 9 v ol xs:=
            owns_of_block hown3 (fun b hbb=>by
              have:=(hown3.lt b hbb).1
              rw [set_other (by omega),set_other (by omega)])
          go_wp2_with (at_builtin;refine wpList_append_lies _ rfl _ _ 62 rfl (w2.heap.size+1+1+1) 44 i0 (.agg #[.int .i64 0,.int .i64 0,.int .i64 0,.int .i64 0,.int .i64 0,.int .i64 0,.int .i64 0,.int .i64 0,.int .i64 0]) 9 72 Tryz.underlying62 hi0 hz0 hz1 hz2 rfl (by omega) v ol xs rfl (hown4.alloc _) ⟨w3.heap.size,0,none⟩ 1 1 [.int .i64 sg.k,.int .i64 sg.x0,.int .i64 sg.y0,.int .i64 sg.x1,.int .i64 sg.y1,.int .i64 sg.x2,.int .i64 sg.y2,.int .i64 (gX R (x+1)),.int .i64 (gY R (x+1))] rfl rfl ?s1 ?s2 (by omega) ?s3 ?s4 ?s5 (w3.heap.size+1) (by simp) ?_)
          case s1=>exact news_new ((w3.setCell ⟨w2.heap.size+1+1,7,none⟩ (.int .i64 (gX R (x+1)))).setCell ⟨w2.heap.size+1+1,8,none⟩ (.int .i64 (gY R (x+1)))) [.int .i64 sg.k,.int .i64 sg.x0,.int .i64 sg.y0,.int .i64 sg.x1,.int .i64 sg.y1,.int .i64 sg.x2,.int .i64 sg.y2,.int .i64 (gX R (x+1)),.int .i64 (gY R (x+1))] _ _ (by simp)
          case s2=>exact one_sg (Num.setTo sg (gX R (x+1),gY R (x+1),gK R (x+1)))
          case s3=>unfold maxLen;omega
          case s4=>omega
          case s5=>simp;omega
          intro g2 cap2 w4 hown5 hgrow hat hlt4
          have hne:some (w2.heap.size+1+1)≠v.ownBlock:=fun e=>by have:=(hown3.lt _ e.symm).1;omega
          have hR4:w4.rowIs (w2.heap.size+1+1) 44 9 (sgF (Num.setTo sg (gX R (x+1),gY R (x+1),gK R (x+1)))):=
            ((set2_row HR3.out (gX R (x+1),gY R (x+1),gK R (x+1))).alloc _).of_block (hgrow.block _ (by simp;omega) hne)
          have hb5:Below w2.heap.size w2 w4:=Below.grown (w:=((w3.setCell ⟨w2.heap.size+1+1,7,none⟩ (.int .i64 (gX R (x+1)))).setCell ⟨w2.heap.size+1+1,8,none⟩ (.int .i64 (gY R (x+1)))).alloc _) (by (repeat any_goals first | exact .refl _ _ | assumption | refine .drew ?_ | refine below_drewN ?_ _ | refine .setCell ?_ ?_ _ | refine .alloc ?_ ?_ _ | omega | (simp <;> omega))) hgrow (by simp;omega) (fun q hq=>by have:=(hown3.lt q hq).1;omega)
          have hO6:w4.ownsRow (w2.heap.size+1+1+1) 44 9 (.slice (some ⟨g2,0,none⟩) (ol+1) cap2) (out++[Num.setTo sg (gX R (x+1),gY R (x+1),gK R (x+1))]).length ((out++[Num.setTo sg (gX R (x+1),gY R (x+1),gK R (x+1))]).flatMap sgC):=
            push_sg (by rw [←HXS.out];exact hown5) (by rw [HOL.out])
          have HO7:=hide (owns_set9 hO6 (Below.refl _ _) (G:=w2.heap.size+1+1) (by omega) (Num.initS (gX R (x+1),gY R (x+1),gK R (x+1))))
          have HS9:=hide (set9_row hR4 (Num.initS (gX R (x+1),gY R (x+1),gK R (x+1))))
          have HB9:=hide (set9_below hb5 (b:=w2.heap.size+1+1) (by omega) (Num.initS (gX R (x+1),gY R (x+1),gK R (x+1))))
          have HW2:Hid ((out++[Num.setTo sg (gX R (x+1),gY R (x+1),gK R (x+1))])++Num.walkL ((R.drop (f+1)++R.take (f+1)).drop (j+1)) (Num.initS (gX R (x+1),gY R (x+1),gK R (x+1)))=T):=by
            have:=HWK.out
            rw [HRot.out,walk_on (by exact hk0)] at this
            unfold Hid
            rw [List.append_assoc]
            exact this
          have HOl2:Hid ((out++[Num.setTo sg (gX R (x+1),gY R (x+1),gK R (x+1))]).length≤j+1):=by
            unfold Hid
            have:=HOL.out
            simp;omega
          obtain ⟨t0,t1,t2,t3,t4,t5,t6,t7,t8⟩:=sg_cells hR4
          have t7:w4.cell? ⟨w2.heap.size+1+1,7,none⟩=some (.int .i64 (gX R (x+1))):=t7
          have t8:w4.cell? ⟨w2.heap.size+1+1,8,none⟩=some (.int .i64 (gY R (x+1))):=t8
          have y0:=hR4.frozen 0
          have y1:=hR4.frozen 1
          have y2:=hR4.frozen 2
          have y3:=hR4.frozen 3
          have y4:=hR4.frozen 4
          have y5:=hR4.frozen 5
          have y6:=hR4.frozen 6
          have y7:=hR4.frozen 7
          have y8:=hR4.frozen 8
          have hG4:=hR4.lt
          clear hown5 hgrow hat hne hO6 hown4 hown3 hb4 e0 e1 e2 e3 e4 e5 e6 e7 e8 hR4
          go_wp2
          go_roundw
          case rel=>exact ⟨j+1,Num.initS (gX R (x+1),gY R (x+1),gK R (x+1)),out++[Num.setTo sg (gX R (x+1),gY R (x+1),gK R (x+1))],by omega,by go_num,by rw [←HY2.out];go_num,HB9.out,HS9.out,HO7.out,HOl2.out,HW2.out⟩
          case measure=>simp [intOf];omega
    · have e:j=r:=by omega
      have hfin:out=T:=by
        have h:=HWK.out
        rw [List.drop_of_length_le (by have:=HRL.out;simp;omega)] at h
        simpa [Num.walkL] using h
      subst hfin
      have hd0:decide ((j:Int)<(r:Int))=false:=by simp;omega
      have hb9:Below w.heap.size w wr:=hb02.trans (hb.mono (by omega))
      have HO9:=hide (owns_base hown (base':=w.heap.size) (by omega))
      clear hrow hown hb
      go_wp2
      go_ret
      exact ⟨v,rfl,hb9,HO9.out⟩
def ringL (n:Nat→Nat) (X Y K:Nat→Nat→Int) (i:Nat):List Num.Sg:=Num.refRing (X i) (Y i) (K i) (n i)
theorem refRing_len (X Y K:Nat→Int) (n:Nat):(Num.refRing X Y K n).length≤2*n:=refU_len X Y K n (2*n)
theorem refRing_pos {X Y K:Nat→Int} {n:Nat} (hn:2≤n) (hs:∀i,i<n→Num.badB K n i=false):0<(Num.refRing X Y K n).length:=by
  obtain ⟨t,ht,hon⟩:=Num.exists_on (X:=X) (Y:=Y) hn hs
  have:Num.fromV X Y K n t∈Num.refRing X Y K n:=by
    unfold Num.refRing
    rw [List.mem_filterMap]
    exact ⟨t,by simpa using ht,by simp [Num.refF,hon]⟩
  exact List.length_pos_of_mem this
theorem ok_shape {n:Nat→Nat} {K:Nat→Nat→Int} {i:Nat} (h:Num.shapeAt n K i=false):2≤n i∧∀k,k<n i→Num.badB (K i) (n i) k=false:=by
  have h1:Num.shapeI (K i) (n i) = -1:=by simpa [Num.shapeAt] using h
  unfold Num.shapeI at h1
  split at h1
  · omega
  · refine ⟨by omega,?_⟩
    rcases Num.firstI_cases (Num.badB (K i) (n i)) (n i) with ⟨_,hb⟩ | ⟨k,_,_,_,e⟩
    · exact hb
    · rw [e] at h1;omega
theorem ok_far {n:Nat→Nat} {X Y:Nat→Nat→Int} {i:Nat} (h:Num.farAt n X Y i=false):(∀k,k<n i → -4096≤X i k∧X i k≤4096)∧∀k,k<n i → -4096≤Y i k∧Y i k≤4096:=by
  have h1:Num.farI (X i) (Y i) (n i) = -1:=by simpa [Num.farAt] using h
  unfold Num.farI at h1
  have hb:∀k,k<n i→Num.farB (X i) (Y i) k=false:=by
    rcases Num.firstI_cases (Num.farB (X i) (Y i)) (n i) with ⟨_,hb⟩ | ⟨k,_,_,_,e⟩
    · exact hb
    · rw [e] at h1;omega
  have key:∀k,k<n i→Num.wi (X i k) 4096=true∧Num.wi (Y i k) 4096=true:=fun k hk=>by
    have:=hb k hk
    simpa [Num.farB] using this
  exact ⟨fun k hk=>Num.wi_yes (key k hk).1,fun k hk=>Num.wi_yes (key k hk).2⟩
theorem ok_many {N:Nat} {n:Nat→Nat} (h:Num.manyB N n=false):N≤16∧Num.sumN n N≤200∧∀i,i<N→n i≤200:=by
  have h1:N≤16∧Num.sumN n N≤200:=by simp [Num.manyB] at h;omega
  refine ⟨h1.1,h1.2,fun i hi=>?_⟩
  have:=Num.sumN_mono n (show i+1≤N by omega)
  simp only [Num.sumN] at this
  omega
theorem flat9_len (l:List Num.Sg):(l.flatMap sgC).length=l.length*9:=by
  induction l with
  | nil=>simp
  | cons x r ih=>rw [List.flatMap_cons,List.length_append,ih];simp [sgC];omega
theorem flat9_one (l:List Num.Sg):∀u∈l.flatMap sgC,u.oneCell'=true:=by
  intro u hu
  rw [List.mem_flatMap] at hu
  obtain ⟨g,_,hg⟩:=hu
  exact one_sg g u hg
theorem owns_news {w:World} {base g cap:Nat} {t:TypeId} {l:List Num.Sg} (h:w.ownsRow base t 9 (.slice (some ⟨g,0,none⟩) l.length cap) l.length (l.flatMap sgC)):∀(j:Nat) (u:Value),(l.flatMap sgC)[j]? = some u→w.cell? ((⟨g,0,none⟩:Addr).add j)=some u:=by
  intro j u hj
  have e2:((⟨g,0,none⟩:Addr).add j)=⟨g,j,none⟩:=by
    unfold Addr.add
    split
    · rename_i h;simp_all
    · simp
  have hlt:j<l.length*9:=by
    rcases Nat.lt_or_ge j (l.length*9) with h | h
    · exact h
    · rw [List.getElem?_eq_none (by rw [flat9_len];exact h)] at hj;cases hj
  rw [e2,h.cellAt j hlt,hj]
theorem owns_mono9 {w:World} {base base':Nat} {t:TypeId} {sz:Nat} {v:Value} {n:Nat} {xs:List Value} (h:w.ownsRow base t sz v n xs) (hb:base'≤base):w.ownsRow base' t sz v n xs:=by
  refine ⟨h.1,?_⟩
  rcases h.2 with hn | ⟨g,cap,cur,rfl,hb',rest⟩
  · exact .inl hn
  · exact .inr ⟨g,cap,cur,rfl,Nat.le_trans hb hb',rest⟩
theorem owns_form9' {w:World} {base:Nat} {t:TypeId} {z:Nat} {v:Value} {n:Nat} {xs:List Value} (h:w.ownsRow base t z v n xs):∃ao cap,v=.slice ao n cap∧(0<n→∃b,ao=some ⟨b,0,none⟩):=by
  rcases h.2 with ⟨rfl,h0⟩ | ⟨g,cap,cur,rfl,_⟩
  · exact ⟨none,0,by rw [h0],by omega⟩
  · exact ⟨some ⟨g,0,none⟩,cap,rfl,fun _=>⟨g,rfl⟩⟩
theorem info_ring:(Tryz.prog.info? 62).map (fun i=>(i.zero,i.size,i.bytes))=some (some (.slice none 0 0),1,24):=by kernel_rfl
def ringN (N:Nat) (n:Nat→Nat) (X Y K:Nat→Nat→Int):Nat:=if (Num.chkV N n X Y K).1=0 then N else 0
structure RingsAt (w:World) (base:Nat) (v:Value) (m:Nat) (V:Nat→Value) (L:Nat→List Num.Sg):Prop where
  outer:w.ownsRow base 62 1 v m ((List.range m).map V)
  inner:∀i,i<m→w.ownsRow base 44 9 (V i) (L i).length ((L i).flatMap sgC)
theorem RingsAt.below {w w':World} {base:Nat} {v:Value} {m:Nat} {V:Nat→Value} {L:Nat→List Num.Sg} (h:RingsAt w base v m V L) (hb:Below w.heap.size w w'):RingsAt w' base v m V L:=
  ⟨owns_of_block h.outer (fun b hbb=>hb.block b (h.outer.lt b hbb).2),fun i hi=>owns_of_block (h.inner i hi) (fun b hbb=>hb.block b ((h.inner i hi).lt b hbb).2)⟩
theorem range_map_snoc {α:Type} (f:Nat→α) (i:Nat):(List.range (i+1)).map f=(List.range i).map f++[f i]:=by
  rw [List.range_succ,List.map_append];rfl
theorem range_map_congr {α:Type} {f g:Nat→α} {i:Nat} (h:∀j,j<i→f j=g j):(List.range i).map f=(List.range i).map g:=by
  apply List.map_congr_left
  intro j hj
  exact h j (by simpa using hj)
set_option maxRecDepth 100000 in
theorem outRings_any (a:Option Addr) (N c:Nat) (A:Nat→Option Addr) (C n:Nat→Nat) (X Y K:Nat→Nat→Int) (w:World) (hN:N≤4294967296) (hn:∀i,i<N→n i≤4294967296) (ho:OutAt w a N A C n X Y K) :
    Calls Tryz.prog 117 #[.slice a N c] w fun e w'=>∃v V,e=.returned (.tuple #[v,.int .i64 (Num.chkV N n X Y K).1])∧Below w.heap.size w w'∧RingsAt w' w.heap.size v (ringN N n X Y K) V (ringL n X Y K):=by
  have HO:=hide ho
  have HN:=hide hn
  have hcs:=Num.chk_cases N n X Y K
  obtain ⟨V0,hV⟩:∃V,V=Num.chkV N n X Y K:=⟨_,rfl⟩
  have hSV:ringN N n X Y K=if V0.1=0 then N else 0:=by unfold ringN;rw [hV]
  rw [←hV] at hcs ⊢
  obtain ⟨T,hT⟩:∃T,T=ringN N n X Y K:=⟨_,rfl⟩
  rw [←hT] at hSV ⊢
  have HV:=hide hV
  clear ho hn hV hT
  rcases hcs with ⟨h0,hm,hsh,hfa⟩ | h0
  · rw [if_pos h0] at hSV
    obtain ⟨m16,m200,mn⟩:=ok_many hm
    have HSV:=hide hSV
    have HSH:=hide hsh
    have HFA:=hide hfa
    have HMN:=hide mn
    clear hSV hsh hfa mn hm
    obtain ⟨v0,v1,v2⟩:=V0
    have h0:v0=0:=h0
    subst h0
    obtain ⟨i0,hi0,hz0,hz1,hz2⟩:=info_parts info_ring
    go_enter Tryz.func117,Tryz.ntmps117
    go_wp2_with fail
    refine (check_any _ _ _ A C n X Y K _ hN HN.out HO.out).mono ?_
    rw [←HV.out]
    rintro e w1 ⟨rfl,hb1⟩
    have hs1:=hb1.size
    go_wp2_with fail
    go_loopw [7,22] (fun v t wr=>∃(k:Nat) (V:Nat→Value),k≤N∧t=.int .i64 k∧Below w.heap.size w wr∧RingsAt wr w.heap.size v k V (ringL n X Y K)) (fun _ t _=>N-(intOf t).toNat)
    case atStart=>exact ⟨0,fun _=>.slice none 0 0,by omega,rfl,hb1,World.ownsRow_nil _ _ _ _,fun i hi=>by omega⟩
    case round=>
      obtain ⟨v,rfl⟩:∃v,v=u7:=⟨_,rfl⟩
      obtain ⟨k,V,hk,rfl,hb,hRA⟩:=hrel
      have hsz:=hb.size
      by_cases hlt:k<N
      · have HO2:=hide (HO.out.below hb)
        rcases HO2.out.1 with h | ⟨b,off,rfl,hc⟩
        · omega
        have ci:=hc k hlt
        clear hc
        obtain ⟨s2,sb⟩:=ok_shape (HSH.out k hlt)
        obtain ⟨fX,fY⟩:=ok_far (HFA.out k hlt)
        have hnk:=HMN.out k hlt
        have HC:=hide (ringSegments_any (A k) (n k) (C k) (X k) (Y k) (K k) wr (by omega) s2 sb fX fY (HO2.out.2 k hlt))
        clear sb fX fY
        have HRA:=hide hRA
        clear hRA
        go_wp2_with fail
        refine HC.out.mono ?_
        rintro e w2 ⟨v2,rfl,hb2,hown2⟩
        have hs2:=hb2.size
        have HRA2:=hide (HRA.out.below hb2)
        have hbw:Below w.heap.size w w2:=hb.trans (hb2.mono hsz)
        have HW2:=hide (owns_mono9 (base':=w.heap.size) hown2 hsz)
        have hout:=HRA2.out.outer
        clear hb hb2 HC hown2
        obtain ⟨xs,hxs⟩:∃xs,xs=(List.range k).map V:=⟨_,rfl⟩
        rw [←hxs] at hout
        have HX:=hide hxs
        have HOut:=hide hout
        obtain ⟨ao,cp,hv2,_⟩:=owns_form9' HW2.out
        subst hv2
        clear hxs
        go_wp2_with (at_builtin;refine wpList_append_lies _ rfl _ _ 180 rfl w.heap.size 62 i0 (.slice none 0 0) 1 24 Tryz.underlying180 hi0 hz0 hz1 hz2 rfl (by omega) v k xs rfl (hout.alloc _) ⟨w2.heap.size,0,none⟩ 1 1 [.slice ao (Num.refRing (X k) (Y k) (K k) (n k)).length cp] rfl rfl ?c1 ?c2 (by omega) ?c3 ?c4 ?c5 (w2.heap.size+1) (by simp) ?_)
        try (case c1=>exact news_new w2 [.slice ao (Num.refRing (X k) (Y k) (K k) (n k)).length cp] _ _ rfl)
        case c2=>first | rfl | (intro u hu;simp at hu;subst hu;rfl)
        case c3=>unfold maxLen;omega
        case c4=>omega
        case c5=>first | omega | (simp;omega)
        intro g cap w3 hown3 hgrow hat hlt3
        have hb3:Below w.heap.size w w3:=(hbw.alloc (by omega) _).grown hgrow (by simp;omega) (fun q hq=>(HOut.out.lt q hq).1)
        have hkeep:∀(u:Value) (l:List Num.Sg),w2.ownsRow w.heap.size 44 9 u l.length (l.flatMap sgC)→w3.ownsRow w.heap.size 44 9 u l.length (l.flatMap sgC):=fun u l h=>owns_of_block h (fun b hbb=>by
          have hty:=owns_ty h hbb
          have hlt9:=(h.lt b hbb).2
          rw [hgrow.block b (by rw [nblk_alloc];omega) (fun e=>by
            have:=owns_ty HOut.out e.symm
            rw [hty] at this
            simp at this),blk_alloc_lt _ _ _ hlt9])
        have HR3:Hid (RingsAt w3 w.heap.size (.slice (some ⟨g,0,none⟩) (k+1) cap) (k+1) (fun i=>if i=k then .slice ao (Num.refRing (X k) (Y k) (K k) (n k)).length cp else V i) (ringL n X Y K)):=by
          refine ⟨?_,fun i hi=>?_⟩
          · rw [range_map_snoc,range_map_congr (g:=V) (fun j hj=>by rw [if_neg (by omega)]),if_pos rfl,←HX.out]
            exact hown3
          · by_cases e:i=k
            · subst e
              rw [if_pos rfl]
              exact hkeep _ _ HW2.out
            · rw [if_neg e]
              exact hkeep _ _ (HRA2.out.inner i (by omega))
        clear hown3 hgrow hat hout hbw hkeep
        go_wp2
        go_roundw
        case rel=>exact ⟨k+1,_,by omega,by go_num,hb3,HR3.out⟩
        case measure=>simp [intOf];omega
      · have e:k=N:=by omega
        have HO9:=hide hRA
        clear hRA
        go_wp2
        go_ret2
        refine ⟨v,V,rfl,hb,?_⟩
        rw [HSV.out,←e]
        exact HO9.out
  · rw [if_neg h0] at hSV
    have HSV:=hide hSV
    clear hSV
    obtain ⟨v0,v1,v2⟩:=V0
    have hb0:(v0 != 0)=true:=by simpa using h0
    clear h0
    go_enter Tryz.func117,Tryz.ntmps117
    go_wp2_with fail
    refine (check_any _ _ _ A C n X Y K _ hN HN.out HO.out).mono ?_
    rw [←HV.out]
    rintro e w1 ⟨rfl,hb1⟩
    go_wp2
    go_ret2
    refine ⟨_,fun _=>.slice none 0 0,rfl,hb1,?_⟩
    rw [HSV.out]
    exact ⟨World.ownsRow_nil _ _ _ _,fun i hi=>by omega⟩
theorem owns_seg9 {w:World} {base b cap:Nat} {t:TypeId} {l:List Num.Sg} (h:w.ownsRow base t 9 (.slice (some ⟨b,0,none⟩) l.length cap) l.length (l.flatMap sgC)) (i:Nat) (hi:i<l.length) :
    w.cell? ⟨b,i*9,none⟩=some (.int .i64 l[i].k)∧w.cell? ⟨b,i*9+1,none⟩=some (.int .i64 l[i].x0)∧w.cell? ⟨b,i*9+2,none⟩=some (.int .i64 l[i].y0)∧w.cell? ⟨b,i*9+3,none⟩=some (.int .i64 l[i].x1)∧w.cell? ⟨b,i*9+4,none⟩=some (.int .i64 l[i].y1)∧w.cell? ⟨b,i*9+5,none⟩=some (.int .i64 l[i].x2)∧w.cell? ⟨b,i*9+6,none⟩=some (.int .i64 l[i].y2)∧w.cell? ⟨b,i*9+7,none⟩=some (.int .i64 l[i].x3)∧w.cell? ⟨b,i*9+8,none⟩=some (.int .i64 l[i].y3):=by
  have flat:∀(l:List Num.Sg) (i q:Nat) (hi:i<l.length),q<9→(l.flatMap sgC)[i*9+q]? = (sgC l[i])[q]?:=by
    intro l
    induction l with
    | nil=>intro i q hi;simp at hi
    | cons x r ih=>
      intro i q hi hq
      rw [List.flatMap_cons]
      have h2:(sgC x).length=9:=rfl
      cases i with
      | zero=>
        simp only [Nat.zero_mul,Nat.zero_add,List.getElem_cons_zero]
        rw [List.getElem?_append_left (by omega)]
      | succ j=>
        have:=ih j q (by simpa using hi) hq
        simp only [List.getElem_cons_succ]
        rw [List.getElem?_append_right (by omega),h2,show (j+1)*9+q-9=j*9+q by omega]
        exact this
  have e:∀q,q<9→w.cell? ⟨b,i*9+q,none⟩=(sgC l[i])[q]?:=fun q hq=>by
    rw [h.cellAt (i*9+q) (by omega)];exact flat l i q hi hq
  exact ⟨e 0 (by omega),e 1 (by omega),e 2 (by omega),e 3 (by omega),e 4 (by omega),e 5 (by omega),e 6 (by omega),e 7 (by omega),e 8 (by omega)⟩
theorem ringSp_take {m:Num.Mp} {L:List Num.Sg} {j:Nat} (hj:j<L.length):Num.ringSp m (L.take (j+1))=Num.ringSp m (L.take j)++Num.segSp m L[j]:=by
  rw [List.take_succ_eq_append_getElem hj,Num.ringSp_snoc]
def ringE (m:Num.Mp) (L:List Num.Sg):Int:=if Num.ringOk m L=true then 0 else 6
def ringR (m:Num.Mp) (L:List Num.Sg):List (Int×Int):=if Num.ringOk m L=true then Num.ringSp m L else []
set_option maxRecDepth 100000 in
theorem ringOf_any (va:Value) (L:List Num.Sg) (base0:Nat) (a b c d x y:Int) (w:World) (hL:L.length≤4000) (hk:∀g∈L,Num.Kd g.k) (hown0:w.ownsRow base0 44 9 va L.length (L.flatMap sgC)) :
    Calls Tryz.prog 131 #[va,.agg #[.int .i64 a,.int .i64 b,.int .i64 c,.int .i64 d,.int .i64 x,.int .i64 y]] w fun e w'=>∃v,e=.returned (.tuple #[v,.int .i64 (ringE ⟨a,b,c,d,x,y⟩ L)])∧Below w.heap.size w w'∧w'.ownsRow w.heap.size 42 2 v (ringR ⟨a,b,c,d,x,y⟩ L).length ((ringR ⟨a,b,c,d,x,y⟩ L).flatMap spC):=by
  obtain ⟨M,hM⟩:∃M:Num.Mp,M=⟨a,b,c,d,x,y⟩:=⟨_,rfl⟩
  rw [←hM]
  have HPl:=hide (fun (g:Num.Sg) (w:World)=>segPut_any g.k g.x0 g.y0 g.x1 g.y1 g.x2 g.y2 g.x3 g.y3 a b c d x y w)
  rw [←hM] at HPl
  obtain ⟨E,hE⟩:∃E,E=ringE M L:=⟨_,rfl⟩
  obtain ⟨R,hR⟩:∃R,R=ringR M L:=⟨_,rfl⟩
  rw [←hE,←hR]
  have HNo:Hid (Num.ringOk M L=false→E=6∧R=[]):=fun h=>by rw [hE,hR];unfold ringE ringR;rw [h];exact ⟨rfl,rfl⟩
  have HYe:Hid (Num.ringOk M L=true→E=0∧R=Num.ringSp M L):=fun h=>by rw [hE,hR];unfold ringE ringR;rw [h];exact ⟨rfl,rfl⟩
  have HKd:=hide hk
  obtain ⟨ao,cp,rfl,hao⟩:=owns_formN hown0
  have HO0:=hide hown0
  have HAo:=hide hao
  have hbl:∀g2,ao=some ⟨g2,0,none⟩→g2<w.heap.size:=fun g2 e=>(hown0.lt g2 (by rw [e];rfl)).2
  have HBl:=hide hbl
  obtain ⟨n,hn⟩:∃n,n=L.length:=⟨_,rfl⟩
  rw [←hn] at hL ⊢
  have HN:=hide hn
  obtain ⟨i0,hi0,hz0,hz1,hz2⟩:=info_parts info_spot
  have HMr:=hide (mp6_row a b c d x y w 40)
  clear hM hE hR hk hown0 hao hbl hn
  go_enter Tryz.func131,Tryz.ntmps131
  go_wp2_with fail
  go_loopw [6,16] (fun v t wr=>∃j:Nat,j≤n∧t=.int .i64 j∧Below (w.heap.size+1) (w.alloc (.cells #[.int .i64 a,.int .i64 b,.int .i64 c,.int .i64 d,.int .i64 x,.int .i64 y] 40)) wr∧(∀i (hi:i<L.length),i<j→Num.putOk M L[i]=true)∧wr.ownsRow (w.heap.size+1) 42 2 v (Num.ringSp M (L.take j)).length ((Num.ringSp M (L.take j)).flatMap spC)) (fun _ t _=>n-(intOf t).toNat)
  case atStart=>exact ⟨0,by omega,rfl,Below.refl _ _,fun i hi h=>by omega,by simpa [Num.ringSp] using World.ownsRow_nil _ _ _ _⟩
  case round=>
    obtain ⟨vo,rfl⟩:∃vo,vo=u6:=⟨_,rfl⟩
    obtain ⟨wo,rfl⟩:∃wo,wo=wr:=⟨wr,rfl⟩
    obtain ⟨j,hj,rfl,hB,hok,hown⟩:=hrel
    have hsB:=hB.size
    simp at hsB
    have HBw:Hid (Below w.heap.size w wo):=Below.trans (by (repeat any_goals first | exact .refl _ _ | assumption | refine .drew ?_ | refine below_drewN ?_ _ | refine .setCell ?_ ?_ _ | refine .alloc ?_ ?_ _ | omega | (simp <;> omega))) (hB.mono (by omega))
    by_cases hlt:j<n
    · have hjl:j<L.length:=by rw [←HN.out];exact hlt
      obtain ⟨g2,rfl⟩:=HAo.out (by rw [←HN.out];omega)
      have hg2:=HBl.out g2 rfl
      have hO2:=owns_of_block (w':=wo) HO0.out (fun q hq=>by simp [Value.ownBlock] at hq;subst hq;exact HBw.out.block _ hg2)
      obtain ⟨c0,c1,c2,c3,c4,c5,c6,c7,c8⟩:=owns_seg9 hO2 j hjl
      have HSu:=hide (ringSp_take (m:=M) hjl)
      have HKj:=hide (HKd.out _ (List.getElem_mem hjl))
      have HOkN:=hide (fun h=>Num.ringOk_no (m:=M) hjl h)
      have hlen:=Num.ringSp_le M (L.take j)
      have hlt2:(L.take j).length≤4000:=by rw [List.length_take];omega
      have HStep:Hid (Num.putOk M L[j]=true→∀i (hi:i<L.length),i<j+1→Num.putOk M L[i]=true):=fun h i hi hij=>by
        rcases (show i<j∨i=j by omega) with h1 | h1
        · exact hok i hi h1
        · subst h1;exact h
      obtain ⟨S,hS⟩:∃S,S=L[j]:=⟨_,rfl⟩
      rw [←hS] at c0 c1 c2 c3 c4 c5 c6 c7 c8 HSu HKj HOkN HStep
      have hMr:=row_below HMr.out hB (by omega)
      obtain ⟨d0,d1,d2,d3,d4,d5⟩:=mp6_cells hMr
      have hg2w:g2<wo.heap.size:=by omega
      have y0:w.heap.size<wo.heap.size:=by omega
      have HCall:=hide (HPl.out S)
      obtain ⟨PG,hPG⟩:∃PG,PG=Num.putG M S:=⟨_,rfl⟩
      obtain ⟨PE,hPE⟩:∃PE,PE=Num.putE M S:=⟨_,rfl⟩
      rw [←hPG,←hPE] at HCall
      have HPG:=hide hPG
      have HPE:=hide hPE
      have HOw:=hide hown
      have HB:=hide hB
      clear hO2 hS hMr hPG hPE hok hown hB
      go_wp2_with fail
      refine (HCall.out _).mono ?_
      rintro e w1 ⟨rfl,hb1⟩
      have hs1:wo.heap.size<w1.heap.size:=by have:=hb1.size;simp at this;omega
      have hB1:Below wo.heap.size wo w1:=Below.trans (by (repeat any_goals first | exact .refl _ _ | assumption | refine .drew ?_ | refine below_drewN ?_ _ | refine .setCell ?_ ?_ _ | refine .alloc ?_ ?_ _ | omega | (simp <;> omega))) (hb1.mono (by simp))
      have hown1:=owns_of_block HOw.out (fun q hq=>hB1.block q (HOw.out.lt q hq).2)
      have hBB1:Below (w.heap.size+1) (w.alloc (.cells #[.int .i64 a,.int .i64 b,.int .i64 c,.int .i64 d,.int .i64 x,.int .i64 y] 40)) w1:=HB.out.trans (hB1.mono (by omega))
      have HBw1:=hide (HBw.out.trans (hB1.mono (by omega)))
      clear hb1 hB1 c0 c1 c2 c3 c4 c5 c6 c7 c8 d0 d1 d2 d3 d4 d5
      cases hput:Num.putOk M S
      · have hPE6:PE=6:=by rw [HPE.out];unfold Num.putE;rw [hput];rfl
        subst hPE6
        obtain ⟨rfl,rfl⟩:=HNo.out (HOkN.out hput)
        clear hput HNo HYe
        go_wp2
        go_ret2
        refine ⟨_,rfl,?_,World.ownsRow_nil _ _ _ _⟩
        have:=HBw1.out
        have hs2:=this.size
        exact this.alloc (by omega) _
      · have hPE0:PE=0:=by rw [HPE.out];unfold Num.putE;rw [hput];rfl
        have hPGv:PG=Num.putV M S:=by rw [HPG.out];unfold Num.putG;rw [hput];rfl
        have hcE:=Num.put_curve hput HKj.out
        have hcl:=Num.curveL_le (Num.putV M S)
        have hcp:=Num.curveL_pos hcE
        have HSg:Hid (Num.segSp M S=(Num.curveL PG).dropLast):=by unfold Hid Num.segSp;rw [hPGv]
        rw [←hPGv] at hcE hcl hcp
        have HCv:=hide (fun w=>chordCurve_any PG.k PG.x0 PG.y0 PG.x1 PG.y1 PG.x2 PG.y2 PG.x3 PG.y3 w)
        have HSt2:=hide (HStep.out hput)
        rw [hcE] at HCv
        obtain ⟨CL,hCL⟩:∃CL,CL=Num.curveL PG:=⟨_,rfl⟩
        rw [←hCL] at HCv HSg hcl hcp
        subst hPE0
        clear hput hPGv hcE hCL HNo HStep
        go_wp2_with fail
        refine (HCv.out _).mono ?_
        rintro e w2 ⟨vC,rfl,hb2,hownC⟩
        have hs2:w1.heap.size<w2.heap.size:=by have:=hb2.size;simp at this;omega
        have hB2:Below w1.heap.size w1 w2:=Below.trans (by (repeat any_goals first | exact .refl _ _ | assumption | refine .drew ?_ | refine below_drewN ?_ _ | refine .setCell ?_ ?_ _ | refine .alloc ?_ ?_ _ | omega | (simp <;> omega))) (hb2.mono (by simp))
        have hown2:=owns_of_block hown1 (fun q hq=>hB2.block q (hown1.lt q hq).2)
        have hBB2:Below (w.heap.size+1) (w.alloc (.cells #[.int .i64 a,.int .i64 b,.int .i64 c,.int .i64 d,.int .i64 x,.int .i64 y] 40)) w2:=hBB1.trans (hB2.mono (by omega))
        obtain ⟨gC,capC,rfl,hgC1,hgC2⟩:=hownC.form hcp
        rw [nblk_alloc] at hgC1
        have hvlt:∀q,vo.ownBlock=some q→q<w1.heap.size:=fun q hq=>(hown1.lt q hq).2
        have HOC:=hide hownC
        have HVl:=hide hvlt
        obtain ⟨RP,hRP⟩:∃RP,RP=Num.ringSp M (L.take j):=⟨_,rfl⟩
        rw [←hRP] at hown2 HSu hlen
        rw [HSg.out] at HSu
        obtain ⟨mC,hmC⟩:∃mC,mC=CL.length:=⟨_,rfl⟩
        rw [←hmC] at hcl hcp ⊢
        have HMC:=hide hmC
        have HO2:=hide hown2
        have HBB2:=hide hBB2
        clear hb2 hB2 hownC hvlt hRP hmC hown1 hBB1 hown2 hBB2
        go_wp2_with fail
        go_loopw [6,39] (fun v t wr=>∃i:Nat,i≤mC∧t=.int .i64 i∧Touch (fun q=>vo.ownBlock=some q) w2 wr∧Below (w.heap.size+1) (w.alloc (.cells #[.int .i64 a,.int .i64 b,.int .i64 c,.int .i64 d,.int .i64 x,.int .i64 y] 40)) wr∧(v.ownBlock=vo.ownBlock∨∃q,v.ownBlock=some q∧w2.heap.size≤q)∧wr.ownsRow (w.heap.size+1) 42 2 v (RP++CL.dropLast.take i).length ((RP++CL.dropLast.take i).flatMap spC)) (fun _ t _=>mC-(intOf t).toNat)
        case atStart=>exact ⟨0,by omega,rfl,Touch.refl _ _,HBB2.out,.inl rfl,by simpa using HO2.out⟩
        case round=>
          obtain ⟨v,rfl⟩:∃v,v=u6:=⟨_,rfl⟩
          obtain ⟨i,hi,rfl,hT,hBi,hvb,hown⟩:=hrel
          have hsi:=hT.size
          by_cases hlti:i<mC
          · have hil:i<CL.length:=by rw [←HMC.out];exact hlti
            have hneC:¬vo.ownBlock=some gC:=fun e=>by have:=HVl.out _ e;omega
            have hblkC:wr.heap[gC]? = w2.heap[gC]?:=hT.block gC hgC2 hneC
            have hOC:=owns_of_block (w':=wr) HOC.out (fun q hq=>by simp [Value.ownBlock] at hq;subst hq;exact hblkC)
            obtain ⟨p0,p1⟩:=owns_sp hOC i hil
            obtain ⟨t1,t2⟩:=Num.dropLast_take_succ CL i
            have hlenI:(RP++CL.dropLast.take i).length≤111*4000+112:=by rw [List.length_append,List.length_take];omega
            have hgCw:gC<wr.heap.size:=by omega
            have hdi:decide ((i:Int)<(mC:Int))=true:=by simp;omega
            have HT:=hide hT
            have HVb:=hide hvb
            have HBi:=hide hBi
            by_cases hl1:i+1<mC
            · have htk:=t1 (by rw [←HMC.out];exact hl1) hil
              obtain ⟨z,hz⟩:∃z,z=CL[i]:=⟨_,rfl⟩
              rw [←hz] at p0 p1 htk
              obtain ⟨zx,zy⟩:=z
              simp only at p0 p1
              have HTk2:Hid (RP++CL.dropLast.take (i+1)=(RP++CL.dropLast.take i)++[(zx,zy)]):=by unfold Hid;rw [htk,List.append_assoc]
              have hd2:decide ((i:Int)+1<(mC:Int))=true:=by simp;omega
              obtain ⟨xs2,hxs⟩:∃xs2,xs2=(RP++CL.dropLast.take i).flatMap spC:=⟨_,rfl⟩
              obtain ⟨ln,hln⟩:∃ln,ln=(RP++CL.dropLast.take i).length:=⟨_,rfl⟩
              rw [←hxs,←hln] at hown
              rw [←hln] at hlenI
              have HX2:=hide hxs
              have HLn2:=hide hln
              clear hz htk t1 t2 hxs hln hT hvb hBi hneC hblkC hOC
              go_wp2_with (at_builtin;refine wpList_append_lies _ rfl _ _ 88 rfl (w.heap.size+1) 42 i0 (.agg #[.int .i64 0,.int .i64 0]) 2 16 Tryz.underlying88 hi0 hz0 hz1 hz2 rfl (by omega) v ln xs2 rfl ((hown.alloc _).alloc _) ⟨wr.heap.size+1,0,none⟩ 1 1 [.int .i64 zx,.int .i64 zy] rfl rfl ?l1 ?l2 (by omega) ?l3 ?l4 ?l5 (wr.heap.size+1+1) (by simp) ?_)
              try (case l1=>exact news_sp (wr.alloc _) [.int .i64 zx,.int .i64 zy] _ _ (by simp))
              case l2=>first | exact one_two _ _ | exact ⟨rfl,rfl⟩
              case l3=>unfold maxLen;omega
              case l4=>omega
              case l5=>first | omega | (simp;omega)
              intro g cap w4 hown4 hgrow hat hlt4
              have hb4:Below (w.heap.size+1) (w.alloc (.cells #[.int .i64 a,.int .i64 b,.int .i64 c,.int .i64 d,.int .i64 x,.int .i64 y] 40)) w4:=((HBi.out.alloc (by omega) _).alloc (by simp;omega) _).grown hgrow (by simp;omega) (fun q hq=>(hown.lt q hq).1)
              have hT4:Touch (fun q=>vo.ownBlock=some q) w2 w4:=((HT.out.alloc _).alloc _).grown hgrow (fun q hq=>by
                rcases HVb.out with h | ⟨g',h1,h2⟩
                · exact .inl (h ▸ hq)
                · rw [h1] at hq;simp at hq;subst hq;exact .inr h2)
              have HVb4:Hid ((Value.slice (some ⟨g,0,none⟩) (ln+1) cap).ownBlock=vo.ownBlock∨∃g',(Value.slice (some ⟨g,0,none⟩) (ln+1) cap).ownBlock=some g'∧w2.heap.size≤g'):=by
                unfold Hid
                rcases hat with hat | hat
                · rcases HVb.out with h | ⟨g',h1,h2⟩
                  · left;rw [←h,hat];rfl
                  · right;rw [hat] at h1;exact ⟨g',by simpa [Value.ownBlock] using h1,h2⟩
                · right;exact ⟨g,rfl,by omega⟩
              have HO4:Hid (w4.ownsRow (w.heap.size+1) 42 2 (.slice (some ⟨g,0,none⟩) (ln+1) cap) (RP++CL.dropLast.take (i+1)).length ((RP++CL.dropLast.take (i+1)).flatMap spC)):=by
                unfold Hid
                exact push_sp (l:=RP++CL.dropLast.take i) (p:=(zx,zy)) (m:=ln+1) (by rw [←HX2.out];exact hown4) HTk2.out (by rw [HLn2.out])
              have HT4:=hide hT4
              clear hown4 hgrow hat hown hT4 p0 p1
              go_wp2
              go_roundw
              case rel=>exact ⟨i+1,by omega,by go_num,HT4.out,hb4,HVb4.out,HO4.out⟩
              case measure=>simp [intOf];omega
            · have htk:=t2 (by rw [←HMC.out];exact hl1)
              have HTk2:=hide htk
              have HOw2:=hide hown
              have hd2:decide ((i:Int)+1<(mC:Int))=false:=by simp;omega
              clear htk t1 t2 hT hvb hBi hneC hblkC hOC hown
              go_wp2
              go_roundw
              case rel=>exact ⟨i+1,by omega,by go_num,HT.out.alloc _,HBi.out.alloc (by omega) _,HVb.out,by rw [HTk2.out];exact HOw2.out.alloc _⟩
              case measure=>simp [intOf];omega
          · have hdi:decide ((i:Int)<(mC:Int))=false:=by simp;omega
            have htk:CL.dropLast.take i=CL.dropLast:=List.take_of_length_le (by rw [List.length_dropLast,←HMC.out];omega)
            rw [htk,←HSu.out] at hown
            have HOw2:=hide hown
            clear hT hvb htk hown
            go_wp2
            go_roundw
            case rel=>exact ⟨j+1,by omega,by go_num,hBi,HSt2.out,HOw2.out⟩
            case measure=>simp [intOf];omega
    · have e:j=n:=by omega
      have hd0:decide ((j:Int)<(n:Int))=false:=by simp;omega
      have htk:L.take j=L:=List.take_of_length_le (by rw [←HN.out];omega)
      rw [htk] at hown
      obtain ⟨rfl,rfl⟩:=HYe.out (by
        unfold Num.ringOk
        rw [List.all_eq_true]
        intro g hg
        obtain ⟨i,hi,rfl⟩:=List.mem_iff_getElem.1 hg
        exact hok i hi (by rw [e,HN.out];exact hi))
      have HO9:=hide hown
      clear hown hok htk HNo HYe hB
      go_wp2
      go_ret2
      exact ⟨vo,rfl,HBw.out,owns_mono HO9.out (Nat.le_succ _)⟩
theorem info_sps:(Tryz.prog.info? 88).map (fun i=>(i.zero,i.size,i.bytes))=some (some (.slice none 0 0),1,24):=by kernel_rfl
structure SpRings (w:World) (base:Nat) (v:Value) (m:Nat) (V:Nat→Value) (L:Nat→List (Int×Int)):Prop where
  outer:w.ownsRow base 88 1 v m ((List.range m).map V)
  inner:∀i,i<m→w.ownsRow base 42 2 (V i) (L i).length ((L i).flatMap spC)
  inj:∀i j,i<m→j<m→i≠j→∀q,(V i).ownBlock=some q→(V j).ownBlock≠some q
theorem SpRings.of_blocks {w w':World} {base:Nat} {v:Value} {m:Nat} {V:Nat→Value} {L:Nat→List (Int×Int)} (h:SpRings w base v m V L) (h1:∀b,v.ownBlock=some b→w'.heap[b]? = w.heap[b]?) (h2:∀i,i<m→∀b,(V i).ownBlock=some b→w'.heap[b]? = w.heap[b]?):SpRings w' base v m V L:=
  ⟨owns_of_block h.outer h1,fun i hi=>owns_of_block (h.inner i hi) (h2 i hi),h.inj⟩
theorem SpRings.below {w w':World} {base:Nat} {v:Value} {m:Nat} {V:Nat→Value} {L:Nat→List (Int×Int)} (h:SpRings w base v m V L) (hb:Below w.heap.size w w'):SpRings w' base v m V L:=
  h.of_blocks (fun b hbb=>hb.block b (h.outer.lt b hbb).2) (fun i hi b hbb=>hb.block b ((h.inner i hi).lt b hbb).2)
theorem SpRings.mono {w:World} {base base':Nat} {v:Value} {m:Nat} {V:Nat→Value} {L:Nat→List (Int×Int)} (h:SpRings w base v m V L) (hb:base'≤base):SpRings w base' v m V L:=
  ⟨owns_mono h.outer hb,fun i hi=>owns_mono (h.inner i hi) hb,h.inj⟩
theorem SpRings.nil (w:World) (base:Nat) (V:Nat→Value) (L:Nat→List (Int×Int)):SpRings w base (.slice none 0 0) 0 V L:=
  ⟨World.ownsRow_nil _ _ _ _,fun i hi=>by omega,fun i j hi=>by omega⟩
theorem SpRings.congr {w:World} {base:Nat} {v:Value} {m:Nat} {V:Nat→Value} {L L':Nat→List (Int×Int)} (h:SpRings w base v m V L) (e:∀i,i<m→L i=L' i):SpRings w base v m V L':=
  ⟨h.outer,fun i hi=>by rw [←e i hi];exact h.inner i hi,h.inj⟩
def traceOk (N:Nat) (n:Nat→Nat) (X Y K:Nat→Nat→Int) (m:Num.Mp):Bool:=(List.range N).all fun i=>Num.ringOk m (ringL n X Y K i)
def traceE (N:Nat) (n:Nat→Nat) (X Y K:Nat→Nat→Int) (m:Num.Mp):Int:=
  if (Num.chkV N n X Y K).1=0 then (if Num.fairB m.a m.b m.c m.d m.x m.y=false then 5 else if traceOk N n X Y K m=false then 6 else 0) else (Num.chkV N n X Y K).1
def traceN (N:Nat) (n:Nat→Nat) (X Y K:Nat→Nat→Int) (m:Num.Mp):Nat:=if traceE N n X Y K m=0 then N else 0
def traceL (n:Nat→Nat) (X Y K:Nat→Nat→Int) (m:Num.Mp) (i:Nat):List (Int×Int):=Num.ringSp m (ringL n X Y K i)
theorem traceOk_no {N:Nat} {n:Nat→Nat} {X Y K:Nat→Nat→Int} {m:Num.Mp} {k:Nat} (hk:k<N) (h:Num.ringOk m (ringL n X Y K k)=false):traceOk N n X Y K m=false:=by
  cases e:traceOk N n X Y K m
  · rfl
  · unfold traceOk at e
    rw [List.all_eq_true] at e
    rw [e k (by simpa using hk)] at h;cases h
theorem traceOk_yes {N:Nat} {n:Nat→Nat} {X Y K:Nat→Nat→Int} {m:Num.Mp} (h:∀i,i<N→Num.ringOk m (ringL n X Y K i)=true):traceOk N n X Y K m=true:=by
  unfold traceOk
  rw [List.all_eq_true]
  intro i hi
  exact h i (by simpa using hi)
theorem ringL_kd {n:Nat→Nat} {X Y K:Nat→Nat→Int} {k:Nat} (s2:2≤n k) (sb:∀i,i<n k→Num.badB (K k) (n k) i=false):∀g∈ringL n X Y K k,Num.Kd g.k:=
  Num.ring_kd (by omega) (fun i hi=>Num.may_kd (sb i hi))
theorem one_slice (ao:Option Addr) (n c:Nat):∀u∈[Value.slice ao n c],u.oneCell'=true:=by
  intro u hu;simp at hu;subst hu;rfl
theorem SpRings.push {w w3:World} {base k g cap m c:Nat} {v:Value} {ao:Option Addr} {V:Nat→Value} {L:Nat→List (Int×Int)} {o:Obj} (h:SpRings w base v k V L) (hin:w.ownsRow base 42 2 (.slice ao m c) (L k).length ((L k).flatMap spC))
    (hnew:∀q,(Value.slice ao m c).ownBlock=some q→∀i,i<k→(V i).ownBlock≠some q)
    (hown:w3.ownsRow base 88 1 (.slice (some ⟨g,0,none⟩) (k+1) cap) (k+1) ((List.range k).map V++[.slice ao m c])) (hg:(w.alloc o).grownBy w3 v.ownBlock) :
    SpRings w3 base (.slice (some ⟨g,0,none⟩) (k+1) cap) (k+1) (fun i=>if i=k then .slice ao m c else V i) L:=by
  have hkeep:∀(u:Value) (l:List (Int×Int)),w.ownsRow base 42 2 u l.length (l.flatMap spC)→w3.ownsRow base 42 2 u l.length (l.flatMap spC):=fun u l h'=>owns_of_block h' (fun b hbb=>by
    have hty:=owns_ty h' hbb
    have hlt9:=(h'.lt b hbb).2
    rw [hg.block b (by rw [nblk_alloc];omega) (fun e=>by
      have:=owns_ty h.outer e.symm
      rw [hty] at this
      simp at this),blk_alloc_lt _ _ _ hlt9])
  refine ⟨?_,fun i hi=>?_,fun i j hi hj hij q hq=>?_⟩
  · rw [range_map_snoc,range_map_congr (g:=V) (fun j hj=>by rw [if_neg (by omega)]),if_pos rfl]
    exact hown
  · by_cases e:i=k
    · subst e;rw [if_pos rfl];exact hkeep _ _ hin
    · rw [if_neg e];exact hkeep _ _ (h.inner i (by omega))
  · by_cases e:i=k
    · subst e
      rw [if_pos rfl] at hq
      rw [if_neg (by omega)]
      exact hnew q hq j (by omega)
    · rw [if_neg e] at hq
      by_cases e2:j=k
      · subst e2
        rw [if_pos rfl]
        exact fun e3=>hnew q e3 i (by omega) hq
      · rw [if_neg e2]
        exact h.inj i j (by omega) (by omega) hij q hq
set_option maxRecDepth 100000 in
theorem chordTrace_any (ad:Option Addr) (N cc:Nat) (A:Nat→Option Addr) (C n:Nat→Nat) (X Y K:Nat→Nat→Int) (a b c d x y:Int) (w:World) (hN:N≤4294967296) (hn:∀i,i<N→n i≤4294967296) (ho:OutAt w ad N A C n X Y K) :
    Calls Tryz.prog 82 #[.slice ad N cc,.agg #[.int .i64 a,.int .i64 b,.int .i64 c,.int .i64 d,.int .i64 x,.int .i64 y]] w fun e w'=>∃v V,e=.returned (.tuple #[v,.int .i64 (traceE N n X Y K ⟨a,b,c,d,x,y⟩)])∧Below w.heap.size w w'∧SpRings w' w.heap.size v (traceN N n X Y K ⟨a,b,c,d,x,y⟩) V (traceL n X Y K ⟨a,b,c,d,x,y⟩):=by
  obtain ⟨M,hM⟩:∃M:Num.Mp,M=⟨a,b,c,d,x,y⟩:=⟨_,rfl⟩
  rw [←hM]
  have hFM:Num.fairB M.a M.b M.c M.d M.x M.y=Num.fairB a b c d x y:=by rw [hM]
  have HRg:=hide (fun va L base0 w h1 h2 h3=>ringOf_any va L base0 a b c d x y w h1 h2 h3)
  rw [←hM] at HRg
  have hcs:=Num.chk_cases N n X Y K
  have HRN:Hid ((Num.chkV N n X Y K).1=0→ringN N n X Y K=N):=fun h=>by unfold ringN;rw [if_pos h]
  obtain ⟨TE,hTE⟩:∃TE,TE=traceE N n X Y K M:=⟨_,rfl⟩
  obtain ⟨TN,hTN⟩:∃TN,TN=traceN N n X Y K M:=⟨_,rfl⟩
  have hTN2:TN=if TE=0 then N else 0:=by rw [hTN,hTE];rfl
  rw [←hTE,←hTN]
  unfold traceE at hTE
  rw [hFM] at hTE
  obtain ⟨V0,hV⟩:∃V,V=Num.chkV N n X Y K:=⟨_,rfl⟩
  rw [←hV] at hcs HRN hTE
  have HV:=hide hV
  have HO:=hide (ho.below ((Below.refl w.heap.size w).alloc (Nat.le_refl _) (.cells #[.int .i64 a,.int .i64 b,.int .i64 c,.int .i64 d,.int .i64 x,.int .i64 y] 40)))
  have HN:=hide hn
  have HMr:=hide (mp6_row a b c d x y w 40)
  clear hV hTN ho hn hM hFM
  rcases hcs with ⟨h0,hm,hsh,hfa⟩ | h0
  · rw [if_pos h0] at hTE
    obtain ⟨m16,m200,mn⟩:=ok_many hm
    have HSH:=hide hsh
    have HMN:=hide mn
    have HRN2:=hide (HRN.out h0)
    clear hsh hfa mn hm HRN
    obtain ⟨v0,v1,v2⟩:=V0
    have h0:v0=0:=h0
    subst h0
    cases hF:Num.fairB a b c d x y
    · rw [if_pos hF] at hTE
      subst hTE
      have hTN3:TN=0:=by rw [hTN2];rfl
      subst hTN3
      clear hTN2
      go_enter Tryz.func82,Tryz.ntmps82
      go_wp2_with fail
      refine (outRings_any _ _ _ A C n X Y K _ hN HN.out HO.out).mono ?_
      rw [←HV.out]
      rintro e w1 ⟨vr,VR,rfl,hb1,_⟩
      have hMr1:=row_below HMr.out hb1 HMr.out.lt
      obtain ⟨d0,d1,d2,d3,d4,d5⟩:=mp6_cells hMr1
      have hz1:=hMr1.lt
      have HB1:Hid (Below w.heap.size w w1):=Below.trans (by (repeat any_goals first | exact .refl _ _ | assumption | refine .drew ?_ | refine below_drewN ?_ _ | refine .setCell ?_ ?_ _ | refine .alloc ?_ ?_ _ | omega | (simp <;> omega))) (hb1.mono (by simp))
      clear hb1 hMr1
      go_wp2_with fail
      refine (fair_any _ _ _ _ _ _ _).mono ?_
      rw [hF]
      rintro e w2 ⟨rfl,hb2⟩
      have HB2:=hide (HB1.out.trans (hb2.mono (by omega)))
      clear hb2 d0 d1 d2 d3 d4 d5 hF
      go_wp2
      go_ret2
      exact ⟨_,fun _=>.slice none 0 0,rfl,HB2.out,SpRings.nil _ _ _ _⟩
    · rw [if_neg (by rw [hF];decide)] at hTE
      have HNo:Hid (traceOk N n X Y K M=false→TE=6∧TN=0):=fun h=>by
        rw [if_pos h] at hTE;rw [hTN2,hTE];exact ⟨rfl,rfl⟩
      have HYe:Hid (traceOk N n X Y K M=true→TE=0∧TN=N):=fun h=>by
        rw [if_neg (by rw [h];decide)] at hTE;rw [hTN2,hTE];exact ⟨rfl,rfl⟩
      obtain ⟨i0,hi0,hz0,hz1,hz2⟩:=info_parts info_sps
      clear hTE hTN2
      go_enter Tryz.func82,Tryz.ntmps82
      go_wp2_with fail
      refine (outRings_any _ _ _ A C n X Y K _ hN HN.out HO.out).mono ?_
      rw [←HV.out,HRN2.out]
      rintro e w1 ⟨vr,VR,rfl,hb1,hRA⟩
      have hMr1:=row_below HMr.out hb1 HMr.out.lt
      obtain ⟨d0,d1,d2,d3,d4,d5⟩:=mp6_cells hMr1
      have hz1':=hMr1.lt
      have HMr1:=hide hMr1
      have HB1:Hid (Below w.heap.size w w1):=Below.trans (by (repeat any_goals first | exact .refl _ _ | assumption | refine .drew ?_ | refine below_drewN ?_ _ | refine .setCell ?_ ?_ _ | refine .alloc ?_ ?_ _ | omega | (simp <;> omega))) (hb1.mono (by simp))
      obtain ⟨ao,cp,rfl,hao⟩:=owns_form9' hRA.outer
      have HRA:=hide hRA
      have HAo:=hide hao
      clear hb1 hMr1 hRA hao
      go_wp2_with fail
      refine (fair_any _ _ _ _ _ _ _).mono ?_
      rw [hF]
      rintro e w2 ⟨rfl,hb2⟩
      have hs2:=hb2.size
      have HB2:=hide (HB1.out.trans (hb2.mono (by omega)))
      have HRA2:=hide (HRA.out.below hb2)
      have HMr2:=hide (row_below HMr1.out hb2 hz1')
      have hz2':=HMr2.out.lt
      clear hb2 d0 d1 d2 d3 d4 d5 hF
      go_wp2_with fail
      go_loopw [8,26] (fun v t wr=>∃(k:Nat) (V:Nat→Value),k≤N∧t=.int .i64 k∧Below w2.heap.size w2 wr∧(∀i,i<k→Num.ringOk M (ringL n X Y K i)=true)∧SpRings wr w2.heap.size v k V (traceL n X Y K M)) (fun _ t _=>N-(intOf t).toNat)
      case atStart=>exact ⟨0,fun _=>.slice none 0 0,by omega,rfl,Below.refl _ _,fun i hi=>by omega,SpRings.nil _ _ _ _⟩
      case round=>
        obtain ⟨v,rfl⟩:∃v,v=u8:=⟨_,rfl⟩
        obtain ⟨k,V,hk,rfl,hb,hok,hSR⟩:=hrel
        have hsz:=hb.size
        by_cases hlt:k<N
        · obtain ⟨gr,rfl⟩:=HAo.out (by omega)
          have hRAw:=HRA2.out.below hb
          have ci:=hRAw.outer.cellAt k (by omega)
          rw [List.getElem?_map,List.getElem?_range hlt] at ci
          simp only [Option.map_some] at ci
          have hgrl:gr<wr.heap.size:=(hRAw.outer.lt gr rfl).2
          obtain ⟨s2,sb⟩:=ok_shape (HSH.out k hlt)
          have hnk:=HMN.out k hlt
          have hrl:(ringL n X Y K k).length≤4000:=by have:=refRing_len (X k) (Y k) (K k) (n k);unfold ringL;omega
          have HC:=hide (HRg.out (VR k) (ringL n X Y K k) _ wr hrl (ringL_kd s2 sb) (hRAw.inner k hlt))
          have hMrw:=row_below HMr2.out hb hz2'
          obtain ⟨d0,d1,d2,d3,d4,d5⟩:=mp6_cells hMrw
          have hzw:=hMrw.lt
          have HSR:=hide hSR
          have HOk:=hide hok
          have HB:=hide hb
          clear sb hRAw hMrw hSR hok hb
          go_wp2_with fail
          refine HC.out.mono ?_
          rintro e w3 ⟨vn,rfl,hb3,hown3⟩
          have hs3:=hb3.size
          have HB3:=hide (HB.out.trans (hb3.mono hsz))
          have HSR3:=hide (HSR.out.below hb3)
          clear ci d0 d1 d2 d3 d4 d5 HC
          cases hR:Num.ringOk M (ringL n X Y K k)
          · have hE6:ringE M (ringL n X Y K k)=6:=by unfold ringE;rw [hR];rfl
            rw [hE6]
            obtain ⟨rfl,rfl⟩:=HNo.out (traceOk_no hlt hR)
            have HBf:=hide (HB2.out.trans (HB3.out.mono (by omega)))
            clear hb3 hown3 hR hE6 HNo HYe
            go_wp2
            go_ret2
            exact ⟨_,fun _=>.slice none 0 0,rfl,HBf.out,SpRings.nil _ _ _ _⟩
          · have hE0:ringE M (ringL n X Y K k)=0:=by unfold ringE;rw [hR];rfl
            have hR0:ringR M (ringL n X Y K k)=traceL n X Y K M k:=by unfold ringR traceL;rw [hR];rfl
            rw [hE0]
            rw [hR0] at hown3
            have HOk2:Hid (∀i,i<k+1→Num.ringOk M (ringL n X Y K i)=true):=fun i hi=>by
              rcases (show i<k∨i=k by omega) with h1 | h1
              · exact HOk.out i h1
              · rw [h1];exact hR
            obtain ⟨an,cn,hvn,_⟩:=owns_formN hown3
            subst hvn
            have HNew:Hid (∀q,(Value.slice an (traceL n X Y K M k).length cn).ownBlock=some q→∀i,i<k→(V i).ownBlock≠some q):=fun q hq i hi e=>by
              have h1:=(hown3.lt q hq).1
              have h2:=((HSR.out.inner i hi).lt q e).2
              omega
            have HIn:=hide (owns_mono (base':=w2.heap.size) hown3 hsz)
            have hout:=HSR3.out.outer
            obtain ⟨xs,hxs⟩:∃xs,xs=(List.range k).map V:=⟨_,rfl⟩
            rw [←hxs] at hout
            have HX:=hide hxs
            obtain ⟨ml,hml⟩:∃ml,ml=(traceL n X Y K M k).length:=⟨_,rfl⟩
            rw [←hml] at HNew HIn ⊢
            have HML:=hide hml
            clear hb3 hown3 hR hE0 hR0 hxs hml
            go_wp2_with (at_builtin;refine wpList_append_lies _ rfl _ _ 95 rfl w2.heap.size 88 i0 (.slice none 0 0) 1 24 Tryz.underlying95 hi0 hz0 hz1 hz2 rfl (by omega) v k xs rfl (hout.alloc _) ⟨w3.heap.size,0,none⟩ 1 1 [.slice an ml cn] rfl rfl ?c1 ?c2 (by omega) ?c3 ?c4 ?c5 (w3.heap.size+1) (by simp) ?_)
            try (case c1=>exact news_sp w3 [.slice an ml cn] _ _ rfl)
            case c2=>first | rfl | exact one_slice _ _ _
            case c3=>unfold maxLen;omega
            case c4=>omega
            case c5=>first | omega | (simp;omega)
            intro g cap w4 hown4 hgrow hat hlt4
            rw [HX.out] at hown4
            have HS4:=hide (HSR3.out.push (by rw [←HML.out];exact HIn.out) HNew.out hown4 hgrow)
            have hb4:Below w2.heap.size w2 w4:=(HB3.out.alloc (by omega) _).grown hgrow (by simp;omega) (fun q hq=>(HSR3.out.outer.lt q hq).1)
            clear hown4 hgrow hat hout
            go_wp2
            go_roundw
            case rel=>exact ⟨k+1,_,by omega,by go_num,hb4,HOk2.out,HS4.out⟩
            case measure=>simp [intOf];omega
        · have e:k=N:=by omega
          obtain ⟨rfl,rfl⟩:=HYe.out (traceOk_yes (fun i hi=>hok i (by omega)))
          have HSR:=hide hSR
          have HBf:=hide (HB2.out.trans (hb.mono (by omega)))
          have hd0:decide ((k:Int)<(TN:Int))=false:=by simp;omega
          clear hSR hok hb HNo HYe
          go_wp2
          go_ret2
          refine ⟨v,V,rfl,HBf.out,?_⟩
          rw [←e]
          exact HSR.out.mono (by omega)
  · rw [if_neg h0] at hTE
    subst hTE
    have hTN3:TN=0:=by rw [hTN2,if_neg h0]
    subst hTN3
    obtain ⟨v0,v1,v2⟩:=V0
    have hb0:(v0 != 0)=true:=by simpa using h0
    clear h0 HRN hTN2
    go_enter Tryz.func82,Tryz.ntmps82
    go_wp2_with fail
    refine (outRings_any _ _ _ A C n X Y K _ hN HN.out HO.out).mono ?_
    rw [←HV.out]
    rintro e w1 ⟨vr,VR,rfl,hb1,_⟩
    have HB1:Hid (Below w.heap.size w w1):=Below.trans (by (repeat any_goals first | exact .refl _ _ | assumption | refine .drew ?_ | refine below_drewN ?_ _ | refine .setCell ?_ ?_ _ | refine .alloc ?_ ?_ _ | omega | (simp <;> omega))) (hb1.mono (by simp))
    clear hb1
    go_wp2
    go_ret2
    exact ⟨_,fun _=>.slice none 0 0,rfl,HB1.out,SpRings.nil _ _ _ _⟩
theorem glyphTrace_any (ad:Option Addr) (N cc:Nat) (A:Nat→Option Addr) (C n:Nat→Nat) (X Y K:Nat→Nat→Int) (a b c d x y:Int) (w:World) (hN:N≤4294967296) (hn:∀i,i<N→n i≤4294967296) (ho:OutAt w ad N A C n X Y K) :
    Calls Tryz.prog 38 #[.slice ad N cc,.agg #[.int .i64 a,.int .i64 b,.int .i64 c,.int .i64 d,.int .i64 x,.int .i64 y]] w fun e w'=>∃v V,e=.returned (.tuple #[v,.int .i64 (traceE N n X Y K ⟨a,b,c,d,x,y⟩)])∧Below w.heap.size w w'∧SpRings w' w.heap.size v (traceN N n X Y K ⟨a,b,c,d,x,y⟩) V (traceL n X Y K ⟨a,b,c,d,x,y⟩):=by
  have HN:=hide hn
  have HO:=hide (ho.below ((Below.refl w.heap.size w).alloc (Nat.le_refl _) (.cells #[.int .i64 a,.int .i64 b,.int .i64 c,.int .i64 d,.int .i64 x,.int .i64 y] 40)))
  clear hn ho
  go_enter Tryz.func38,Tryz.ntmps38
  go_wp2_with fail
  refine (chordTrace_any _ _ _ A C n X Y K _ _ _ _ _ _ _ hN HN.out HO.out).mono ?_
  rintro e w1 ⟨v,V,rfl,hb,hS⟩
  have hb0:Below w.heap.size w w1:=Below.trans (by (repeat any_goals first | exact .refl _ _ | assumption | refine .drew ?_ | refine below_drewN ?_ _ | refine .setCell ?_ ?_ _ | refine .alloc ?_ ?_ _ | omega | (simp <;> omega))) (hb.mono (by simp))
  have HW:=hide (hS.mono (base':=w.heap.size) (by simp))
  clear hb hS
  go_wp2
  go_ret2
  exact ⟨v,V,rfl,hb0,HW.out⟩
theorem keepC {w w':World} {q a b:Nat} {x0 x1 x2 x3:Value} (hb:Below w.heap.size w w') (h1:q<w.heap.size)
    (h:w.cell? ⟨q,a,none⟩=some x0∧w.cell? ⟨q,a+1,none⟩=some x1∧w.cell? ⟨q,b,none⟩=some x2∧w.cell? ⟨q,b+1,none⟩=some x3) :
    w'.cell? ⟨q,a,none⟩=some x0∧w'.cell? ⟨q,a+1,none⟩=some x1∧w'.cell? ⟨q,b,none⟩=some x2∧w'.cell? ⟨q,b+1,none⟩=some x3:=
  ⟨(hb.cell (p:=⟨q,_,none⟩) h1).trans h.1,(hb.cell (p:=⟨q,_,none⟩) h1).trans h.2.1,(hb.cell (p:=⟨q,_,none⟩) h1).trans h.2.2.1,(hb.cell (p:=⟨q,_,none⟩) h1).trans h.2.2.2⟩
set_option maxRecDepth 100000 in
theorem refArea_any (base N:Nat) (v:Value) (V:Nat→Value) (L:Nat→List (Int×Int)) (i j:Int) (w:World) (hS:SpRings w base v N V L) (hN:N≤16) (hL:∀r,r<N→(L r).length≤44400∧∀p∈L r,Num.inB p.1 p.2=true) (hi:0≤i∧i≤64) (hj:0≤j∧j≤64) :
    Calls Tryz.prog 153 #[v,.int .i64 i,.int .i64 j] w fun e w'=>e=.returned (.int .i64 (Num.areaV L N i j))∧Below w.heap.size w w':=by
  obtain ⟨ao,cap0,rfl,hao⟩:=owns_formN hS.outer
  have HS:=hide hS
  have HAo:=hide hao
  have HL:=hide hL
  have HA:Hid (Num.areaV L N i j=Num.sumZ (fun r=>Num.ringF (Num.chA i j) (L r)) N):=rfl
  clear hS hao hL
  go_enter Tryz.func153,Tryz.ntmps153
  go_wp2_with fail
  go_loopw [7,8] (fun t7 t8 wr=>∃c:Nat,c≤N∧t8=.int .i64 c∧t7=.int .i64 (Num.sumZ (fun r=>Num.ringF (Num.chA i j) (L r)) c)∧Below w.heap.size w wr) (fun _ t _=>N-(intOf t).toNat)
  case atStart=>exact ⟨0,by omega,rfl,rfl,Below.refl _ _⟩
  case round=>
    obtain ⟨wo,rfl⟩:∃wo,wo=wr:=⟨_,rfl⟩
    obtain ⟨c,hc,rfl,rfl,hbo⟩:=hrel
    have hso:=hbo.size
    by_cases hlt:c<N
    · have hd1:decide ((c:Int)<(N:Int))=true:=by simp;omega
      obtain ⟨g,rfl⟩:=HAo.out (by omega)
      have hSo:=HS.out.below hbo
      have ci:=hSo.outer.cellAt c (by omega)
      rw [List.getElem?_map,List.getElem?_range hlt] at ci
      simp only [Option.map_some] at ci
      have hin:=hSo.inner c hlt
      obtain ⟨an,cn,hvn,han⟩:=owns_formN hin
      rw [hvn] at ci hin
      obtain ⟨hl1,hl2⟩:=HL.out c hlt
      have hgl:g<wo.heap.size:=(hSo.outer.lt g rfl).2
      have i0':(0:Int)≤(c:Int):=by omega
      have i1':(c:Int)<(N:Int):=by omega
      have hbd:-(8192*44400*(c:Int))≤Num.sumZ (fun r=>Num.ringF (Num.chA i j) (L r)) c∧Num.sumZ (fun r=>Num.ringF (Num.chA i j) (L r)) c≤8192*44400*(c:Int):=
        Num.sumZ_bd (B:=8192*44400) c (fun r hr=>by have h1:=Num.ringA_bd (L r) i j;have h2:=(HL.out r (by omega)).1;omega)
      obtain ⟨A0,hA0⟩:∃A0,A0=Num.sumZ (fun r=>Num.ringF (Num.chA i j) (L r)) c:=⟨_,rfl⟩
      have HA1:Hid (Num.sumZ (fun r=>Num.ringF (Num.chA i j) (L r)) (c+1)=A0+Num.ringF (Num.chA i j) (L c)):=by unfold Hid;rw [hA0];rfl
      rw [←hA0] at hbd ⊢
      obtain ⟨l,hl⟩:∃l,l=L c:=⟨_,rfl⟩
      rw [←hl] at hin hl1 hl2 HA1 ci han
      obtain ⟨n,hn⟩:∃n,n=l.length:=⟨_,rfl⟩
      have HRF:Hid (Num.ringF (Num.chA i j) l=Num.sumZ (Num.chF (Num.chA i j) l) n):=by unfold Hid;rw [hn];rfl
      have HN:=hide hn
      rw [←hn] at hl1 ci han
      have HIn:=hide hin
      have HL2:=hide hl2
      have HAn:=hide han
      have HBo:=hide hbo
      clear hSo hin hl2 han hbo hl hn hvn hA0
      go_wp2_with fail
      go_loopw [7,10] (fun t7 t10 wr=>∃k:Nat,k≤n∧t10=.int .i64 k∧t7=.int .i64 (A0+Num.sumZ (Num.chF (Num.chA i j) l) k)∧Below wo.heap.size wo wr) (fun _ t _=>n-(intOf t).toNat)
      case atStart=>exact ⟨0,by omega,rfl,by simp [Num.sumZ],Below.refl _ _⟩
      case round=>
        obtain ⟨k,hk,rfl,rfl,hb⟩:=hrel
        have hsz:=hb.size
        by_cases hkl:k<n
        · have hkl2:k<l.length:=by rw [←HN.out];exact hkl
          obtain ⟨q,rfl⟩:=HAn.out (by omega)
          have hnx:=Num.nxR_lt hkl2
          obtain ⟨nx,hnxe⟩:∃nx,nx=Num.nxR l.length k:=⟨_,rfl⟩
          have hmod:((k:Int)+1) % (n:Int)=(nx:Int):=by
            rw [hnxe,Num.nxR_mod hkl2,←HN.out,Int.natCast_emod];rfl
          rw [←hnxe] at hnx
          have hOr:=owns_of_block (w':=wr) HIn.out (fun b hb2=>hb.block b (HIn.out.lt b hb2).2)
          obtain ⟨d0,d1⟩:=owns_sp hOr k hkl2
          obtain ⟨e0,e1⟩:=owns_sp hOr nx hnx
          have hqw:q<wr.heap.size:=(hOr.lt q rfl).2
          have hin1:=Num.inB_yes (HL2.out l[k] (List.getElem_mem hkl2))
          have hin2:=Num.inB_yes (HL2.out l[nx] (List.getElem_mem hnx))
          have HC:=hide (fun w'=>refChord_any l[k].1 l[k].2 l[nx].1 l[nx].2 i j w' hin1 hin2 hi hj)
          have bd:=Num.chordV_bd l[k].1 l[k].2 l[nx].1 l[nx].2 i j
          have HSt:Hid (Num.sumZ (Num.chF (Num.chA i j) l) (k+1)=Num.sumZ (Num.chF (Num.chA i j) l) k+Num.chordV l[k].1 l[k].2 l[nx].1 l[nx].2 i j):=by
            unfold Hid
            simp only [Num.sumZ,Num.chF,Num.chA]
            rw [←hnxe,Num.ats_at hkl2,Num.ats_at hnx]
          have sb:=Num.sumZ_bd (f:=Num.chF (Num.chA i j) l) (B:=8192) k (fun r _=>Num.chordV_bd _ _ _ _ _ _)
          obtain ⟨A1,hA1⟩:∃A1,A1=Num.sumZ (Num.chF (Num.chA i j) l) k:=⟨_,rfl⟩
          rw [←hA1] at HSt sb ⊢
          obtain ⟨p,hp⟩:∃p,p=l[k]:=⟨_,rfl⟩
          obtain ⟨r,hr⟩:∃r,r=l[nx]:=⟨_,rfl⟩
          rw [←hp,←hr] at HC bd HSt
          rw [←hp] at d0 d1
          rw [←hr] at e0 e1
          clear hp hr hA1 hin1 hin2 hOr hnxe
          obtain ⟨px,py⟩:=p
          obtain ⟨rx,ry⟩:=r
          simp only at HC bd HSt d0 d1 e0 e1
          obtain ⟨z,hz⟩:∃z,z=Num.chordV px py rx ry i j:=⟨_,rfl⟩
          rw [←hz] at HC bd HSt
          have hdk:decide ((k:Int)<(n:Int))=true:=by simp;omega
          have j0:(0:Int)≤(k:Int):=by omega
          have j1:(k:Int)<(n:Int):=by omega
          have j2:(0:Int)≤(nx:Int):=by omega
          have j3:(nx:Int)<(n:Int):=by have:=HN.out;omega
          have hn0:¬(n:Int)=0:=by omega
          have hn1:¬n=0:=by omega
          have hn2:((n:Int) == 0)=false:=by simp;omega
          have hw1:IntKind.i64.wrap ((k:Int)+1)=(k:Int)+1:=wrap_ok _ (by omega) (by omega)
          have htm:((k:Int)+1).tmod (n:Int)=(nx:Int):=by rw [Int.tmod_eq_emod_of_nonneg (by omega)];exact hmod
          have hw2:IntKind.i64.wrap (nx:Int)=(nx:Int):=wrap_ok _ (by omega) (by omega)
          have HK:=hide (And.intro d0 (And.intro d1 (And.intro e0 e1)))
          have HBw:=hide hb
          clear hb hz
          go_wp2_with fail
          go_region_held3 (fun w'=>w'.cell? ⟨q,k*2,none⟩=some (.int .i64 px)∧w'.cell? ⟨q,k*2+1,none⟩=some (.int .i64 py)∧w'.cell? ⟨q,nx*2,none⟩=some (.int .i64 rx)∧w'.cell? ⟨q,nx*2+1,none⟩=some (.int .i64 ry)) (first | exact HK.out | exact HK2) ((go_at_call 179;refine (HC.out _).mono ?_;rintro e w3 ⟨rfl,hb3'⟩;have hb3:Below wr.heap.size wr w3:=⟨hb3'.os,hb3'.tape,hb3'.output,hb3'.size,hb3'.block⟩;have HK2:=keepC hb3 hqw HK.out))
          all_goals
            have HB3:=hide (HBw.out.trans (hb3.mono hsz))
            clear hb3 hb3' HK2
            go_wp2
            go_roundw
            case rel=>exact ⟨k+1,by omega,by go_num,by rw [HSt.out,Int.add_assoc],HB3.out⟩
            case measure=>simp [intOf];omega
        · have e:k=n:=by omega
          have hdk:decide ((k:Int)<(n:Int))=false:=by simp;omega
          have HB:=hide (HBo.out.trans (hb.mono hso))
          clear hb
          go_wp2
          go_roundw
          case rel=>exact ⟨c+1,by omega,by go_num,by rw [HA1.out,HRF.out,e],HB.out⟩
          case measure=>simp [intOf];omega
    · have e:c=N:=by omega
      have hd0:decide ((c:Int)<(N:Int))=false:=by simp;omega
      go_wp2
      go_ret
      exact ⟨ret_int (by rw [HA.out,e]),hbo⟩
theorem lesser_any (a b:Int) (w:World) :
    Calls Tryz.prog 176 #[.int .i64 a,.int .i64 b] w fun e w'=>e=.returned (.int .i64 (Num.lsV a b))∧w'=w:=by
  by_cases h:a<b
  · go_enter Tryz.func176,Tryz.ntmps176
    go_wp2
    go_ret
    exact ⟨ret_int (by unfold Num.lsV;rw [if_pos (by omega)]),rfl⟩
  · go_enter Tryz.func176,Tryz.ntmps176
    go_wp2
    go_ret
    exact ⟨ret_int (by unfold Num.lsV;rw [if_neg (by omega)]),rfl⟩
theorem shareOf_any (x0 y0 x1 y1 t:Int) (w:World) (ht:t=1∨t = -1) (h0:-16384≤x0∧x0≤16384) (h1:-16384≤y0∧y0≤16384) (h2:-16384≤x1∧x1≤16384) (h3:-16384≤y1∧y1≤16384) :
    Calls Tryz.prog 206 #[.agg #[.int .i64 x0,.int .i64 y0],.agg #[.int .i64 x1,.int .i64 y1],.int .i64 t] w fun e w'=>e=.returned (.agg #[.int .i64 (Num.rowV y0 y1),.int .i64 (Num.colV x0 x1),.int .i64 (Num.hereV t x0 y0 x1 y1),.int .i64 (Num.rightV t y0 y1)])∧Below w.heap.size w w':=by
  have g0:=Num.gr0 x0
  have g1:=Num.gr0 x1
  have hm:=Num.ls_or (Num.gr x0 0) (Num.gr x1 0)
  have hr:=Num.ls_or y0 y1
  obtain ⟨M,hM⟩:∃M,M=Num.lsV (Num.gr x0 0) (Num.gr x1 0):=⟨_,rfl⟩
  have hC:Num.colV x0 x1=Num.lsV (Num.gr x0 0) (Num.gr x1 0) / 64:=by
    unfold Num.colV
    rw [Int.tdiv_eq_ediv_of_nonneg (by omega)]
  have hh:-32768≤t*(y1-y0)∧t*(y1-y0)≤32768:=by rcases ht with rfl | rfl <;> omega
  have hp:=Num.mul_bd (t*(y1-y0)) (Num.lsV (Num.gr x0 0) (Num.gr x1 0) / 64*64+64-Num.gr x0 0+(Num.lsV (Num.gr x0 0) (Num.gr x1 0) / 64*64+64)-Num.gr x1 0) 32768 65536 (by omega) (by omega)
  have e1:Num.hereV t x0 y0 x1 y1=t*(y1-y0)*(Num.lsV (Num.gr x0 0) (Num.gr x1 0) / 64*64+64-Num.gr x0 0+(Num.lsV (Num.gr x0 0) (Num.gr x1 0) / 64*64+64)-Num.gr x1 0):=by unfold Num.hereV;rw [hC]
  have e2:Num.rightV t y0 y1=t*(y1-y0)*2*64:=rfl
  have HE:=hide (And.intro hC (And.intro e1 e2))
  clear hC e1 e2 hM
  go_enter Tryz.func206,Tryz.ntmps206
  go_wp2_with (first | (go_at_call 160;refine (greater_any _ _ _).mono ?_;rintro e w' ⟨rfl,rfl⟩) | (go_at_call 176;refine (lesser_any _ _ _).mono ?_;rintro e w' ⟨rfl,rfl⟩))
  refine bodyPost_ret (v:=.agg #[.int .i64 (Num.rowV y0 y1),.int .i64 (Num.colV x0 x1),.int .i64 (Num.hereV t x0 y0 x1 y1),.int .i64 (Num.rightV t y0 y1)]) (by rw [HE.out.1,HE.out.2.1,HE.out.2.2];simp [results,Tryz.results206,go_sem,Num.rowV]) rfl ⟨rfl,?_⟩
  (repeat any_goals first | exact .refl _ _ | assumption | refine .drew ?_ | refine below_drewN ?_ _ | refine .setCell ?_ ?_ _ | refine .alloc ?_ ?_ _ | omega | (simp <;> omega))
def cv7 (W H st tk tw:Int) (ta tr:Value) (q:Nat):Value:=[.int .i64 W,.int .i64 H,.int .i64 st,.int .i64 tk,.int .i64 tw,ta,tr][q]?.getD undef
def sh4 (r c a b:Int) (q:Nat):Value:=[Value.int .i64 r,.int .i64 c,.int .i64 a,.int .i64 b][q]?.getD undef
theorem sh4_row (r c a b:Int) (w:World) (t:TypeId):(w.alloc (.cells #[.int .i64 r,.int .i64 c,.int .i64 a,.int .i64 b] t)).rowIs w.heap.size t 4 (sh4 r c a b):=by
  refine World.rowIs_alloc w #[.int .i64 r,.int .i64 c,.int .i64 a,.int .i64 b] t (sh4 r c a b) (fun i hi=>?_)
  have hi:i<4:=hi
  rcases (show i=0∨i=1∨i=2∨i=3 by omega) with rfl | rfl | rfl | rfl <;> rfl
theorem tabAdd_any (b g W H r c:Nat) (a1 b1 B:Int) (T:Nat→Int) (tt:TypeId) (f:Nat→Value) (w:World) (hW:1≤W∧W≤64) (hH:H≤64) (hr:r<H) (hc:c<W)
    (hR:w.rowIs b tt 7 f) (f4:f 4=.int .i64 W) (f5:f 5=.slice (some ⟨g,0,none⟩) (W*H) (W*H)) (hbg:b≠g) (hT:w.rowIs g 3 (W*H) (fun k=>.int .i64 (T k)))
    (hB:B≤4611686018427387904) (hTB:∀k,k<W*H → -B≤T k∧T k≤B) (ha:-8192≤a1∧a1≤8192) (hb:-8192≤b1∧b1≤8192) :
    Calls Tryz.prog 208 #[.pointer (some ⟨b,4,none⟩),.agg #[.int .i64 r,.int .i64 c,.int .i64 a1,.int .i64 b1]] w fun e w'=>e=.returned (.tuple #[])∧Touch (fun q=>q=g) w w'∧w'.rowIs g 3 (W*H) (fun k=>.int .i64 (Num.tabAdd W r c a1 b1 T k)):=by
  have hrow:=Num.mul_lt_row (W:=W) hr
  rw [Nat.mul_comm H W] at hrow
  have hWH:W*H≤4096:=Nat.mul_le_mul hW.2 hH
  obtain ⟨P,hP⟩:∃P:Nat,P=r*W:=⟨_,rfl⟩
  have hPi:(r:Int)*(W:Int)=(P:Int):=by rw [hP];simp
  rw [←hP] at hrow
  have HTA:Hid (∀k,Num.tabAdd W r c a1 b1 T k=if k=P+c then T k+a1 else if P+c<k∧k<P+W then T k+b1 else T k):=fun k=>by rw [hP];rfl
  obtain ⟨n,hn⟩:∃n,n=W*H:=⟨_,rfl⟩
  rw [←hn] at f5 hT hTB hrow hWH ⊢
  have w1:IntKind.i64.wrap ((r:Int)*(W:Int))=(P:Int):=by rw [hPi];exact wrap_ok _ (by omega) (by omega)
  have w2:IntKind.i64.wrap ((P:Int)+(c:Int))=((P+c:Nat):Int):=by rw [wrap_ok _ (by omega) (by omega)];omega
  have w3:IntKind.i64.wrap ((P:Int)+(W:Int))=((P+W:Nat):Int):=by rw [wrap_ok _ (by omega) (by omega)];omega
  have HS:=hide (sh4_row r c a1 b1 w 247)
  have HR:=hide (hR.alloc (.cells #[.int .i64 (r:Int),.int .i64 (c:Int),.int .i64 a1,.int .i64 b1] 247))
  have HT:=hide (hT.alloc (.cells #[.int .i64 (r:Int),.int .i64 (c:Int),.int .i64 a1,.int .i64 b1] 247))
  have hTo:Hid (Touch (fun q=>q=g) w (w.alloc (.cells #[.int .i64 (r:Int),.int .i64 (c:Int),.int .i64 a1,.int .i64 b1] 247))):=(Touch.refl _ _).alloc _
  have hgs:g<w.heap.size:=hT.lt
  have HTB:=hide hTB
  clear hR hT hP hPi hn hTB
  go_enter Tryz.func208,Tryz.ntmps208
  go_wp2_with fail
  obtain ⟨sb,hsb⟩:∃sb,sb=w.heap.size:=⟨_,rfl⟩
  obtain ⟨W1,hW1⟩:∃W1,W1=w.alloc (.cells #[.int .i64 (r:Int),.int .i64 (c:Int),.int .i64 a1,.int .i64 b1] 247):=⟨_,rfl⟩
  rw [←hsb] at HS
  rw [←hW1] at HS HR HT hTo
  rw [←hW1,←hsb]
  have hgs2:g≠sb:=by omega
  clear hW1 hsb
  have s0:=HS.out.cell (i:=0) (by omega)
  have s1:=HS.out.cell (i:=1) (by omega)
  have k4:=HR.out.cell (i:=4) (by omega)
  rw [f4] at k4
  change W1.cell? ⟨sb,0,none⟩=some (.int .i64 (r:Int)) at s0
  change W1.cell? ⟨sb,1,none⟩=some (.int .i64 (c:Int)) at s1
  go_quiet (fail)
  go_wp2_with fail
  go_quiet (fail)
  go_wp2_with fail
  go_loopw [6] (fun t wr=>∃k:Nat,P+c≤k∧k≤P+W∧t=.int .i64 k∧Touch (fun q=>q=g) W1 wr∧wr.rowIs g 3 n (fun q=>.int .i64 (if q<k then Num.tabAdd W r c a1 b1 T q else T q))) (fun t _=>P+W-(intOf t).toNat)
  case atStart=>
    refine ⟨P+c,by omega,by omega,by first | rfl | go_num,((Touch.refl _ _).drewN _).drewN _,?_⟩
    refine (World.rowIs.of_block HT.out rfl).congr fun q _=>?_
    split
    · rw [HTA.out,if_neg (by omega),if_neg (by omega)]
    · rfl
  case round=>
    obtain ⟨k,hk1,hk2,rfl,hto,hrowg⟩:=hrel
    have hR2:=hto.row HR.out hbg
    have hS2:=hto.row HS.out (fun e=>hgs2 e.symm)
    have k5:=hR2.cell (i:=5) (by omega)
    rw [f5] at k5
    by_cases hlt:k<P+W
    · have kg:=hrowg.cell (i:=k) (by omega)
      rw [if_neg (Nat.lt_irrefl _)] at kg
      have fz:=hrowg.frozen k
      have hd1:decide ((k:Int)<((P+W:Nat):Int))=true:=by simp;omega
      have hd2:decide ((k:Int)<(n:Int))=true:=by simp;omega
      have i0:(0:Int)≤(k:Int):=by omega
      have i1:(k:Int)<(n:Int):=by omega
      have hb1:=HTB.out k (by omega)
      have HG:=hide hrowg
      have HTo:=hide hto
      by_cases he:k=P+c
      · subst he
        have s2:=hS2.cell (i:=2) (by omega)
        change wr.cell? ⟨sb,2,none⟩=some (.int .i64 a1) at s2
        have wa:IntKind.i64.wrap (T (P+c)+a1)=T (P+c)+a1:=wrap_ok _ (by omega) (by omega)
        have HN:Hid ((wr.setCell ⟨g,P+c,none⟩ (.int .i64 (T (P+c)+a1))).rowIs g 3 n (fun q=>.int .i64 (if q<P+c+1 then Num.tabAdd W r c a1 b1 T q else T q))):=by
          refine (HG.out.set (P+c) _).congr fun q _=>?_
          by_cases e:q=P+c
          · subst e
            rw [if_pos rfl,if_pos (by omega),HTA.out,if_pos rfl]
          · rw [if_neg e]
            by_cases d:q<P+c
            · rw [if_pos d,if_pos (by omega)]
            · rw [if_neg d,if_neg (by omega)]
        clear hR2 hS2 hrowg hto
        go_wp2_with fail
        go_region
        all_goals go_wp2
        all_goals go_roundw
        case rel=>exact ⟨P+c+1,by omega,by omega,by go_num,(HTo.out.drew).setCell (.inl rfl) _,HN.out⟩
        case measure=>simp [intOf];omega
      · have s3:=hS2.cell (i:=3) (by omega)
        change wr.cell? ⟨sb,3,none⟩=some (.int .i64 b1) at s3
        have wa:IntKind.i64.wrap (T k+b1)=T k+b1:=wrap_ok _ (by omega) (by omega)
        have hde:decide ((k:Int)=((P+c:Nat):Int))=false:=by simp;omega
        have HN:Hid ((wr.setCell ⟨g,k,none⟩ (.int .i64 (T k+b1))).rowIs g 3 n (fun q=>.int .i64 (if q<k+1 then Num.tabAdd W r c a1 b1 T q else T q))):=by
          refine (HG.out.set k _).congr fun q _=>?_
          by_cases e:q=k
          · subst e
            rw [if_pos rfl,if_pos (by omega),HTA.out,if_neg (by omega),if_pos (by omega)]
          · rw [if_neg e]
            by_cases d:q<k
            · rw [if_pos d,if_pos (by omega)]
            · rw [if_neg d,if_neg (by omega)]
        clear hR2 hS2 hrowg hto
        go_wp2_with fail
        go_region
        all_goals go_wp2
        all_goals go_roundw
        case rel=>exact ⟨k+1,by omega,by omega,by go_num,(HTo.out.drew).setCell (.inl rfl) _,HN.out⟩
        case measure=>simp [intOf];omega
    · have hd1:decide ((k:Int)<((P+W:Nat):Int))=false:=by simp;omega
      have HG:=hide hrowg
      have HTo:=hide (hTo.out.trans hto)
      clear hR2 hS2 hrowg hto
      go_wp2
      go_end0
      exact ⟨rfl,HTo.out,HG.out.congr fun q hq=>by
        by_cases d:q<k
        · rw [if_pos d]
        · rw [if_neg d,HTA.out,if_neg (by omega),if_neg (by omega)]⟩
theorem tabArea_any (b g W H i j:Nat) (T:Nat→Int) (tt:TypeId) (f:Nat→Value) (w:World) (hW:1≤W∧W≤64) (hH:H≤64) (hj:j<H) (hi:i<W)
    (hR:w.rowIs b tt 7 f) (f4:f 4=.int .i64 W) (f5:f 5=.slice (some ⟨g,0,none⟩) (W*H) (W*H)) (hT:w.rowIs g 3 (W*H) (fun k=>.int .i64 (T k))) :
    Calls Tryz.prog 188 #[.pointer (some ⟨b,4,none⟩),.int .i64 i,.int .i64 j] w fun e w'=>e=.returned (.int .i64 (T (j*W+i)))∧w'=w:=by
  have hrow:=Num.idx_in (W:=W) (H:=H) hi hj
  have hWH:W*H≤4096:=Nat.mul_le_mul hW.2 hH
  obtain ⟨P,hP⟩:∃P:Nat,P=j*W:=⟨_,rfl⟩
  have hPi:(j:Int)*(W:Int)=(P:Int):=by rw [hP];simp
  rw [←hP] at hrow ⊢
  obtain ⟨n,hn⟩:∃n,n=W*H:=⟨_,rfl⟩
  rw [←hn] at f5 hT hrow hWH
  have k4:=hR.cell (i:=4) (by omega)
  rw [f4] at k4
  have k5:=hR.cell (i:=5) (by omega)
  rw [f5] at k5
  have kg:=hT.cell (i:=P+i) (by omega)
  have i0:(0:Int)≤(P:Int)+(i:Int):=by omega
  have i1:(P:Int)+(i:Int)<(n:Int):=by omega
  have hd:decide ((n:Int)≤(P:Int)+(i:Int))=false:=by simp;omega
  have hd0:decide ((P:Int)+(i:Int)<0)=false:=by simp;omega
  clear hR hT hP hn
  go_enter Tryz.func188,Tryz.ntmps188
  go_wp2_with fail
  all_goals
    go_ret
    exact ⟨rfl,rfl⟩
end Go.Proofs.YtkhcjkmifddlbabGreatDoor
