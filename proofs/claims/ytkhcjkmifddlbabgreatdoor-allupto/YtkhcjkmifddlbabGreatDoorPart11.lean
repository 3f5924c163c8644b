import Derived.Test.YtkhcjkmifddlbabGreatDoorPart8
import Derived.Test.YtkhcjkmifddlbabGreatDoorPart4
import Derived.Test.YtkhcjkmifddlbabGreatDoorPart10
set_option maxHeartbeats 8000000
namespace Go.Proofs.YtkhcjkmifddlbabGreatDoor
open Go.RowKit Go.Deep
theorem set_otherR {w2:World} {h q:Nat} {v:Value} {b:Nat} (hb:b≠h):(w2.setCell ⟨h,q,none⟩ v).heap[b]? = w2.heap[b]?:=blk_setCell_other _ _ _ _ (by simpa using hb)
def P15 (w':World) (g2 j mb:Nat) (S:Num.Sg) (a b c d x y:Int):Prop:=w'.cell? ⟨g2,j*9,none⟩=some (.int .i64 S.k)∧w'.cell? ⟨g2,j*9+1,none⟩=some (.int .i64 S.x0)∧w'.cell? ⟨g2,j*9+2,none⟩=some (.int .i64 S.y0)∧w'.cell? ⟨g2,j*9+3,none⟩=some (.int .i64 S.x1)∧w'.cell? ⟨g2,j*9+4,none⟩=some (.int .i64 S.y1)∧w'.cell? ⟨g2,j*9+5,none⟩=some (.int .i64 S.x2)∧w'.cell? ⟨g2,j*9+6,none⟩=some (.int .i64 S.y2)∧w'.cell? ⟨g2,j*9+7,none⟩=some (.int .i64 S.x3)∧w'.cell? ⟨g2,j*9+8,none⟩=some (.int .i64 S.y3)∧w'.cell? ⟨mb,0,none⟩=some (.int .i64 a)∧w'.cell? ⟨mb,1,none⟩=some (.int .i64 b)∧w'.cell? ⟨mb,2,none⟩=some (.int .i64 c)∧w'.cell? ⟨mb,3,none⟩=some (.int .i64 d)∧w'.cell? ⟨mb,4,none⟩=some (.int .i64 x)∧w'.cell? ⟨mb,5,none⟩=some (.int .i64 y)
theorem P15.below {w w':World} {g2 j mb:Nat} {S:Num.Sg} {a b c d x y:Int} (h:P15 w g2 j mb S a b c d x y) (hb:Below w.heap.size w w') (h1:g2<w.heap.size) (h2:mb<w.heap.size):P15 w' g2 j mb S a b c d x y:=by
  obtain ⟨c0,c1,c2,c3,c4,c5,c6,c7,c8,d0,d1,d2,d3,d4,d5⟩:=h
  have e1:∀o v,w.cell? ⟨g2,o,none⟩=some v→w'.cell? ⟨g2,o,none⟩=some v:=fun o v h=>(hb.cell (p:=⟨g2,o,none⟩) h1).trans h
  have e2:∀o v,w.cell? ⟨mb,o,none⟩=some v→w'.cell? ⟨mb,o,none⟩=some v:=fun o v h=>(hb.cell (p:=⟨mb,o,none⟩) h2).trans h
  exact ⟨e1 _ _ c0,e1 _ _ c1,e1 _ _ c2,e1 _ _ c3,e1 _ _ c4,e1 _ _ c5,e1 _ _ c6,e1 _ _ c7,e1 _ _ c8,e2 _ _ d0,e2 _ _ d1,e2 _ _ d2,e2 _ _ d3,e2 _ _ d4,e2 _ _ d5⟩
theorem P15.of_blocks {w w':World} {g2 j mb X:Nat} {S:Num.Sg} {a b c d x y:Int} (h:P15 w g2 j mb S a b c d x y) (e:∀p,p≠X→w'.heap[p]? = w.heap[p]?) (h1:g2≠X) (h2:mb≠X):P15 w' g2 j mb S a b c d x y:=by
  have c1:∀p o v,p≠X→w.cell? ⟨p,o,none⟩=some v→w'.cell? ⟨p,o,none⟩=some v:=fun p o v hp h=>by
    rw [←h]
    unfold World.cell?
    rw [e p hp]
  obtain ⟨c0,c1',c2,c3,c4,c5,c6,c7,c8,d0,d1,d2,d3,d4,d5⟩:=h
  exact ⟨c1 _ _ _ h1 c0,c1 _ _ _ h1 c1',c1 _ _ _ h1 c2,c1 _ _ _ h1 c3,c1 _ _ _ h1 c4,c1 _ _ _ h1 c5,c1 _ _ _ h1 c6,c1 _ _ _ h1 c7,c1 _ _ _ h1 c8,c1 _ _ _ h2 d0,c1 _ _ _ h2 d1,c1 _ _ _ h2 d2,c1 _ _ _ h2 d3,c1 _ _ _ h2 d4,c1 _ _ _ h2 d5⟩
theorem drew_blk (w:World) (p:Nat):w.drew.heap[p]? = w.heap[p]?:=rfl
theorem P15.set9 {w:World} {g2 j mb X:Nat} {S:Num.Sg} {a b c d x y:Int} {u0 u1 u2 u3 u4 u5 u6 u7 u8:Value} (h:P15 w g2 j mb S a b c d x y) (h1:g2≠X) (h2:mb≠X):P15 (((((((((w.setCell ⟨X,0,none⟩ u0).setCell ⟨X,1,none⟩ u1).setCell ⟨X,2,none⟩ u2).setCell ⟨X,3,none⟩ u3).setCell ⟨X,4,none⟩ u4).setCell ⟨X,5,none⟩ u5).setCell ⟨X,6,none⟩ u6).setCell ⟨X,7,none⟩ u7).setCell ⟨X,8,none⟩ u8).drew g2 j mb S a b c d x y:=
  h.of_blocks (X:=X) (fun p hp=>by rw [drew_blk,set_otherR hp,set_otherR hp,set_otherR hp,set_otherR hp,set_otherR hp,set_otherR hp,set_otherR hp,set_otherR hp,set_otherR hp]) h1 h2
theorem cD (w:World) (p:Addr):w.drew.cell? p=w.cell? p:=rfl
theorem cA {w:World} {b:Nat} (h:b<w.heap.size) (o':Obj) (o:Nat):(w.alloc o').cell? ⟨b,o,none⟩=w.cell? ⟨b,o,none⟩:=by
  have e:Below w.heap.size w (w.alloc o'):=(Below.refl _ _).alloc (Nat.le_refl _) _
  exact e.cell (p:=⟨b,o,none⟩) h
theorem cS {b X:Nat} (h:b≠X) (w:World) (q:Nat) (u:Value) (o:Nat):(w.setCell ⟨X,q,none⟩ u).cell? ⟨b,o,none⟩=w.cell? ⟨b,o,none⟩:=by
  unfold World.cell?
  rw [show (w.setCell ⟨X,q,none⟩ u).heap[b]? = w.heap[b]? from set_otherR h]
set_option maxRecDepth 100000 in
theorem refTrace_any (ad:Option Addr) (N cc:Nat) (A:Nat→Option Addr) (C n:Nat→Nat) (X Y K:Nat→Nat→Int) (a b c d x y:Int) (w:World) (hN:N≤4294967296) (hn:∀i,i<N→n i≤4294967296) (hS:Num.sumN n N≤1099511627776) (ho:OutAt w ad N A C n X Y K) :
    Calls Tryz.prog 39 #[.slice ad N cc,.agg #[.int .i64 a,.int .i64 b,.int .i64 c,.int .i64 d,.int .i64 x,.int .i64 y]] w fun e w'=>∃v V,e=.returned (.tuple #[v,.int .i64 (traceE N n X Y K ⟨a,b,c,d,x,y⟩)])∧Below w.heap.size w w'∧SpRings w' w.heap.size v (traceN N n X Y K ⟨a,b,c,d,x,y⟩) V (traceL n X Y K ⟨a,b,c,d,x,y⟩):=by
  obtain ⟨M,hM⟩:∃M:Num.Mp,M=⟨a,b,c,d,x,y⟩:=⟨_,rfl⟩
  rw [←hM]
  have hFM:Num.fairB M.a M.b M.c M.d M.x M.y=Num.fairB a b c d x y:=by rw [hM]
  have HPl:=hide (fun (g:Num.Sg) (w:World)=>put_any g.k g.x0 g.y0 g.x1 g.y1 g.x2 g.y2 g.x3 g.y3 a b c d x y w)
  rw [←hM] at HPl
  have hcs:=Num.chk_cases N n X Y K
  obtain ⟨TE,hTE⟩:∃TE,TE=traceE N n X Y K M:=⟨_,rfl⟩
  obtain ⟨TN,hTN⟩:∃TN,TN=traceN N n X Y K M:=⟨_,rfl⟩
  have hTN2:TN=if TE=0 then N else 0:=by rw [hTN,hTE];rfl
  rw [←hTE,←hTN]
  unfold traceE at hTE
  rw [hFM] at hTE
  obtain ⟨V0,hV⟩:∃V,V=Num.chkV N n X Y K:=⟨_,rfl⟩
  rw [←hV] at hcs hTE
  have HV:=hide hV
  have HO:=hide (ho.below ((Below.refl w.heap.size w).alloc (Nat.le_refl _) (.cells #[.int .i64 a,.int .i64 b,.int .i64 c,.int .i64 d,.int .i64 x,.int .i64 y] 40)))
  have HN:=hide hn
  have HMr:=hide (mp6_row a b c d x y w 40)
  clear hV hTN ho hn hM hFM
  rcases hcs with ⟨h0,hm,hsh,hfa⟩ | h0
  · rw [if_pos h0] at hTE
    obtain ⟨m16,m200,mn⟩:=ok_many hm
    have HSH:=hide hsh
    have HFA:=hide hfa
    have HMN:=hide mn
    clear hsh hfa mn hm
    obtain ⟨v0,v1,v2⟩:=V0
    have h0:v0=0:=h0
    subst h0
    cases hF:Num.fairB a b c d x y
    · rw [if_pos hF] at hTE
      subst hTE
      have hTN3:TN=0:=by rw [hTN2];rfl
      subst hTN3
      clear hTN2
      go_enter Tryz.func39,Tryz.ntmps39
      go_wp2_with fail
      refine (refCheck_any _ _ _ A C n X Y K _ hN HN.out hS HO.out).mono ?_
      rw [←HV.out]
      rintro e w1 ⟨rfl,hb1⟩
      have hMr1:=row_below HMr.out hb1 HMr.out.lt
      obtain ⟨d0,d1,d2,d3,d4,d5⟩:=mp6_cells hMr1
      have hz1:=hMr1.lt
      have HB1:Hid (Below w.heap.size w w1):=Below.trans (by (repeat any_goals first | exact .refl _ _ | assumption | refine .drew ?_ | refine below_drewN ?_ _ | refine .setCell ?_ ?_ _ | refine .alloc ?_ ?_ _ | omega | (simp <;> omega))) (hb1.mono (by simp))
      clear hb1 hMr1
      go_wp2_with fail
      refine (refFair_any _ _ _ _ _ _ _).mono ?_
      rw [hF]
      rintro e w2 ⟨rfl,hb2⟩
      have HB2:=hide (HB1.out.trans (hb2.mono (by omega)))
      clear hb2 d0 d1 d2 d3 d4 d5 hF
      go_wp2
      go_ret2
      exact ⟨_,fun _=>.slice none 0 0,rfl,HB2.out,SpRings.nil _ _ _ _⟩
    · rw [if_neg (by rw [hF];decide)] at hTE
      have HNo:Hid (traceOk N n X Y K M=false→TE=6∧TN=0):=fun h=>by
        rw [if_pos h] at hTE;rw [hTN2,hTE];exact ⟨rfl,rfl⟩
      have HYe:Hid (traceOk N n X Y K M=true→TE=0∧TN=N):=fun h=>by
        rw [if_neg (by rw [h];decide)] at hTE;rw [hTN2,hTE];exact ⟨rfl,rfl⟩
      obtain ⟨i0,hi0,hz0,hz1,hz2⟩:=info_parts info_sps
      obtain ⟨j0,hj0,hy0,hy1,hy2⟩:=info_parts info_spot
      clear hTE hTN2
      go_enter Tryz.func39,Tryz.ntmps39
      go_wp2_with fail
      refine (refCheck_any _ _ _ A C n X Y K _ hN HN.out hS HO.out).mono ?_
      rw [←HV.out]
      rintro e w1 ⟨rfl,hb1⟩
      have hMr1:=row_below HMr.out hb1 HMr.out.lt
      obtain ⟨d0,d1,d2,d3,d4,d5⟩:=mp6_cells hMr1
      have hz1':=hMr1.lt
      have HMr1:=hide hMr1
      have HB1:Hid (Below w.heap.size w w1):=Below.trans (by (repeat any_goals first | exact .refl _ _ | assumption | refine .drew ?_ | refine below_drewN ?_ _ | refine .setCell ?_ ?_ _ | refine .alloc ?_ ?_ _ | omega | (simp <;> omega))) (hb1.mono (by simp))
      have HO1:=hide (HO.out.below hb1)
      clear hb1 hMr1
      go_wp2_with fail
      refine (refFair_any _ _ _ _ _ _ _).mono ?_
      rw [hF]
      rintro e w2 ⟨rfl,hb2⟩
      have hs2:=hb2.size
      have HB2:=hide (HB1.out.trans (hb2.mono (by omega)))
      have HO2:=hide (HO1.out.below hb2)
      have HMr2:=hide (row_below HMr1.out hb2 hz1')
      have hz2':=HMr2.out.lt
      clear hb2 d0 d1 d2 d3 d4 d5 hF
      go_wp2_with fail
      go_loopw [10,11] (fun v t wr=>∃(k:Nat) (V:Nat→Value),k≤N∧t=.int .i64 k∧Below w2.heap.size w2 wr∧(∀i,i<k→Num.ringOk M (ringL n X Y K i)=true)∧SpRings wr w2.heap.size v k V (traceL n X Y K M)) (fun _ t _=>N-(intOf t).toNat)
      case atStart=>exact ⟨0,fun _=>.slice none 0 0,by omega,rfl,Below.refl _ _,fun i hi=>by omega,SpRings.nil _ _ _ _⟩
      case round=>
        obtain ⟨vout,rfl⟩:∃v,v=u10:=⟨_,rfl⟩
        obtain ⟨wo,rfl⟩:∃wo,wo=wr:=⟨wr,rfl⟩
        obtain ⟨k,V,hk,rfl,hb,hok,hSR⟩:=hrel
        have hsz:=hb.size
        by_cases hlt:k<N
        · have hdk:decide ((k:Int)<(N:Int))=true:=by simp;omega
          have HOo:=hide (HO2.out.below hb)
          rcases HOo.out.1 with h | ⟨bo,off,rfl,hc⟩
          · omega
          have ci:=hc k hlt
          clear hc
          obtain ⟨s2,sb⟩:=ok_shape (HSH.out k hlt)
          obtain ⟨fX,fY⟩:=ok_far (HFA.out k hlt)
          have hnk:=HMN.out k hlt
          have hrl:(ringL n X Y K k).length≤4000:=by have:=refRing_len (X k) (Y k) (K k) (n k);unfold ringL;omega
          have HKd:=hide (ringL_kd (X:=X) (Y:=Y) s2 sb)
          have HC:=hide (refRing_any (A k) (n k) (C k) (X k) (Y k) (K k) wo (by omega) (by omega) fX fY (HOo.out.2 k hlt))
          have HSR:=hide hSR
          have HOk:=hide hok
          have HB:=hide hb
          have hk0:(0:Int)≤(k:Int):=by omega
          have hk1:(k:Int)<(N:Int):=by omega
          clear sb fX fY hSR hok hb
          go_wp2_with fail
          refine HC.out.mono ?_
          rintro e w3 ⟨vl,rfl,hb3,hownL⟩
          have hs3:=hb3.size
          have HB3:=hide (HB.out.trans (hb3.mono hsz))
          have HSR3:=hide (HSR.out.below hb3)
          have HMr3:=hide (row_below HMr2.out HB3.out hz2')
          have hz3':=HMr3.out.lt
          obtain ⟨L,hL⟩:∃L,L=ringL n X Y K k:=⟨_,rfl⟩
          have hownL2:w3.ownsRow wo.heap.size 44 9 vl L.length (L.flatMap sgC):=by rw [hL];exact hownL
          rw [←hL] at hrl HKd
          have HLe:=hide hL
          have HOkN:Hid (Num.ringOk M L=false→TE=6∧TN=0):=fun h=>HNo.out (traceOk_no hlt (by rw [←hL];exact h))
          obtain ⟨al,cl,rfl,hal⟩:=owns_formN hownL2
          have HOL:=hide hownL2
          have HAl:=hide hal
          have hbl:∀g2,al=some ⟨g2,0,none⟩→g2<w3.heap.size:=fun g2 e=>(hownL2.lt g2 (by rw [e];rfl)).2
          have HBl:=hide hbl
          obtain ⟨nl,hnl⟩:∃nl,nl=L.length:=⟨_,rfl⟩
          rw [←hnl] at hrl ⊢
          have HNl:=hide hnl
          clear hb3 hownL ci hL hal hownL2 hbl hnl HC
          go_wp2_with fail
          go_loopw [12,14] (fun v t wr=>∃j:Nat,j≤nl∧t=.int .i64 j∧Below w3.heap.size w3 wr∧(∀i (hi:i<L.length),i<j→Num.putOk M L[i]=true)∧wr.ownsRow w3.heap.size 42 2 v (Num.ringSp M (L.take j)).length ((Num.ringSp M (L.take j)).flatMap spC)) (fun _ t _=>nl-(intOf t).toNat)
          case atStart=>exact ⟨0,by omega,rfl,Below.refl _ _,fun i hi h=>by omega,by simpa [Num.ringSp] using World.ownsRow_nil _ _ _ _⟩
          case round=>
            obtain ⟨vo,rfl⟩:∃vo,vo=u12:=⟨_,rfl⟩
            obtain ⟨wp,rfl⟩:∃wp,wp=wr:=⟨wr,rfl⟩
            obtain ⟨j,hj,rfl,hB,hokj,hown⟩:=hrel
            have hsB:=hB.size
            by_cases hltj:j<nl
            · have hdj:decide ((j:Int)<(nl:Int))=true:=by simp;omega
              have hjl:j<L.length:=by rw [←HNl.out];exact hltj
              obtain ⟨g2,rfl⟩:=HAl.out (by rw [←HNl.out];omega)
              have hg2:=HBl.out g2 rfl
              have hO2:=owns_of_block (w':=wp) HOL.out (fun q hq=>by simp [Value.ownBlock] at hq;subst hq;exact hB.block _ hg2)
              obtain ⟨c0,c1,c2,c3,c4,c5,c6,c7,c8⟩:=owns_seg9 hO2 j hjl
              have HSu:=hide (ringSp_take (m:=M) hjl)
              have HKj:=hide (HKd.out _ (List.getElem_mem hjl))
              have HOkN2:=hide (fun h=>HOkN.out (Num.ringOk_no (m:=M) hjl h))
              have hlen:=Num.ringSp_le M (L.take j)
              have hlt2:(L.take j).length≤4000:=by rw [List.length_take];omega
              have HStep:Hid (Num.putOk M L[j]=true→∀i (hi:i<L.length),i<j+1→Num.putOk M L[i]=true):=fun h i hi hij=>by
                rcases (show i<j∨i=j by omega) with h1 | h1
                · exact hokj i hi h1
                · subst h1;exact h
              obtain ⟨S,hS9⟩:∃S,S=L[j]:=⟨_,rfl⟩
              rw [←hS9] at c0 c1 c2 c3 c4 c5 c6 c7 c8 HSu HKj HOkN2 HStep
              have hMrp:=row_below HMr3.out hB hz3'
              obtain ⟨d0,d1,d2,d3,d4,d5⟩:=mp6_cells hMrp
              have hMl:=hMrp.lt
              have hg2w:g2<wp.heap.size:=by omega
              have HCall:=hide (HPl.out S)
              obtain ⟨PG,hPG⟩:∃PG,PG=Num.putG M S:=⟨_,rfl⟩
              obtain ⟨PE,hPE⟩:∃PE,PE=Num.putE M S:=⟨_,rfl⟩
              rw [←hPG,←hPE] at HCall
              have HPG:=hide hPG
              have HPE:=hide hPE
              have HOw:=hide hown
              have HBp:=hide hB
              have ij0:(0:Int)≤(j:Int):=by omega
              have ij1:(j:Int)<(nl:Int):=by omega
              have hP15:P15 wp g2 j w.heap.size S a b c d x y:=⟨c0,c1,c2,c3,c4,c5,c6,c7,c8,d0,d1,d2,d3,d4,d5⟩
              have HP15:=hide hP15
              have hn1:g2≠wp.heap.size:=Nat.ne_of_lt hg2w
              have hn2:w.heap.size≠wp.heap.size:=Nat.ne_of_lt hMl
              clear hO2 hS9 hMrp hPG hPE hokj hown hB hP15
              go_wp2_with fail
              go_region_held3 (fun w'=>w'.cell? ⟨g2,j*9,none⟩=some (.int .i64 S.k)∧w'.cell? ⟨g2,j*9+1,none⟩=some (.int .i64 S.x0)∧w'.cell? ⟨g2,j*9+2,none⟩=some (.int .i64 S.y0)∧w'.cell? ⟨g2,j*9+3,none⟩=some (.int .i64 S.x1)∧w'.cell? ⟨g2,j*9+4,none⟩=some (.int .i64 S.y1)∧w'.cell? ⟨g2,j*9+5,none⟩=some (.int .i64 S.x2)∧w'.cell? ⟨g2,j*9+6,none⟩=some (.int .i64 S.y2)∧w'.cell? ⟨g2,j*9+7,none⟩=some (.int .i64 S.x3)∧w'.cell? ⟨g2,j*9+8,none⟩=some (.int .i64 S.y3) ∧
                  w'.cell? ⟨w.heap.size,0,none⟩=some (.int .i64 a)∧w'.cell? ⟨w.heap.size,1,none⟩=some (.int .i64 b)∧w'.cell? ⟨w.heap.size,2,none⟩=some (.int .i64 c)∧w'.cell? ⟨w.heap.size,3,none⟩=some (.int .i64 d)∧w'.cell? ⟨w.heap.size,4,none⟩=some (.int .i64 x)∧w'.cell? ⟨w.heap.size,5,none⟩=some (.int .i64 y)) (first | (simp only [cD,cA hg2w,cA hMl,c0,c1,c2,c3,c4,c5,c6,c7,c8,d0,d1,d2,d3,d4,d5,and_self];done) | (simp only [cS hn1,cS hn2,cA kg,cA km,k0,k1,k2,k3,k4,k5,k6,k7,k8,m0,m1,m2,m3,m4,m5,and_self];done)) (first | (go_at_call 83;refine (HCall.out _).mono ?_;rintro e w5 ⟨rfl,hb5'⟩;have hb5:Below wp.heap.size wp w5:=⟨hb5'.os,hb5'.tape,hb5'.output,hb5'.size,hb5'.block⟩;have hs5:=hb5.size;have kg:g2<w5.heap.size:=Nat.lt_of_lt_of_le hg2w hs5;have km:w.heap.size<w5.heap.size:=Nat.lt_of_lt_of_le hMl hs5;have kk:=HP15.out.below hb5 hg2w hMl;obtain ⟨k0,k1,k2,k3,k4,k5,k6,k7,k8,m0,m1,m2,m3,m4,m5⟩:=kk) | (go_at_call 83;refine (HCall.out _).mono ?_;rintro e w5 ⟨rfl,hb5'⟩;have hb6:Below (wp.alloc (.cells #[.int .i64 0,.int .i64 0,.int .i64 0,.int .i64 0,.int .i64 0,.int .i64 0,.int .i64 0,.int .i64 0,.int .i64 0] 44)).heap.size (wp.alloc (.cells #[.int .i64 0,.int .i64 0,.int .i64 0,.int .i64 0,.int .i64 0,.int .i64 0,.int .i64 0,.int .i64 0,.int .i64 0] 44)) w5:=⟨hb5'.os,hb5'.tape,hb5'.output,hb5'.size,hb5'.block⟩;have hb5:Below wp.heap.size wp w5:=((Below.refl _ _).alloc (Nat.le_refl _) _).trans (hb6.mono (by rw [nblk_alloc];exact Nat.le_succ _));have hs5:=hb5.size;have kg:g2<w5.heap.size:=Nat.lt_of_lt_of_le hg2w hs5;have km:w.heap.size<w5.heap.size:=Nat.lt_of_lt_of_le hMl hs5;have kk:=HP15.out.below hb5 hg2w hMl;obtain ⟨k0,k1,k2,k3,k4,k5,k6,k7,k8,m0,m1,m2,m3,m4,m5⟩:=kk;have kz:=row_below (sg9_row 0 0 0 0 0 0 0 0 0 wp 44) hb6 (by rw [nblk_alloc];exact Nat.lt_succ_self _);have kzl:=kz.lt;obtain ⟨r0,r1,r2,r3,r4,r5,r6,r7,r8⟩:=sg9_cells kz;obtain ⟨z0,z1,z2,z3,z4,z5,z6,z7,z8⟩:=zero_frozen kz))
              · obtain ⟨wG,hwG⟩:∃wG,wG=w5.alloc (.cells #[.int .i64 PG.k,.int .i64 PG.x0,.int .i64 PG.y0,.int .i64 PG.x1,.int .i64 PG.y1,.int .i64 PG.x2,.int .i64 PG.y2,.int .i64 PG.x3,.int .i64 PG.y3] 44):=⟨_,rfl⟩
                rw [←hwG]
                have hRG:wG.rowIs w5.heap.size 44 9 (sg9 PG.k PG.x0 PG.y0 PG.x1 PG.y1 PG.x2 PG.y2 PG.x3 PG.y3):=by rw [hwG];exact sg9_row _ _ _ _ _ _ _ _ _ _ _
                have hBG:Below wp.heap.size wp wG:=by rw [hwG];exact hb5.alloc hs5 _
                obtain ⟨gB,hgB⟩:∃gB,gB=w5.heap.size:=⟨_,rfl⟩
                rw [←hgB] at hRG ⊢
                have hgB1:wp.heap.size≤gB:=by omega
                clear hgB hwG hb5 hb5' kg km k0 k1 k2 k3 k4 k5 k6 k7 k8 m0 m1 m2 m3 m4 m5
                have hgB2:=hRG.lt
                have hsG:=hBG.size
                have hown1:=owns_of_block HOw.out (fun q hq=>hBG.block q (HOw.out.lt q hq).2)
                have hB1:Below w3.heap.size w3 wG:=HBp.out.trans (hBG.mono (by omega))
                have HBf:=hide (HB2.out.trans ((HB3.out.trans (hB1.mono (by omega))).mono (by omega)))
                obtain ⟨e0,e1,e2,e3,e4,e5,e6,e7,e8⟩:=sg9_cells hRG
                clear hRG hBG hn1 hn2 c0 c1 c2 c3 c4 c5 c6 c7 c8 d0 d1 d2 d3 d4 d5
                cases hput:Num.putOk M S
                · have hPE6:PE=6:=by rw [HPE.out];unfold Num.putE;rw [hput];rfl
                  subst hPE6
                  obtain ⟨rfl,rfl⟩:=HOkN2.out hput
                  clear hput HNo HYe HOkN HOkN2 e0 e1 e2 e3 e4 e5 e6 e7 e8
                  go_wp2
                  go_ret2
                  exact ⟨_,fun _=>.slice none 0 0,rfl,HBf.out,SpRings.nil _ _ _ _⟩
                · have hPE0:PE=0:=by rw [HPE.out];unfold Num.putE;rw [hput];rfl
                  have hPGv:PG=Num.putV M S:=by rw [HPG.out];unfold Num.putG;rw [hput];rfl
                  have hcE:=Num.put_curve hput HKj.out
                  have hcl:=Num.curveL_le (Num.putV M S)
                  have hcp:=Num.curveL_pos hcE
                  have HSg:Hid (Num.segSp M S=(Num.curveL PG).dropLast):=by unfold Hid Num.segSp;rw [hPGv]
                  rw [←hPGv] at hcE hcl hcp
                  have HCv:=hide (fun w=>refCurve_any PG.k PG.x0 PG.y0 PG.x1 PG.y1 PG.x2 PG.y2 PG.x3 PG.y3 w)
                  have HSt2:=hide (HStep.out hput)
                  rw [hcE] at HCv
                  obtain ⟨CL,hCL⟩:∃CL,CL=Num.curveL PG:=⟨_,rfl⟩
                  rw [←hCL] at HCv HSg hcl hcp
                  subst hPE0
                  clear hput hPGv hcE hCL HStep HOkN2
                  go_wp2_with fail
                  refine (HCv.out _).mono ?_
                  rintro e w6 ⟨vC,rfl,hb6,hownC⟩
                  have hs6:=hb6.size
                  have hown2:=owns_of_block hown1 (fun q hq=>hb6.block q (hown1.lt q hq).2)
                  have hBB2:Below w3.heap.size w3 w6:=hB1.trans (hb6.mono (by omega))
                  obtain ⟨gC,capC,rfl,hgC1,hgC2⟩:=hownC.form hcp
                  have hvlt:∀q,vo.ownBlock=some q→q<wG.heap.size:=fun q hq=>(hown1.lt q hq).2
                  have HOC:=hide hownC
                  have HVl:=hide hvlt
                  obtain ⟨RP,hRP⟩:∃RP,RP=Num.ringSp M (L.take j):=⟨_,rfl⟩
                  rw [←hRP] at hown2 HSu hlen
                  rw [HSg.out] at HSu
                  obtain ⟨mC,hmC⟩:∃mC,mC=CL.length:=⟨_,rfl⟩
                  rw [←hmC] at hcl hcp ⊢
                  have HMC:=hide hmC
                  have HO2':=hide hown2
                  have HBB2:=hide hBB2
                  clear hb6 hownC hvlt hRP hmC hown1 hB1 hown2 hBB2 e0 e1 e2 e3 e4 e5 e6 e7 e8
                  go_wp2_with fail
                  go_loopw [12,19] (fun v t wr=>∃i:Nat,i+1≤mC∧t=.int .i64 i∧Touch (fun q=>vo.ownBlock=some q) w6 wr∧Below w3.heap.size w3 wr∧(v.ownBlock=vo.ownBlock∨∃q,v.ownBlock=some q∧w6.heap.size≤q)∧wr.ownsRow w3.heap.size 42 2 v (RP++CL.dropLast.take i).length ((RP++CL.dropLast.take i).flatMap spC)) (fun _ t _=>mC-(intOf t).toNat)
                  case atStart=>exact ⟨0,by omega,rfl,Touch.refl _ _,HBB2.out,.inl rfl,by simpa using HO2'.out⟩
                  case round=>
                    obtain ⟨v,rfl⟩:∃v,v=u12:=⟨_,rfl⟩
                    obtain ⟨i,hi,rfl,hT,hBi,hvb,hown⟩:=hrel
                    have hsi:=hT.size
                    by_cases hlti:i+1<mC
                    · have hil:i<CL.length:=by rw [←HMC.out];omega
                      have hneC:¬vo.ownBlock=some gC:=fun e=>by have:=HVl.out _ e;omega
                      have hblkC:wr.heap[gC]? = w6.heap[gC]?:=hT.block gC hgC2 hneC
                      have hOC:=owns_of_block (w':=wr) HOC.out (fun q hq=>by simp [Value.ownBlock] at hq;subst hq;exact hblkC)
                      obtain ⟨p0,p1⟩:=owns_sp hOC i hil
                      have htk:=(Num.dropLast_take_succ CL i).1 (by rw [←HMC.out];exact hlti) hil
                      have hlenI:(RP++CL.dropLast.take i).length≤111*4000+112:=by rw [List.length_append,List.length_take];omega
                      have hgCw:gC<wr.heap.size:=by omega
                      have hdi:decide ((i:Int)<(mC:Int)-1)=true:=by simp;omega
                      have ia0:(0:Int)≤(i:Int):=by omega
                      have ia1:(i:Int)<(mC:Int):=by omega
                      have HT:=hide hT
                      have HVb:=hide hvb
                      have HBi:=hide hBi
                      obtain ⟨z,hz⟩:∃z,z=CL[i]:=⟨_,rfl⟩
                      rw [←hz] at p0 p1 htk
                      obtain ⟨zx,zy⟩:=z
                      simp only at p0 p1
                      have HTk2:Hid (RP++CL.dropLast.take (i+1)=(RP++CL.dropLast.take i)++[(zx,zy)]):=by unfold Hid;rw [htk,List.append_assoc]
                      obtain ⟨xs2,hxs⟩:∃xs2,xs2=(RP++CL.dropLast.take i).flatMap spC:=⟨_,rfl⟩
                      obtain ⟨ln,hln⟩:∃ln,ln=(RP++CL.dropLast.take i).length:=⟨_,rfl⟩
                      rw [←hxs,←hln] at hown
                      rw [←hln] at hlenI
                      have HX2:=hide hxs
                      have HLn2:=hide hln
                      clear hz htk hxs hln hT hvb hBi hneC hblkC hOC
                      go_wp2_with (at_builtin;refine wpList_append_lies _ rfl _ _ 88 rfl w3.heap.size 42 j0 (.agg #[.int .i64 0,.int .i64 0]) 2 16 Tryz.underlying88 hj0 hy0 hy1 hy2 rfl (by omega) v ln xs2 rfl (hown.alloc _) ⟨wr.heap.size,0,none⟩ 1 1 [.int .i64 zx,.int .i64 zy] rfl rfl ?la1 ?la2 (by omega) ?la3 ?la4 ?la5 (wr.heap.size+1) (by simp) ?_)
                      try (case la1=>exact news_sp wr [.int .i64 zx,.int .i64 zy] _ _ rfl)
                      case la2=>first | exact one_two _ _ | exact ⟨rfl,rfl⟩
                      case la3=>unfold maxLen;omega
                      case la4=>omega
                      case la5=>first | omega | (simp;omega)
                      intro g cap w7 hown7 hgrow hat hlt7
                      have hb7:Below w3.heap.size w3 w7:=(HBi.out.alloc (by omega) _).grown hgrow (by simp;omega) (fun q hq=>(hown.lt q hq).1)
                      have hT7:Touch (fun q=>vo.ownBlock=some q) w6 w7:=(HT.out.alloc _).grown hgrow (fun q hq=>by
                        rcases HVb.out with h | ⟨g',h1,h2⟩
                        · exact .inl (h ▸ hq)
                        · rw [h1] at hq;simp at hq;subst hq;exact .inr h2)
                      have HVb7:Hid ((Value.slice (some ⟨g,0,none⟩) (ln+1) cap).ownBlock=vo.ownBlock∨∃g',(Value.slice (some ⟨g,0,none⟩) (ln+1) cap).ownBlock=some g'∧w6.heap.size≤g'):=by
                        unfold Hid
                        rcases hat with hat | hat
                        · rcases HVb.out with h | ⟨g',h1,h2⟩
                          · left;rw [←h,hat];rfl
                          · right;rw [hat] at h1;exact ⟨g',by simpa [Value.ownBlock] using h1,h2⟩
                        · right;exact ⟨g,rfl,by omega⟩
                      have HO7:Hid (w7.ownsRow w3.heap.size 42 2 (.slice (some ⟨g,0,none⟩) (ln+1) cap) (RP++CL.dropLast.take (i+1)).length ((RP++CL.dropLast.take (i+1)).flatMap spC)):=by
                        unfold Hid
                        exact push_sp (l:=RP++CL.dropLast.take i) (p:=(zx,zy)) (m:=ln+1) (by rw [←HX2.out];exact hown7) HTk2.out (by rw [HLn2.out])
                      have HT7:=hide hT7
                      clear hown7 hgrow hat hown hT7 p0 p1
                      go_wp2
                      go_roundw
                      case rel=>exact ⟨i+1,by omega,by go_num,HT7.out,hb7,HVb7.out,HO7.out⟩
                      case measure=>simp [intOf];omega
                    · have hdi:decide ((i:Int)<(mC:Int)-1)=false:=by simp;omega
                      have htk:CL.dropLast.take i=CL.dropLast:=List.take_of_length_le (by rw [List.length_dropLast,←HMC.out];omega)
                      rw [htk,←HSu.out] at hown
                      have HOw2:=hide hown
                      clear hT hvb htk hown
                      go_wp2
                      go_roundw
                      case rel=>exact ⟨j+1,by omega,by go_num,hBi,HSt2.out,HOw2.out⟩
                      case measure=>simp [intOf];omega
              · obtain ⟨wG,hwG⟩:∃wG,wG=(((((((((w5.setCell ⟨wp.heap.size,0,none⟩ (.int .i64 PG.k)).setCell ⟨wp.heap.size,1,none⟩ (.int .i64 PG.x0)).setCell ⟨wp.heap.size,2,none⟩ (.int .i64 PG.y0)).setCell ⟨wp.heap.size,3,none⟩ (.int .i64 PG.x1)).setCell ⟨wp.heap.size,4,none⟩ (.int .i64 PG.y1)).setCell ⟨wp.heap.size,5,none⟩ (.int .i64 PG.x2)).setCell ⟨wp.heap.size,6,none⟩ (.int .i64 PG.y2)).setCell ⟨wp.heap.size,7,none⟩ (.int .i64 PG.x3)).setCell ⟨wp.heap.size,8,none⟩ (.int .i64 PG.y3)):=⟨_,rfl⟩
                rw [←hwG]
                have hRG:wG.rowIs wp.heap.size 44 9 (sg9 PG.k PG.x0 PG.y0 PG.x1 PG.y1 PG.x2 PG.y2 PG.x3 PG.y3):=by rw [hwG];exact set9sg kz PG.k PG.x0 PG.y0 PG.x1 PG.y1 PG.x2 PG.y2 PG.x3 PG.y3
                have hBG:Below wp.heap.size wp wG:=by rw [hwG];exact (((((((((hb5.setCell (p:=⟨wp.heap.size,0,none⟩) (Nat.le_refl _) _).setCell (p:=⟨wp.heap.size,1,none⟩) (Nat.le_refl _) _).setCell (p:=⟨wp.heap.size,2,none⟩) (Nat.le_refl _) _).setCell (p:=⟨wp.heap.size,3,none⟩) (Nat.le_refl _) _).setCell (p:=⟨wp.heap.size,4,none⟩) (Nat.le_refl _) _).setCell (p:=⟨wp.heap.size,5,none⟩) (Nat.le_refl _) _).setCell (p:=⟨wp.heap.size,6,none⟩) (Nat.le_refl _) _).setCell (p:=⟨wp.heap.size,7,none⟩) (Nat.le_refl _) _).setCell (p:=⟨wp.heap.size,8,none⟩) (Nat.le_refl _) _)
                obtain ⟨gB,hgB⟩:∃gB,gB=wp.heap.size:=⟨_,rfl⟩
                rw [←hgB] at hRG ⊢
                have hgB1:wp.heap.size≤gB:=by omega
                clear hgB hwG hb5 hb5' hb6 kg km k0 k1 k2 k3 k4 k5 k6 k7 k8 m0 m1 m2 m3 m4 m5 kz kzl r0 r1 r2 r3 r4 r5 r6 r7 r8 z0 z1 z2 z3 z4 z5 z6 z7 z8
                have hgB2:=hRG.lt
                have hsG:=hBG.size
                have hown1:=owns_of_block HOw.out (fun q hq=>hBG.block q (HOw.out.lt q hq).2)
                have hB1:Below w3.heap.size w3 wG:=HBp.out.trans (hBG.mono (by omega))
                have HBf:=hide (HB2.out.trans ((HB3.out.trans (hB1.mono (by omega))).mono (by omega)))
                obtain ⟨e0,e1,e2,e3,e4,e5,e6,e7,e8⟩:=sg9_cells hRG
                clear hRG hBG hn1 hn2 c0 c1 c2 c3 c4 c5 c6 c7 c8 d0 d1 d2 d3 d4 d5
                cases hput:Num.putOk M S
                · have hPE6:PE=6:=by rw [HPE.out];unfold Num.putE;rw [hput];rfl
                  subst hPE6
                  obtain ⟨rfl,rfl⟩:=HOkN2.out hput
                  clear hput HNo HYe HOkN HOkN2 e0 e1 e2 e3 e4 e5 e6 e7 e8
                  go_wp2
                  go_ret2
                  exact ⟨_,fun _=>.slice none 0 0,rfl,HBf.out,SpRings.nil _ _ _ _⟩
                · have hPE0:PE=0:=by rw [HPE.out];unfold Num.putE;rw [hput];rfl
                  have hPGv:PG=Num.putV M S:=by rw [HPG.out];unfold Num.putG;rw [hput];rfl
                  have hcE:=Num.put_curve hput HKj.out
                  have hcl:=Num.curveL_le (Num.putV M S)
                  have hcp:=Num.curveL_pos hcE
                  have HSg:Hid (Num.segSp M S=(Num.curveL PG).dropLast):=by unfold Hid Num.segSp;rw [hPGv]
                  rw [←hPGv] at hcE hcl hcp
                  have HCv:=hide (fun w=>refCurve_any PG.k PG.x0 PG.y0 PG.x1 PG.y1 PG.x2 PG.y2 PG.x3 PG.y3 w)
                  have HSt2:=hide (HStep.out hput)
                  rw [hcE] at HCv
                  obtain ⟨CL,hCL⟩:∃CL,CL=Num.curveL PG:=⟨_,rfl⟩
                  rw [←hCL] at HCv HSg hcl hcp
                  subst hPE0
                  clear hput hPGv hcE hCL HStep HOkN2
                  go_wp2_with fail
                  refine (HCv.out _).mono ?_
                  rintro e w6 ⟨vC,rfl,hb6,hownC⟩
                  have hs6:=hb6.size
                  have hown2:=owns_of_block hown1 (fun q hq=>hb6.block q (hown1.lt q hq).2)
                  have hBB2:Below w3.heap.size w3 w6:=hB1.trans (hb6.mono (by omega))
                  obtain ⟨gC,capC,rfl,hgC1,hgC2⟩:=hownC.form hcp
                  have hvlt:∀q,vo.ownBlock=some q→q<wG.heap.size:=fun q hq=>(hown1.lt q hq).2
                  have HOC:=hide hownC
                  have HVl:=hide hvlt
                  obtain ⟨RP,hRP⟩:∃RP,RP=Num.ringSp M (L.take j):=⟨_,rfl⟩
                  rw [←hRP] at hown2 HSu hlen
                  rw [HSg.out] at HSu
                  obtain ⟨mC,hmC⟩:∃mC,mC=CL.length:=⟨_,rfl⟩
                  rw [←hmC] at hcl hcp ⊢
                  have HMC:=hide hmC
                  have HO2':=hide hown2
                  have HBB2:=hide hBB2
                  clear hb6 hownC hvlt hRP hmC hown1 hB1 hown2 hBB2 e0 e1 e2 e3 e4 e5 e6 e7 e8
                  go_wp2_with fail
                  go_loopw [12,19] (fun v t wr=>∃i:Nat,i+1≤mC∧t=.int .i64 i∧Touch (fun q=>vo.ownBlock=some q) w6 wr∧Below w3.heap.size w3 wr∧(v.ownBlock=vo.ownBlock∨∃q,v.ownBlock=some q∧w6.heap.size≤q)∧wr.ownsRow w3.heap.size 42 2 v (RP++CL.dropLast.take i).length ((RP++CL.dropLast.take i).flatMap spC)) (fun _ t _=>mC-(intOf t).toNat)
                  case atStart=>exact ⟨0,by omega,rfl,Touch.refl _ _,HBB2.out,.inl rfl,by simpa using HO2'.out⟩
                  case round=>
                    obtain ⟨v,rfl⟩:∃v,v=u12:=⟨_,rfl⟩
                    obtain ⟨i,hi,rfl,hT,hBi,hvb,hown⟩:=hrel
                    have hsi:=hT.size
                    by_cases hlti:i+1<mC
                    · have hil:i<CL.length:=by rw [←HMC.out];omega
                      have hneC:¬vo.ownBlock=some gC:=fun e=>by have:=HVl.out _ e;omega
                      have hblkC:wr.heap[gC]? = w6.heap[gC]?:=hT.block gC hgC2 hneC
                      have hOC:=owns_of_block (w':=wr) HOC.out (fun q hq=>by simp [Value.ownBlock] at hq;subst hq;exact hblkC)
                      obtain ⟨p0,p1⟩:=owns_sp hOC i hil
                      have htk:=(Num.dropLast_take_succ CL i).1 (by rw [←HMC.out];exact hlti) hil
                      have hlenI:(RP++CL.dropLast.take i).length≤111*4000+112:=by rw [List.length_append,List.length_take];omega
                      have hgCw:gC<wr.heap.size:=by omega
                      have hdi:decide ((i:Int)<(mC:Int)-1)=true:=by simp;omega
                      have ia0:(0:Int)≤(i:Int):=by omega
                      have ia1:(i:Int)<(mC:Int):=by omega
                      have HT:=hide hT
                      have HVb:=hide hvb
                      have HBi:=hide hBi
                      obtain ⟨z,hz⟩:∃z,z=CL[i]:=⟨_,rfl⟩
                      rw [←hz] at p0 p1 htk
                      obtain ⟨zx,zy⟩:=z
                      simp only at p0 p1
                      have HTk2:Hid (RP++CL.dropLast.take (i+1)=(RP++CL.dropLast.take i)++[(zx,zy)]):=by unfold Hid;rw [htk,List.append_assoc]
                      obtain ⟨xs2,hxs⟩:∃xs2,xs2=(RP++CL.dropLast.take i).flatMap spC:=⟨_,rfl⟩
                      obtain ⟨ln,hln⟩:∃ln,ln=(RP++CL.dropLast.take i).length:=⟨_,rfl⟩
                      rw [←hxs,←hln] at hown
                      rw [←hln] at hlenI
                      have HX2:=hide hxs
                      have HLn2:=hide hln
                      clear hz htk hxs hln hT hvb hBi hneC hblkC hOC
                      go_wp2_with (at_builtin;refine wpList_append_lies _ rfl _ _ 88 rfl w3.heap.size 42 j0 (.agg #[.int .i64 0,.int .i64 0]) 2 16 Tryz.underlying88 hj0 hy0 hy1 hy2 rfl (by omega) v ln xs2 rfl (hown.alloc _) ⟨wr.heap.size,0,none⟩ 1 1 [.int .i64 zx,.int .i64 zy] rfl rfl ?lb1 ?lb2 (by omega) ?lb3 ?lb4 ?lb5 (wr.heap.size+1) (by simp) ?_)
                      try (case lb1=>exact news_sp wr [.int .i64 zx,.int .i64 zy] _ _ rfl)
                      case lb2=>first | exact one_two _ _ | exact ⟨rfl,rfl⟩
                      case lb3=>unfold maxLen;omega
                      case lb4=>omega
                      case lb5=>first | omega | (simp;omega)
                      intro g cap w7 hown7 hgrow hat hlt7
                      have hb7:Below w3.heap.size w3 w7:=(HBi.out.alloc (by omega) _).grown hgrow (by simp;omega) (fun q hq=>(hown.lt q hq).1)
                      have hT7:Touch (fun q=>vo.ownBlock=some q) w6 w7:=(HT.out.alloc _).grown hgrow (fun q hq=>by
                        rcases HVb.out with h | ⟨g',h1,h2⟩
                        · exact .inl (h ▸ hq)
                        · rw [h1] at hq;simp at hq;subst hq;exact .inr h2)
                      have HVb7:Hid ((Value.slice (some ⟨g,0,none⟩) (ln+1) cap).ownBlock=vo.ownBlock∨∃g',(Value.slice (some ⟨g,0,none⟩) (ln+1) cap).ownBlock=some g'∧w6.heap.size≤g'):=by
                        unfold Hid
                        rcases hat with hat | hat
                        · rcases HVb.out with h | ⟨g',h1,h2⟩
                          · left;rw [←h,hat];rfl
                          · right;rw [hat] at h1;exact ⟨g',by simpa [Value.ownBlock] using h1,h2⟩
                        · right;exact ⟨g,rfl,by omega⟩
                      have HO7:Hid (w7.ownsRow w3.heap.size 42 2 (.slice (some ⟨g,0,none⟩) (ln+1) cap) (RP++CL.dropLast.take (i+1)).length ((RP++CL.dropLast.take (i+1)).flatMap spC)):=by
                        unfold Hid
                        exact push_sp (l:=RP++CL.dropLast.take i) (p:=(zx,zy)) (m:=ln+1) (by rw [←HX2.out];exact hown7) HTk2.out (by rw [HLn2.out])
                      have HT7:=hide hT7
                      clear hown7 hgrow hat hown hT7 p0 p1
                      go_wp2
                      go_roundw
                      case rel=>exact ⟨i+1,by omega,by go_num,HT7.out,hb7,HVb7.out,HO7.out⟩
                      case measure=>simp [intOf];omega
                    · have hdi:decide ((i:Int)<(mC:Int)-1)=false:=by simp;omega
                      have htk:CL.dropLast.take i=CL.dropLast:=List.take_of_length_le (by rw [List.length_dropLast,←HMC.out];omega)
                      rw [htk,←HSu.out] at hown
                      have HOw2:=hide hown
                      clear hT hvb htk hown
                      go_wp2
                      go_roundw
                      case rel=>exact ⟨j+1,by omega,by go_num,hBi,HSt2.out,HOw2.out⟩
                      case measure=>simp [intOf];omega
            · have hdj:decide ((j:Int)<(nl:Int))=false:=by simp;omega
              have e:j=nl:=by omega
              have htk:L.take j=L:=List.take_of_length_le (by rw [←HNl.out];omega)
              rw [htk] at hown
              have hRok:Num.ringOk M L=true:=by
                unfold Num.ringOk
                rw [List.all_eq_true]
                intro g hg
                obtain ⟨i,hi,rfl⟩:=List.mem_iff_getElem.1 hg
                exact hokj i hi (by rw [e,HNl.out];exact hi)
              have HOk2:Hid (∀i,i<k+1→Num.ringOk M (ringL n X Y K i)=true):=fun i hi=>by
                rcases (show i<k∨i=k by omega) with h1 | h1
                · exact HOk.out i h1
                · rw [h1,←HLe.out];exact hRok
              have hTL:traceL n X Y K M k=Num.ringSp M L:=by unfold traceL;rw [HLe.out]
              rw [←hTL] at hown
              obtain ⟨an,cn,hvn,_⟩:=owns_formN hown
              subst hvn
              have HNew:Hid (∀q,(Value.slice an (traceL n X Y K M k).length cn).ownBlock=some q→∀i,i<k→(V i).ownBlock≠some q):=fun q hq i hi e=>by
                have h1:=(hown.lt q hq).1
                have h2:=((HSR.out.inner i hi).lt q e).2
                omega
              have HIn:=hide (owns_mono (base':=w2.heap.size) hown (by omega))
              have HSRw:=hide (HSR3.out.below hB)
              have hout:=HSRw.out.outer
              have HBw3:=hide (HB3.out.trans (hB.mono (by omega)))
              obtain ⟨xs,hxs⟩:∃xs,xs=(List.range k).map V:=⟨_,rfl⟩
              rw [←hxs] at hout
              have HX:=hide hxs
              obtain ⟨ml,hml⟩:∃ml,ml=(traceL n X Y K M k).length:=⟨_,rfl⟩
              rw [←hml] at HNew HIn ⊢
              have HML:=hide hml
              clear hown hokj hRok hxs hml hTL htk hB
              go_wp2_with (at_builtin;refine wpList_append_lies _ rfl _ _ 95 rfl w2.heap.size 88 i0 (.slice none 0 0) 1 24 Tryz.underlying95 hi0 hz0 hz1 hz2 rfl (by omega) vout k xs rfl (hout.alloc _) ⟨wp.heap.size,0,none⟩ 1 1 [.slice an ml cn] rfl rfl ?n1 ?n2 (by omega) ?n3 ?n4 ?n5 (wp.heap.size+1) (by simp) ?_)
              try (case n1=>exact news_sp wp [.slice an ml cn] _ _ rfl)
              case n2=>first | rfl | exact one_slice _ _ _
              case n3=>unfold maxLen;omega
              case n4=>omega
              case n5=>first | omega | (simp;omega)
              intro g cap w8 hown8 hgrow hat hlt8
              rw [HX.out] at hown8
              have HS8:=hide (HSRw.out.push (by rw [←HML.out];exact HIn.out) HNew.out hown8 hgrow)
              have hb8:Below w2.heap.size w2 w8:=(HBw3.out.alloc (by omega) _).grown hgrow (by simp;omega) (fun q hq=>(HSRw.out.outer.lt q hq).1)
              clear hown8 hgrow hat hout
              go_wp2
              go_roundw
              case rel=>exact ⟨k+1,_,by omega,by go_num,hb8,HOk2.out,HS8.out⟩
              case measure=>simp [intOf];omega
        · have e:k=N:=by omega
          obtain ⟨rfl,rfl⟩:=HYe.out (traceOk_yes (fun i hi=>hok i (by omega)))
          have HSR:=hide hSR
          have HBf:=hide (HB2.out.trans (hb.mono (by omega)))
          have hd0:decide ((k:Int)<(TN:Int))=false:=by simp;omega
          clear hSR hok hb HNo HYe
          go_wp2
          go_ret2
          refine ⟨vout,V,rfl,HBf.out,?_⟩
          rw [←e]
          exact HSR.out.mono (by omega)
  · rw [if_neg h0] at hTE
    subst hTE
    have hTN3:TN=0:=by rw [hTN2,if_neg h0]
    subst hTN3
    obtain ⟨v0,v1,v2⟩:=V0
    have hb0:(v0 != 0)=true:=by simpa using h0
    clear h0 hTN2
    go_enter Tryz.func39,Tryz.ntmps39
    go_wp2_with fail
    refine (refCheck_any _ _ _ A C n X Y K _ hN HN.out hS HO.out).mono ?_
    rw [←HV.out]
    rintro e w1 ⟨rfl,hb1⟩
    have HB1:Hid (Below w.heap.size w w1):=Below.trans (by (repeat any_goals first | exact .refl _ _ | assumption | refine .drew ?_ | refine below_drewN ?_ _ | refine .setCell ?_ ?_ _ | refine .alloc ?_ ?_ _ | omega | (simp <;> omega))) (hb1.mono (by simp))
    clear hb1
    go_wp2
    go_ret2
    exact ⟨_,fun _=>.slice none 0 0,rfl,HB1.out,SpRings.nil _ _ _ _⟩
theorem newB_no {a b st:Int} (h:newB a b st=false):sideB a=false∨(sideB a=true∧sideB b=false)∨(sideB a=true∧sideB b=true∧(st != 0)=true∧(st != 1)=true):=by
  cases h1:sideB a
  · exact .inl rfl
  · cases h2:sideB b
    · exact .inr (.inl ⟨rfl,rfl⟩)
    · simp [newB,h1,h2] at h
      exact .inr (.inr ⟨rfl,rfl,by simpa using h.1,by simpa using h.2⟩)
set_option maxRecDepth 100000 in
theorem canvasNew_no (a b st:Int) (w:World) (h:newB a b st=false) :
    Calls Tryz.prog 134 #[.int .i64 a,.int .i64 b,.int .i64 st] w fun e w'=>e=.returned (.tuple #[.agg #[.int .i64 0,.int .i64 0,.int .i64 0,.int .i64 0,.int .i64 0,.slice none 0 0,.slice none 0 0],.int .i64 1])∧Below w.heap.size w w':=by
  rcases newB_no h with h1 | ⟨h1,h2⟩ | ⟨h1,h2,h3,h4⟩
  all_goals
    clear h
    go_enter Tryz.func134,Tryz.ntmps134
    go_wp2_with (go_at_call 167;refine (isSide_any _ _).mono ?_;rintro e w' ⟨rfl,rfl⟩)
    exact bodyPost_ret (v:=.tuple #[.agg #[.int .i64 0,.int .i64 0,.int .i64 0,.int .i64 0,.int .i64 0,.slice none 0 0,.slice none 0 0],.int .i64 1]) (by simp [results,Tryz.results134,go_sem]) rfl ⟨rfl,by (repeat any_goals first | exact .refl _ _ | assumption | refine .drew ?_ | refine below_drewN ?_ _ | refine .setCell ?_ ?_ _ | refine .alloc ?_ ?_ _ | omega | (simp <;> omega))⟩
def renE (W H TE:Int):Int:=if newB W H 0=false then 1 else TE
def renA (L:Nat→List (Int×Int)) (N:Nat) (i j:Nat):Int:=Num.areaV L N i j
theorem layE_zero (TE:Int):layE TE 0=TE:=by
  unfold layE;split
  · rename_i h;simp [h]
  · rfl
set_option maxRecDepth 100000 in
theorem canvasRender_any (W H:Int) (ad:Option Addr) (N cc:Nat) (AA:Nat→Option Addr) (C n:Nat→Nat) (X Y K:Nat→Nat→Int) (a b c d x y:Int) (w:World)
    (hN:N≤4294967296) (hn:∀i,i<N→n i≤4294967296) (ho:OutAt w ad N AA C n X Y K) :
    Calls Tryz.prog 88 #[.slice ad N cc,.agg #[.int .i64 a,.int .i64 b,.int .i64 c,.int .i64 d,.int .i64 x,.int .i64 y],.int .i64 W,.int .i64 H] w fun e w'=>∃rw rh v l,e=.returned (.tuple #[.agg #[.int .i64 rw,.int .i64 rh,v],.int .i64 (renE W H (traceE N n X Y K ⟨a,b,c,d,x,y⟩))])∧Below w.heap.size w w'∧w'.ownsRow w.heap.size 5 1 v (List.length l) (u8C l) ∧
      (renE W H (traceE N n X Y K ⟨a,b,c,d,x,y⟩)≠0→rw=0∧rh=0∧l=[])∧(renE W H (traceE N n X Y K ⟨a,b,c,d,x,y⟩)=0→rw=W∧rh=H∧l=pixL (renA (traceL n X Y K ⟨a,b,c,d,x,y⟩) N) 0 0 W.toNat (W.toNat*H.toNat)):=by
  obtain ⟨m,hm⟩:∃m:Num.Mp,m=⟨a,b,c,d,x,y⟩:=⟨_,rfl⟩
  obtain ⟨TE,hTE⟩:∃TE,TE=traceE N n X Y K m:=⟨_,rfl⟩
  obtain ⟨L,hL⟩:∃L,L=traceL n X Y K m:=⟨_,rfl⟩
  have HF:Hid (TE=0→N≤16∧∀i,i<N→(L i).length≤44400∧∀p∈L i,Num.inB p.1 p.2=true):=by rw [hTE,hL];exact trace_facts
  obtain ⟨W1,hW1⟩:∃W1,W1=(w.alloc (.cells #[.int .i64 a,.int .i64 b,.int .i64 c,.int .i64 d,.int .i64 x,.int .i64 y] 40)):=⟨_,rfl⟩
  obtain ⟨W2,hW2⟩:∃W2,W2=W1.alloc (.cells #[.int .i64 0,.int .i64 0,.slice none 0 0] 47):=⟨_,rfl⟩
  have hs1:W1.heap.size=w.heap.size+1:=by rw [hW1];simp
  have hs2:W2.heap.size=w.heap.size+2:=by rw [hW2];simp [hs1]
  have HB1:Hid (Below w.heap.size w W1):=by unfold Hid;rw [hW1];(repeat any_goals first | exact .refl _ _ | assumption | refine .drew ?_ | refine below_drewN ?_ _ | refine .setCell ?_ ?_ _ | refine .alloc ?_ ?_ _ | omega | (simp <;> omega))
  have HB2:Hid (Below w.heap.size w W2):=by unfold Hid;rw [hW2];exact HB1.out.alloc (by omega) _
  have HM:Hid (W2.rowIs w.heap.size 40 6 (mp6 a b c d x y)):=by
    unfold Hid;rw [hW2,hW1];exact (mp6_row a b c d x y w 40).alloc _
  have HZ:Hid (W2.rowIs (w.heap.size+1) 47 3 (gr3 0 0 (.slice none 0 0))):=by
    unfold Hid;rw [←hs1,hW2];exact gr3_row 0 0 (.slice none 0 0) W1 47
  have HO:=hide (ho.below HB2.out)
  have HN:=hide hn
  rw [←hm,←hTE,←hL]
  clear ho hn
  cases hnb:newB W H 0
  · have hre:renE W H TE=1:=by unfold renE;rw [if_pos hnb]
    have HCall:=hide (canvasNew_no W H 0 W2 hnb)
    rw [hre]
    clear hre
    go_enter Tryz.func88,Tryz.ntmps88
    go_wp2_with fail
    rw [←hW1,←hW2]
    refine HCall.out.mono ?_
    rintro e w3 ⟨rfl,hb3⟩
    have hs3:=hb3.size
    have hZ3:=row_below HZ.out hb3 (by omega)
    obtain ⟨z0,z1,z2⟩:=gr3_cells hZ3
    have f0:=hZ3.frozen 0
    have f1:=hZ3.frozen 1
    have f2:=hZ3.frozen 2
    have hsl:w.heap.size+1<w3.heap.size:=by omega
    have HB3:Hid (Below w.heap.size w w3):=HB2.out.trans (hb3.mono (by omega))
    have HR:=hide ((gr3_set hZ3 0 0 (.slice none 0 0)).alloc (.cells #[.int .i64 0,.int .i64 0,.int .i64 0,.int .i64 0,.int .i64 0,.slice none 0 0,.slice none 0 0] 197))
    clear hb3 hZ3 HCall hW1 hW2
    go_wp2
    obtain ⟨wF,hwF⟩:∃wF,wF=(((w3.setCell ⟨w.heap.size+1,0,none⟩ (.int .i64 0)).setCell ⟨w.heap.size+1,1,none⟩ (.int .i64 0)).setCell ⟨w.heap.size+1,2,none⟩ (.slice none 0 0)).alloc (.cells #[.int .i64 0,.int .i64 0,.int .i64 0,.int .i64 0,.int .i64 0,.slice none 0 0,.slice none 0 0] 197):=⟨_,rfl⟩
    have HBF:Hid (Below w.heap.size w wF):=by
      unfold Hid
      rw [hwF]
      have:=HB3.out
      (repeat any_goals first | exact .refl _ _ | assumption | refine .drew ?_ | refine below_drewN ?_ _ | refine .setCell ?_ ?_ _ | refine .alloc ?_ ?_ _ | omega | (simp <;> omega))
    rw [←hwF]
    rw [←hwF] at HR
    obtain ⟨g0,g1,g2⟩:=gr3_cells HR.out
    exact bodyPost_ret (v:=.tuple #[.agg #[.int .i64 0,.int .i64 0,.slice none 0 0],.int .i64 1]) (by simp [results,Tryz.results88,go_sem,g0,g1,g2]) rfl ⟨0,0,.slice none 0 0,[],rfl,HBF.out,World.ownsRow_nil _ _ _ _,fun _=>⟨rfl,rfl,rfl⟩,fun e=>by simp at e⟩
  · obtain ⟨hW,hH,_⟩:=newB_yes hnb
    obtain ⟨wn,hwn⟩:∃wn:Nat,(wn:Int)=W:=⟨W.toNat,by omega⟩
    obtain ⟨hn',hhn⟩:∃hn':Nat,(hn':Int)=H:=⟨H.toNat,by omega⟩
    subst hwn hhn
    have hre:renE (wn:Int) (hn':Int) TE=TE:=by unfold renE;rw [hnb];rfl
    rw [hre]
    have HNew:=hide (canvasNew_any wn hn' 0 W2 (by omega) (by omega) (.inl rfl))
    have hw1:1≤wn∧wn≤64:=by omega
    have hh1:1≤hn'∧hn'≤64:=by omega
    clear hre hnb hW hH
    go_enter Tryz.func88,Tryz.ntmps88
    go_wp2_with fail
    rw [←hW1,←hW2]
    refine HNew.out.mono ?_
    rintro e w3 ⟨tw,ao1,n1,c1,ao2,n2,c2,S,rfl,hb3,hV,hSg⟩
    have hs3:=hb3.size
    obtain ⟨W4,hW4⟩:∃W4,W4=w3.alloc (.cells #[.int .i64 (wn:Int),.int .i64 (hn':Int),.int .i64 0,.int .i64 0,.int .i64 tw,.slice ao1 n1 c1,.slice ao2 n2 c2] 197):=⟨_,rfl⟩
    have hs4:W4.heap.size=w3.heap.size+1:=by rw [hW4];simp
    have hb34:Below w3.heap.size w3 W4:=by rw [hW4];exact (Below.refl _ _).alloc (Nat.le_refl _) _
    have hb24:Below W2.heap.size W2 W4:=hb3.trans (hb34.mono hs3)
    have hCn:Cnv W4 w3.heap.size 197 wn hn' 0 (fun _ _=>0) 0 (fun q=>S q∨q=w3.heap.size) 0:=by
      have hrow:=cv7_alloc wn hn' 0 0 tw (.slice ao1 n1 c1) (.slice ao2 n2 c2) w3 197
      refine hV.2 W4 w3.heap.size 197 (fun q hq=>hb34.block q (hV.1 q hq)) (by omega) (by rw [hW4];exact hrow) (fun e=>?_)
      have:=hV.1 _ e
      omega
    have hM4:=row_below HM.out hb3 (by omega)
    obtain ⟨d0,d1,d2,d3,d4,d5⟩:=mp6_cells hM4
    have hM4l:=hM4.lt
    have HAdd:=hide (canvasAdd_any w3.heap.size wn hn' 0 197 (fun _ _=>0) 0 _ ad N cc AA C n X Y K a b c d x y W4 (by simpa using hCn) hw1 hh1 (by omega) hN HN.out (HO.out.below hb24))
    rw [layE_zero,←hm,←hTE,←hL] at HAdd
    have HSg:Hid (∀q,(S q∨q=w3.heap.size)→w.heap.size+2≤q):=fun q hq=>by
      rcases hq with h | h
      · have:=hSg q h;omega
      · omega
    have HZ4:=hide (row_below HZ.out hb24 (by omega))
    have HB4:Hid (Below w.heap.size w W4):=HB2.out.trans (hb24.mono (by omega))
    clear hb3 hV hSg hM4 hb34 hb24 hCn HNew HM HZ
    clear hm hTE hL hW1 hW2
    go_wp2_with fail
    rw [←hW4]
    refine HAdd.out.mono ?_
    rintro e w5 ⟨rfl,hT5,hno,hyes⟩
    clear hW4
    have hs5:=hT5.size
    have HB5:Hid (Below w.heap.size w w5):=HB4.out.trans (hT5.below (B:=w.heap.size) (by omega) (fun q hq=>by have:=HSg.out q hq;omega))
    have hZ5:=hT5.row HZ4.out (fun e=>by have:=HSg.out _ e;omega)
    have hsl:w.heap.size+1<w5.heap.size:=hZ5.lt
    by_cases h0:TE=0
    · obtain ⟨S',hC5,hS'⟩:=hyes h0
      obtain ⟨hN16,hLL⟩:=HF.out h0
      have hA:∀i j:Nat,i<wn→j<hn' → -9000000000000000000≤(0+1*Num.areaV L N (i:Int) (j:Int))∧(0+1*Num.areaV L N (i:Int) (j:Int))≤9000000000000000000:=fun i j _ _=>by
        have h3:=Num.areaV_bd (L:=L) (N:=N) (M:=44400) (i:Int) (j:Int) (fun r hr=>(hLL r hr).1)
        have h4:(8192*((44400:Nat):Int)*(N:Int))≤5819596800:=by omega
        omega
      have HGr:=hide (canvasGray_any w3.heap.size wn hn' 1 0 0 wn hn' 197 _ _ 0 S' w5 hC5 hw1 hh1 (by omega) ⟨by omega,by omega⟩ ⟨by omega,by omega⟩ hA)
      have HZ5:=hide hZ5
      have HP:Hid (pixL (fun i j=>0+1*Num.areaV L N (i:Int) (j:Int)) 0 0 wn (wn*hn')=pixL (renA L N) 0 0 wn (wn*hn')):=by
        unfold Hid
        congr 1
        funext i j
        unfold renA
        omega
      rw [HP.out,show (((0:Nat)):Int)=0 from rfl] at HGr
      have hte:(TE != 0)=false:=by simp [h0]
      clear hT5 hno hyes hC5 hS' hLL hA hZ5 HAdd HF HP
      go_wp2_with fail
      refine HGr.out.mono ?_
      rintro e w6 ⟨v,rfl,hb6,hown⟩
      have hs6:=hb6.size
      have hZ6:=row_below HZ5.out hb6 (by omega)
      obtain ⟨z0,z1,z2⟩:=gr3_cells hZ6
      have f0:=hZ6.frozen 0
      have f1:=hZ6.frozen 1
      have f2:=hZ6.frozen 2
      have hsl6:w.heap.size+1<w6.heap.size:=by omega
      obtain ⟨ao,cap0,hv,_⟩:=owns_formN hown
      have HR:=hide (gr3_set hZ6 wn hn' v)
      have hB:Below w.heap.size w w6:=HB5.out.trans (hb6.mono (by have:=HB5.out.size;omega))
      have HB:Hid (Below w.heap.size w (((w6.setCell ⟨w.heap.size+1,0,none⟩ (.int .i64 wn)).setCell ⟨w.heap.size+1,1,none⟩ (.int .i64 hn')).setCell ⟨w.heap.size+1,2,none⟩ v)):=((hB.setCell (p:=⟨w.heap.size+1,0,none⟩) (by simp) _).setCell (p:=⟨w.heap.size+1,1,none⟩) (by simp) _).setCell (p:=⟨w.heap.size+1,2,none⟩) (by simp) _
      have HOF:Hid ((((w6.setCell ⟨w.heap.size+1,0,none⟩ (.int .i64 wn)).setCell ⟨w.heap.size+1,1,none⟩ (.int .i64 hn')).setCell ⟨w.heap.size+1,2,none⟩ v).ownsRow w.heap.size 5 1 v (wn*hn') (u8C (pixL (renA L N) 0 0 wn (wn*hn')))):=by
        refine owns_mono (owns_of_block hown (fun q hq=>?_)) (by omega)
        have hq1:=(hown.lt q hq).1
        have hne:q≠w.heap.size+1:=by omega
        rw [set_otherB hne,set_otherB hne,set_otherB hne]
      subst hv
      clear hown hb6 hZ6 hB HGr
      go_wp2
      obtain ⟨wF,hwF⟩:∃wF,wF=((w6.setCell ⟨w.heap.size+1,0,none⟩ (.int .i64 wn)).setCell ⟨w.heap.size+1,1,none⟩ (.int .i64 hn')).setCell ⟨w.heap.size+1,2,none⟩ (.slice ao (wn*hn') cap0):=⟨_,rfl⟩
      rw [←hwF]
      rw [←hwF] at HR HB HOF
      obtain ⟨g0,g1,g2⟩:=gr3_cells HR.out
      have hpl:=pixL_len (renA L N) 0 0 wn (wn*hn')
      exact bodyPost_ret (v:=.tuple #[.agg #[.int .i64 wn,.int .i64 hn',.slice ao (wn*hn') cap0],.int .i64 0]) (by simp [results,Tryz.results88,go_sem,g0,g1,g2]) rfl ⟨wn,hn',_,pixL (renA L N) 0 0 wn (wn*hn'),by rw [h0],HB.out,by rw [hpl];exact HOF.out,fun e=>absurd h0 e,fun _=>⟨rfl,rfl,by simp⟩⟩
    · have hte:(TE != 0)=true:=by simp [h0]
      obtain ⟨z0,z1,z2⟩:=gr3_cells hZ5
      have f0:=hZ5.frozen 0
      have f1:=hZ5.frozen 1
      have f2:=hZ5.frozen 2
      have HR:=hide (gr3_set hZ5 0 0 (.slice none 0 0))
      clear hT5 hno hyes hZ5 HAdd HF
      go_wp2
      obtain ⟨wF,hwF⟩:∃wF,wF=((w5.setCell ⟨w.heap.size+1,0,none⟩ (.int .i64 0)).setCell ⟨w.heap.size+1,1,none⟩ (.int .i64 0)).setCell ⟨w.heap.size+1,2,none⟩ (.slice none 0 0):=⟨_,rfl⟩
      have HBF:Hid (Below w.heap.size w wF):=by
        unfold Hid
        rw [hwF]
        have:=HB5.out
        (repeat any_goals first | exact .refl _ _ | assumption | refine .drew ?_ | refine below_drewN ?_ _ | refine .setCell ?_ ?_ _ | refine .alloc ?_ ?_ _ | omega | (simp <;> omega))
      rw [←hwF]
      rw [←hwF] at HR
      obtain ⟨g0,g1,g2⟩:=gr3_cells HR.out
      exact bodyPost_ret (v:=.tuple #[.agg #[.int .i64 0,.int .i64 0,.slice none 0 0],.int .i64 TE]) (by simp [results,Tryz.results88,go_sem,g0,g1,g2]) rfl ⟨0,0,.slice none 0 0,[],rfl,HBF.out,World.ownsRow_nil _ _ _ _,fun _=>⟨rfl,rfl,rfl⟩,fun e=>absurd e h0⟩
set_option maxRecDepth 100000 in
theorem glyphRender_any (W H:Int) (ad:Option Addr) (N cc:Nat) (AA:Nat→Option Addr) (C n:Nat→Nat) (X Y K:Nat→Nat→Int) (a b c d x y:Int) (w:World)
    (hN:N≤4294967296) (hn:∀i,i<N→n i≤4294967296) (ho:OutAt w ad N AA C n X Y K) :
    Calls Tryz.prog 44 #[.slice ad N cc,.agg #[.int .i64 a,.int .i64 b,.int .i64 c,.int .i64 d,.int .i64 x,.int .i64 y],.int .i64 W,.int .i64 H] w fun e w'=>∃rw rh v l,e=.returned (.tuple #[.agg #[.int .i64 rw,.int .i64 rh,v],.int .i64 (renE W H (traceE N n X Y K ⟨a,b,c,d,x,y⟩))])∧Below w.heap.size w w'∧w'.ownsRow w.heap.size 5 1 v (List.length l) (u8C l) ∧
      (renE W H (traceE N n X Y K ⟨a,b,c,d,x,y⟩)≠0→rw=0∧rh=0∧l=[])∧(renE W H (traceE N n X Y K ⟨a,b,c,d,x,y⟩)=0→rw=W∧rh=H∧l=pixL (renA (traceL n X Y K ⟨a,b,c,d,x,y⟩) N) 0 0 W.toNat (W.toNat*H.toNat)):=by
  obtain ⟨W1,hW1⟩:∃W1,W1=(w.alloc (.cells #[.int .i64 a,.int .i64 b,.int .i64 c,.int .i64 d,.int .i64 x,.int .i64 y] 40)):=⟨_,rfl⟩
  obtain ⟨W2,hW2⟩:∃W2,W2=W1.alloc (.cells #[.int .i64 0,.int .i64 0,.slice none 0 0] 47):=⟨_,rfl⟩
  have hs1:W1.heap.size=w.heap.size+1:=by rw [hW1];simp
  have hs2:W2.heap.size=w.heap.size+2:=by rw [hW2];simp [hs1]
  have HB2:Hid (Below w.heap.size w W2):=by unfold Hid;rw [hW2,hW1];(repeat any_goals first | exact .refl _ _ | assumption | refine .drew ?_ | refine below_drewN ?_ _ | refine .setCell ?_ ?_ _ | refine .alloc ?_ ?_ _ | omega | (simp <;> omega))
  have HZ:Hid (W2.rowIs (w.heap.size+1) 47 3 (gr3 0 0 (.slice none 0 0))):=by
    unfold Hid;rw [←hs1,hW2];exact gr3_row 0 0 (.slice none 0 0) W1 47
  have HCall:=hide (canvasRender_any W H ad N cc AA C n X Y K a b c d x y W2 hN hn (ho.below HB2.out))
  clear ho hn
  obtain ⟨RE,hRE⟩:∃RE,RE=renE W H (traceE N n X Y K ⟨a,b,c,d,x,y⟩):=⟨_,rfl⟩
  obtain ⟨RL,hRL⟩:∃RL,RL=pixL (renA (traceL n X Y K ⟨a,b,c,d,x,y⟩) N) 0 0 W.toNat (W.toNat*H.toNat):=⟨_,rfl⟩
  rw [←hRE,←hRL] at HCall
  rw [←hRE,←hRL]
  clear hRE hRL
  go_enter Tryz.func44,Tryz.ntmps44
  go_wp2_with fail
  rw [←hW1,←hW2]
  refine HCall.out.mono ?_
  rintro e w1 ⟨rw',rh',v,l,rfl,hb1,hown,hq1,hq2⟩
  have hs3:=hb1.size
  have hZ2:=row_below HZ.out hb1 (by omega)
  obtain ⟨z0,z1,z2⟩:=gr3_cells hZ2
  have f0:=hZ2.frozen 0
  have f1:=hZ2.frozen 1
  have f2:=hZ2.frozen 2
  have hsl:w.heap.size+1<w1.heap.size:=by omega
  obtain ⟨ao,cap0,hv,_⟩:=owns_formN hown
  have HR:=hide (gr3_set hZ2 rw' rh' v)
  have hB:Below w.heap.size w w1:=HB2.out.trans (hb1.mono (by omega))
  have HB:Hid (Below w.heap.size w (((w1.setCell ⟨w.heap.size+1,0,none⟩ (.int .i64 rw')).setCell ⟨w.heap.size+1,1,none⟩ (.int .i64 rh')).setCell ⟨w.heap.size+1,2,none⟩ v)):=((hB.setCell (p:=⟨w.heap.size+1,0,none⟩) (by simp) _).setCell (p:=⟨w.heap.size+1,1,none⟩) (by simp) _).setCell (p:=⟨w.heap.size+1,2,none⟩) (by simp) _
  have HOF:Hid ((((w1.setCell ⟨w.heap.size+1,0,none⟩ (.int .i64 rw')).setCell ⟨w.heap.size+1,1,none⟩ (.int .i64 rh')).setCell ⟨w.heap.size+1,2,none⟩ v).ownsRow w.heap.size 5 1 v l.length (u8C l)):=by
    refine owns_mono (owns_of_block hown (fun q hq=>?_)) (by omega)
    have hq1:=(hown.lt q hq).1
    have hne:q≠w.heap.size+1:=by omega
    rw [set_otherB hne,set_otherB hne,set_otherB hne]
  have HQ:=hide (And.intro hq1 hq2)
  subst hv
  clear hown hb1 hZ2 hB HCall hq1 hq2 hW1 hW2
  go_wp2
  obtain ⟨wF,hwF⟩:∃wF,wF=((w1.setCell ⟨w.heap.size+1,0,none⟩ (.int .i64 rw')).setCell ⟨w.heap.size+1,1,none⟩ (.int .i64 rh')).setCell ⟨w.heap.size+1,2,none⟩ (.slice ao l.length cap0):=⟨_,rfl⟩
  rw [←hwF]
  rw [←hwF] at HR HB HOF
  obtain ⟨g0,g1,g2⟩:=gr3_cells HR.out
  exact bodyPost_ret (v:=.tuple #[.agg #[.int .i64 rw',.int .i64 rh',.slice ao l.length cap0],.int .i64 RE]) (by simp [results,Tryz.results44,go_sem,g0,g1,g2]) rfl ⟨_,_,_,l,rfl,HB.out,HOF.out,HQ.out.1,HQ.out.2⟩
theorem rc4_alloc (W H:Int) (vR vS:Value) (w:World) (t:TypeId):(w.alloc (.cells #[.int .i64 W,.int .i64 H,vR,vS] t)).rowIs w.heap.size t 4 (rc4 W H vR vS):=by
  refine World.rowIs_alloc w #[.int .i64 W,.int .i64 H,vR,vS] t (rc4 W H vR vS) (fun i hi=>?_)
  have hi:i<4:=hi
  rcases (show i=0∨i=1∨i=2∨i=3 by omega) with rfl | rfl | rfl | rfl <;> rfl
theorem rc4_set2 {w:World} {b:Nat} {t:TypeId} {W H:Int} {vR vS:Value} (h:w.rowIs b t 4 (rc4 W H vR vS)) (v:Value):(w.setCell ⟨b,2,none⟩ v).rowIs b t 4 (rc4 W H v vS):=by
  refine (h.set 2 _).congr fun q hq=>?_
  rcases (show q=0∨q=1∨q=2∨q=3 by omega) with rfl | rfl | rfl | rfl <;> rfl
theorem rc4_set3 {w:World} {b:Nat} {t:TypeId} {W H:Int} {vR vS:Value} (h:w.rowIs b t 4 (rc4 W H vR vS)) (v:Value):(w.setCell ⟨b,3,none⟩ v).rowIs b t 4 (rc4 W H vR v):=by
  refine (h.set 3 _).congr fun q hq=>?_
  rcases (show q=0∨q=1∨q=2∨q=3 by omega) with rfl | rfl | rfl | rfl <;> rfl
theorem refNew_yes (W H:Nat) (st:Int) (w:World) (hW:1≤W∧W≤64) (hH:1≤H∧H≤64) (hst:st=0∨st=1) :
    Calls Tryz.prog 89 #[.int .i64 W,.int .i64 H,.int .i64 st] w fun e w'=>e=.returned (.tuple #[.pointer (some ⟨w.heap.size,0,none⟩),.int .i64 0])∧w'=w.alloc (.cells #[.int .i64 W,.int .i64 H,.slice none 0 0,.slice none 0 0] 173):=by
  have s3:((st != 0)=false)∨((st != 0)=true∧(st != 1)=false):=by rcases hst with rfl | rfl <;> simp
  rcases s3 with s3 | ⟨s3,s4⟩
  all_goals
    go_enter Tryz.func89,Tryz.ntmps89
    go_wp2
    go_ret2
    exact ⟨rfl,rfl⟩
theorem side_no {a:Int} (h:sideB a=false):a<1∨(¬a<1∧64<a):=by simp [sideB] at h;omega
theorem side_yes {a:Int} (h:sideB a=true):¬a<1∧¬64<a:=by simp [sideB] at h;omega
theorem refNew_no (a b st:Int) (w:World) (h:newB a b st=false) :
    Calls Tryz.prog 89 #[.int .i64 a,.int .i64 b,.int .i64 st] w fun e w'=>e=.returned (.tuple #[.pointer none,.int .i64 1])∧w'=w:=by
  rcases newB_no h with h1 | ⟨h1,h2⟩ | ⟨h1,h2,h3,h4⟩
  · rcases side_no h1 with k1 | ⟨k1,k2⟩
    all_goals
      clear h h1
      go_enter Tryz.func89,Tryz.ntmps89
      go_wp2
      go_ret2
      exact ⟨rfl,rfl⟩
  · obtain ⟨k1,k2⟩:=side_yes h1
    rcases side_no h2 with k3 | ⟨k3,k4⟩
    all_goals
      clear h h1 h2
      go_enter Tryz.func89,Tryz.ntmps89
      go_wp2
      go_ret2
      exact ⟨rfl,rfl⟩
  · obtain ⟨k1,k2⟩:=side_yes h1
    obtain ⟨k3,k4⟩:=side_yes h2
    clear h h1 h2
    go_enter Tryz.func89,Tryz.ntmps89
    go_wp2
    go_ret2
    exact ⟨rfl,rfl⟩
theorem Rcv.start {w:World} {rb W H:Nat} {VR:Nat→Value} {VV:Nat→Nat→Value} {NN:Nat→Nat} {LL:Nat→Nat→List (Int×Int)} {sg:Nat→Int} (h:w.rowIs rb 173 4 (rc4 W H (.slice none 0 0) (.slice none 0 0))):Rcv w rb W H 0 VR VV NN LL sg (.slice none 0 0) (.slice none 0 0):=
  ⟨h,World.ownsRow_nil _ _ _ _,fun q hq=>by omega,World.ownsRow_nil _ _ _ _,fun q hq=>by omega,fun q hq=>by omega,by omega⟩
def rcS (rb:Nat) (vR vS:Value) (q:Nat):Prop:=q=rb∨vR.ownBlock=some q∨vS.ownBlock=some q
theorem info_rgs:(Tryz.prog.info? 95).map (fun i=>(i.zero,i.size,i.bytes))=some (some (.slice none 0 0),1,24):=by kernel_rfl
theorem info_i64:(Tryz.prog.info? 3).map (fun i=>(i.zero,i.size,i.bytes))=some (some (.int .i64 0),1,8):=by kernel_rfl
theorem ty_of_same {w w':World} {b:Nat} (h:w'.heap[b]? = w.heap[b]?):tyOf w' b=tyOf w b:=by unfold tyOf;rw [h]
theorem rc_keep {w w3:World} {o:Obj} {row:Option Nat} {t tc:TypeId} {rb q:Nat} {v:Value} (hg:(w.alloc o).grownBy w3 row) (hr:∀b,row=some b→tyOf w b=some t) (hc:tyOf w rb=some tc) {b:Nat} {u:TypeId} (hb:tyOf w b=some u) (h1:u≠t) (h2:u≠tc):(w3.setCell ⟨rb,q,none⟩ v).heap[b]? = w.heap[b]?:=by
  have hlt:=ty_lt hb
  rw [set_other (fun e=>by rw [e,hc] at hb;simp at hb;exact h2 hb.symm)]
  exact grown_other hg hr hlt (by rw [hb];simpa using h1)
set_option maxRecDepth 100000 in
theorem refTake_any (rb W H k:Nat) (VR:Nat→Value) (VV:Nat→Nat→Value) (NN:Nat→Nat) (LL:Nat→Nat→List (Int×Int)) (sg:Nat→Int) (vR vS:Value) (ad:Option Addr) (N cc:Nat) (A:Nat→Option Addr) (C n:Nat→Nat) (X Y K:Nat→Nat→Int) (a b c d x y t:Int) (w:World)
    (hR:Rcv w rb W H k VR VV NN LL sg vR vS) (ht:t=1∨t = -1) (hN:N≤4294967296) (hn:∀i,i<N→n i≤4294967296) (hS:Num.sumN n N≤1099511627776) (ho:OutAt w ad N A C n X Y K) :
    Calls Tryz.prog 90 #[.pointer (some ⟨rb,0,none⟩),.slice ad N cc,.agg #[.int .i64 a,.int .i64 b,.int .i64 c,.int .i64 d,.int .i64 x,.int .i64 y],.int .i64 t] w fun e w'=>e=.returned (.int .i64 (layE (traceE N n X Y K ⟨a,b,c,d,x,y⟩) k))∧Touch (rcS rb vR vS) w w' ∧
      (layE (traceE N n X Y K ⟨a,b,c,d,x,y⟩) k≠0→Rcv w' rb W H k VR VV NN LL sg vR vS) ∧
      (layE (traceE N n X Y K ⟨a,b,c,d,x,y⟩) k=0→∃v V vR' vS',Rcv w' rb W H (k+1) (fun q=>if q=k then v else VR q) (fun q=>if q=k then V else VV q) (fun q=>if q=k then N else NN q) (fun q=>if q=k then traceL n X Y K ⟨a,b,c,d,x,y⟩ else LL q) (fun q=>if q=k then t else sg q) vR' vS'∧(∀q,rcS rb vR' vS' q→rcS rb vR vS q∨w.heap.size≤q)∧∀q,v.ownBlock=some q∨(∃r,r<N∧(V r).ownBlock=some q)→w.heap.size≤q):=by
  obtain ⟨m,hm⟩:∃m:Num.Mp,m=⟨a,b,c,d,x,y⟩:=⟨_,rfl⟩
  obtain ⟨W1,hW1⟩:∃W1,W1=(w.alloc (.cells #[.int .i64 a,.int .i64 b,.int .i64 c,.int .i64 d,.int .i64 x,.int .i64 y] 40)):=⟨_,rfl⟩
  have hs1:W1.heap.size=w.heap.size+1:=by rw [hW1];simp
  have HB1:Hid (Below w.heap.size w W1):=by unfold Hid;rw [hW1];(repeat any_goals first | exact .refl _ _ | assumption | refine .drew ?_ | refine below_drewN ?_ _ | refine .setCell ?_ ?_ _ | refine .alloc ?_ ?_ _ | omega | (simp <;> omega))
  have HTr:=hide (refTrace_any ad N cc A C n X Y K a b c d x y W1 hN hn hS (ho.below HB1.out))
  rw [←hm] at HTr ⊢
  obtain ⟨TE,hTE⟩:∃TE,TE=traceE N n X Y K m:=⟨_,rfl⟩
  obtain ⟨L,hL⟩:∃L,L=traceL n X Y K m:=⟨_,rfl⟩
  have HF:Hid (TE=0→N≤16∧∀i,i<N→(L i).length≤44400∧∀p∈L i,Num.inB p.1 p.2=true):=by rw [hTE,hL];exact trace_facts
  have HTN:Hid (TE=0→traceN N n X Y K m=N):=fun h=>by unfold traceN;rw [if_pos (by rw [←hTE];exact h)]
  rw [←hTE,←hL] at HTr
  rw [←hTE,←hL]
  have HR:=hide hR
  have hbl:=hR.row.lt
  have hk:=hR.most
  obtain ⟨LE,hLE⟩:∃LE,LE=layE TE k:=⟨_,rfl⟩
  rw [←hLE]
  have HLE:=hide hLE
  clear hR ho hn hm hTE hL hLE
  go_enter Tryz.func90,Tryz.ntmps90
  go_wp2_with fail
  rw [←hW1]
  refine HTr.out.mono ?_
  rintro e w2 ⟨v,V,rfl,hb2,hSp⟩
  have hs2:=hb2.size
  have HB2:Hid (Below w.heap.size w w2):=HB1.out.trans (hb2.mono (by omega))
  have HR2:=hide (HR.out.below HB2.out)
  have HSp:=hide hSp
  clear hb2 hSp HTr hW1
  by_cases h0:TE=0
  · have hte:(TE != 0)=false:=by simp [h0]
    have HSN:=hide (by have:=HSp.out;rw [HTN.out h0] at this;exact this)
    have HF2:=hide (HF.out h0)
    obtain ⟨so,cS,hvS,haS⟩:=owns_formN HR2.out.oS
    have c3:w2.cell? ⟨rb,3,none⟩=some (.slice so k cS):=by rw [←hvS];exact HR2.out.row.cell (i:=3) (by omega)
    clear haS HSp HF HTN
    by_cases hk1:100≤k
    · have hL7:Hid (LE=7):=by unfold Hid;rw [HLE.out];unfold layE;rw [if_pos h0,if_pos hk1]
      have hd:decide ((100:Int)≤(k:Int))=true:=by simp;omega
      go_wp2
      go_ret
      exact ⟨ret_int hL7.out.symm,(Touch.refl _ w).of_below HB2.out,fun _=>HR2.out,fun e=>by rw [hL7.out] at e;simp at e⟩
    · have hL0:Hid (LE=0):=by unfold Hid;rw [HLE.out];unfold layE;rw [if_pos h0,if_neg hk1]
      have hd:decide ((100:Int)≤(k:Int))=false:=by simp;omega
      obtain ⟨ro,cR,hvR,haR⟩:=owns_formN HR2.out.oR
      have c2:w2.cell? ⟨rb,2,none⟩=some vR:=HR2.out.row.cell (i:=2) (by omega)
      have z2:=HR2.out.row.frozen 2
      have z3:=HR2.out.row.frozen 3
      have hbl2:=HR2.out.row.lt
      obtain ⟨i0,hi0,hz0,hz1,hz2⟩:=info_parts info_rgs
      obtain ⟨i8,hi8,hy0,hy1,hy2⟩:=info_parts info_i64
      obtain ⟨ys,hys⟩:∃ys,ys=(List.range k).map VR:=⟨_,rfl⟩
      obtain ⟨zs,hzs⟩:∃zs,zs=intC ((List.range k).map sg):=⟨_,rfl⟩
      have hoR:w2.ownsRow 0 95 1 vR k ys:=by rw [hys];exact HR2.out.oR
      have hoS:w2.ownsRow 0 3 1 vS k zs:=by rw [hzs];exact HR2.out.oS
      obtain ⟨vo,nv,cv,hvv⟩:∃vo nv cv,v=.slice vo nv cv:=by
        obtain ⟨q1,q2,q3,_⟩:=owns_formN HSN.out.outer
        exact ⟨q1,_,q2,q3⟩
      subst hvv
      have HY:=hide (And.intro hys hzs)
      clear hys hzs haR hvR
      go_wp2_with (at_builtin;refine wpList_append_lies _ rfl _ _ 171 rfl 0 95 i0 (.slice none 0 0) 1 24 Tryz.underlying171 hi0 hz0 hz1 hz2 rfl (by omega) vR k ys rfl (hoR.alloc _) ⟨w2.heap.size,0,none⟩ 1 1 [.slice vo nv cv] rfl rfl ?a1 ?a2 (by omega) ?a3 ?a4 ?a5 (w2.heap.size+1) (by simp) ?_)
      try (case a1=>exact news_new w2 [.slice vo nv cv] _ _ rfl)
      case a2=>first | rfl | exact one_slice _ _ _
      case a3=>unfold maxLen;omega
      case a4=>omega
      case a5=>first | omega | (simp;omega)
      intro g1 cap1 w3 hown3 hgrow3 hat3 hlt3
      have ty2:=row_ty HR2.out.row
      have hr3:∀b,vR.ownBlock=some b→tyOf w2 b=some 95:=fun b hb=>owns_ty hoR hb
      have hg1:g1≠rb:=by
        rcases hat3 with h | h
        · intro e;have:=hr3 g1 h;rw [e,ty2] at this;simp at this
        · omega
      have HK3:Hid (∀b u,tyOf w2 b=some u→u≠95→u≠173→(w3.setCell ⟨rb,2,none⟩ (.slice (some ⟨g1,0,none⟩) (k+1) cap1)).heap[b]? = w2.heap[b]?):=fun b u hb h1 h2=>rc_keep hgrow3 hr3 ty2 hb h1 h2
      have hrow3:(w3.setCell ⟨rb,2,none⟩ (.slice (some ⟨g1,0,none⟩) (k+1) cap1)).rowIs rb 173 4 (rc4 W H (.slice (some ⟨g1,0,none⟩) (k+1) cap1) vS):=rc4_set2 (HR2.out.row.of_block (grown_other hgrow3 hr3 hbl2 (by rw [ty2];decide))) _
      have hoR3:(w3.setCell ⟨rb,2,none⟩ (.slice (some ⟨g1,0,none⟩) (k+1) cap1)).ownsRow 0 95 1 (.slice (some ⟨g1,0,none⟩) (k+1) cap1) (k+1) (ys++[.slice vo nv cv]):=owns_of_block hown3 (fun b hb=>set_other (by simp [Value.ownBlock] at hb;omega))
      have hoS3:(w3.setCell ⟨rb,2,none⟩ (.slice (some ⟨g1,0,none⟩) (k+1) cap1)).ownsRow 0 3 1 vS k zs:=owns_of_block hoS (fun b hb=>HK3.out b _ (owns_ty hoS hb) (by decide) (by decide))
      have c2':=(hgrow3.cell_far ⟨rb,2,none⟩ (by simp;omega) (fun e=>by have:=hr3 rb e.symm;rw [ty2] at this;simp at this)).trans (by go_simp:_=some vR)
      have z2':=(hgrow3.frozen_far ⟨rb,2,none⟩ (by simp;omega) (fun e=>by have:=hr3 rb e.symm;rw [ty2] at this;simp at this)).trans (by go_simp:_=false)
      have c3':=(hgrow3.cell_far ⟨rb,3,none⟩ (by simp;omega) (fun e=>by have:=hr3 rb e.symm;rw [ty2] at this;simp at this)).trans (by go_simp:_=some (.slice so k cS))
      have z3':=(hgrow3.frozen_far ⟨rb,3,none⟩ (by simp;omega) (fun e=>by have:=hr3 rb e.symm;rw [ty2] at this;simp at this)).trans (by go_simp:_=false)
      have HT3:Hid (Touch (rcS rb vR vS) w (w3.setCell ⟨rb,2,none⟩ (.slice (some ⟨g1,0,none⟩) (k+1) cap1))):=by
        have t1:Touch (rcS rb vR vS) w w2:=(Touch.refl _ w).of_below HB2.out
        have t2:=(t1.alloc _).grown hgrow3 (fun b hb=>.inl (.inr (.inl hb)))
        exact t2.setCell (.inl (.inl rfl)) _
      have hs3:w2.heap.size≤w3.heap.size:=by have:=hgrow3.size;simp at this;omega
      have HRow3:=hide hrow3
      have HoR3:=hide hoR3
      have HG1:Hid (vR.ownBlock=some g1∨w.heap.size≤g1):=by
        rcases hat3 with h | h
        · exact .inl h
        · exact .inr (by have:=HB2.out.size;omega)
      rw [hvS] at hoS3
      clear hown3 hgrow3 hat3 hoR hoS hr3 hrow3 hoR3 c2 z2 c3 z3
      go_wp2_with (at_builtin;refine wpList_append_lies _ rfl _ _ 152 rfl 0 3 i8 (.int .i64 0) 1 8 Tryz.underlying152 hi8 hy0 hy1 hy2 rfl (by omega) (.slice so k cS) k zs rfl (hoS3.alloc _) ⟨w3.heap.size,0,none⟩ 1 1 [.int .i64 t] rfl rfl ?b1 ?b2 (by omega) ?b3 ?b4 ?b5 (w3.heap.size+1) (by simp) ?_)
      try (case b1=>exact news_new (w3.setCell ⟨rb,2,none⟩ (.slice (some ⟨g1,0,none⟩) (k+1) cap1)) [.int .i64 t] _ _ (by simp))
      case b2=>intro u hu;simp at hu;subst hu;rfl
      case b3=>unfold maxLen;omega
      case b4=>omega
      case b5=>first | omega | (simp;omega)
      intro g2 cap2 w4 hown4 hgrow4 hat4 hlt4
      obtain ⟨W3,hW3⟩:∃W3,W3=w3.setCell ⟨rb,2,none⟩ (.slice (some ⟨g1,0,none⟩) (k+1) cap1):=⟨_,rfl⟩
      have hs33:W3.heap.size=w3.heap.size:=by rw [hW3];simp
      rw [←hW3] at HRow3 HoR3 hoS3 HT3 HK3 hgrow4
      have ty3:=row_ty HRow3.out
      have hr4:∀b,(Value.slice so k cS).ownBlock=some b→tyOf W3 b=some 3:=fun b hb=>owns_ty hoS3 hb
      have hg2:g2≠rb:=by
        rcases hat4 with h | h
        · intro e;have:=hr4 g2 h;rw [e,ty3] at this;simp at this
        · omega
      have hrow4:(w4.setCell ⟨rb,3,none⟩ (.slice (some ⟨g2,0,none⟩) (k+1) cap2)).rowIs rb 173 4 (rc4 W H (.slice (some ⟨g1,0,none⟩) (k+1) cap1) (.slice (some ⟨g2,0,none⟩) (k+1) cap2)):=rc4_set3 (HRow3.out.of_block (grown_other hgrow4 hr4 HRow3.out.lt (by rw [ty3];decide))) _
      have hK4:∀b u,tyOf W3 b=some u→u≠3→u≠173→(w4.setCell ⟨rb,3,none⟩ (.slice (some ⟨g2,0,none⟩) (k+1) cap2)).heap[b]? = W3.heap[b]?:=fun b u hb h1 h2=>rc_keep hgrow4 hr4 ty3 hb h1 h2
      have hoR4:(w4.setCell ⟨rb,3,none⟩ (.slice (some ⟨g2,0,none⟩) (k+1) cap2)).ownsRow 0 95 1 (.slice (some ⟨g1,0,none⟩) (k+1) cap1) (k+1) (ys++[.slice vo nv cv]):=owns_of_block HoR3.out (fun b hb=>hK4 b _ (owns_ty HoR3.out hb) (by decide) (by decide))
      have hoS4:(w4.setCell ⟨rb,3,none⟩ (.slice (some ⟨g2,0,none⟩) (k+1) cap2)).ownsRow 0 3 1 (.slice (some ⟨g2,0,none⟩) (k+1) cap2) (k+1) (zs++[.int .i64 t]):=owns_of_block hown4 (fun b hb=>set_other (by simp [Value.ownBlock] at hb;omega))
      have hKK:∀b u,tyOf w2 b=some u→u≠95→u≠3→u≠173→(w4.setCell ⟨rb,3,none⟩ (.slice (some ⟨g2,0,none⟩) (k+1) cap2)).heap[b]? = w2.heap[b]?:=fun b u hb h1 h2 h3=>by
        have e3:=HK3.out b u hb h1 h3
        rw [hK4 b u (by rw [ty_of_same e3];exact hb) h2 h3,e3]
      have hRg:∀(v0:Value) (m0:Nat) (V0:Nat→Value) (L0:Nat→List (Int×Int)) (bs:Nat),SpRings w2 bs v0 m0 V0 L0→SpRings (w4.setCell ⟨rb,3,none⟩ (.slice (some ⟨g2,0,none⟩) (k+1) cap2)) bs v0 m0 V0 L0:=fun v0 m0 V0 L0 bs h=>h.of_blocks (fun b hb=>hKK b _ (owns_ty h.outer hb) (by decide) (by decide) (by decide)) (fun i hi b hb=>hKK b _ (owns_ty (h.inner i hi) hb) (by decide) (by decide) (by decide))
      have HFin:Hid (Rcv (w4.setCell ⟨rb,3,none⟩ (.slice (some ⟨g2,0,none⟩) (k+1) cap2)) rb W H (k+1) (fun q=>if q=k then .slice vo nv cv else VR q) (fun q=>if q=k then V else VV q) (fun q=>if q=k then N else NN q) (fun q=>if q=k then L else LL q) (fun q=>if q=k then t else sg q) (.slice (some ⟨g1,0,none⟩) (k+1) cap1) (.slice (some ⟨g2,0,none⟩) (k+1) cap2)):=by
        refine ⟨hrow4,?_,fun q hq=>?_,?_,fun q hq=>?_,fun q hq=>?_,by omega⟩
        · rw [range_map_snoc,range_map_congr (g:=VR) (fun j hj=>by rw [if_neg (by omega)]),if_pos rfl,←HY.out.1]
          exact hoR4
        · by_cases e:q=k
          · simp only [e,if_true]
            exact (hRg _ _ _ _ _ HSN.out).mono (by omega)
          · simp only [e,if_false]
            exact hRg _ _ _ _ _ (HR2.out.rings q (by omega))
        · rw [range_map_snoc,range_map_congr (g:=sg) (fun j hj=>by rw [if_neg (by omega)]),if_pos rfl,intC_snoc,←HY.out.2]
          exact hoS4
        · by_cases e:q=k
          · simp only [e,if_true];exact HF2.out
          · simp only [e,if_false];exact HR2.out.fits q (by omega)
        · by_cases e:q=k
          · simp only [e,if_true];exact ht
          · simp only [e,if_false];exact HR2.out.sgn q (by omega)
      have HT4:Hid (Touch (rcS rb vR vS) w (w4.setCell ⟨rb,3,none⟩ (.slice (some ⟨g2,0,none⟩) (k+1) cap2))):=by
        have t2:=(HT3.out.alloc _).grown hgrow4 (fun b hb=>.inl (.inr (.inr (by rw [hvS];exact hb))))
        exact t2.setCell (.inl (.inl rfl)) _
      have HG2:Hid (vS.ownBlock=some g2∨w.heap.size≤g2):=by
        rcases hat4 with h | h
        · exact .inl (by rw [hvS];exact h)
        · exact .inr (by have:=HB2.out.size;omega)
      have hne4:some rb≠(Value.slice so k cS).ownBlock:=fun e=>by have:=hr4 rb e.symm;rw [ty3] at this;simp at this
      have hbl3:rb<w3.heap.size:=by omega
      have c4:=(hgrow4.cell_far ⟨rb,3,none⟩ (by have:=HRow3.out.lt;simp;omega) hne4).trans (by rw [hW3];go_simp:_=some (.slice so k cS))
      have z4:=(hgrow4.frozen_far ⟨rb,3,none⟩ (by have:=HRow3.out.lt;simp;omega) hne4).trans (by rw [hW3];go_simp:_=false)
      clear hown4 hgrow4 hat4 hoS3 hr4 hrow4 hK4 hoR4 hoS4 hKK hRg hW3 hne4 HK3 HRow3 HoR3 HT3 c2' z2' c3' z3'
      go_wp2
      go_ret
      have hs1w:w.heap.size≤W1.heap.size:=HB1.out.size
      refine ⟨ret_int hL0.out.symm,HT4.out,fun e=>absurd hL0.out e,fun _=>⟨_,V,_,_,HFin.out,fun q hq=>?_,fun q hq=>?_⟩⟩
      rotate_left
      · rcases hq with hq | ⟨r,hr,hq⟩
        · have:=(HSN.out.outer.lt q hq).1;omega
        · have:=((HSN.out.inner r hr).lt q hq).1;omega
      rcases hq with rfl | hq | hq
      · exact .inl (.inl rfl)
      · simp [Value.ownBlock] at hq
        subst hq
        rcases HG1.out with h | h
        · exact .inl (.inr (.inl h))
        · exact .inr h
      · simp [Value.ownBlock] at hq
        subst hq
        rcases HG2.out with h | h
        · exact .inl (.inr (.inr h))
        · exact .inr h
  · have hte:(TE != 0)=true:=by simp [h0]
    have hLe:Hid (LE=TE):=by unfold Hid;rw [HLE.out];unfold layE;rw [if_neg h0]
    go_wp2
    go_ret
    exact ⟨ret_int hLe.out.symm,(Touch.refl _ w).of_below HB2.out,fun _=>HR2.out,fun e=>absurd (by rw [←hLe.out];exact e) h0⟩
end Go.Proofs.YtkhcjkmifddlbabGreatDoor
