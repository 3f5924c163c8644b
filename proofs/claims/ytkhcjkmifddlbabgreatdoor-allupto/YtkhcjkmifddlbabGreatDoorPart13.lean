import Derived.Test.YtkhcjkmifddlbabGreatDoorPart2
import Derived.Test.YtkhcjkmifddlbabGreatDoorPart10
import Derived.Test.YtkhcjkmifddlbabGreatDoorPart12
import Derived.Test.YtkhcjkmifddlbabGreatDoorPart8
set_option maxHeartbeats 8000000
namespace Go.Proofs.YtkhcjkmifddlbabGreatDoor
open Go.RowKit Go.Deep
theorem info_hp:(Tryz.prog.info? 127).map (fun i=>(i.zero,i.size,i.bytes))=some (some (.agg #[.slice none 0 0,.int .i64 0]),2,32):=by kernel_rfl
theorem info_ho:(Tryz.prog.info? 132).map (fun i=>(i.zero,i.size,i.bytes))=some (some (.agg #[.slice none 0 0,.int .i64 0]),2,32):=by kernel_rfl
structure Lists (w:World) (T h ob M:Nat) (B l m:Nat→Nat) (s:HS):Prop where
  outer:w.rowIs ob 125 M (fun i=>.slice (some ⟨B i,0,none⟩) (l i) (m i))
  inner:∀i,i<M→∃f,w.rowIs (B i) 129 (m i*3) f
  geO:T≤ob
  geB:∀i,i<M→T≤B i
  inj:∀i j,i<M→j<M→B i=B j→i=j
  und:s.Under T
  hT:h≤T
  le:∀i,i<M→l i≤m i∧m i≤4294967297
theorem Lent.lists {w:World} {base ob N h:Nat} {B n:Nat→Nat} {X Y K:Nat→Nat→Int} {s:HS} (hl:Lent w base ob N B n X Y K) (hu:s.Under base) (hh:h≤base) (hn:∀i,i<N→n i≤4294967295) :
    Lists w base h ob (N+2) B (ln N n) (fun i=>ln N n i+2) s:=
  ⟨hl.outer,fun i hi=>⟨_,hl.inner i hi⟩,hl.ge,hl.geB,hl.inj,hu,hh,fun i hi=>⟨by omega,by
    unfold ln;split
    · rename_i h;have:=hn i h;omega
    · omega⟩⟩
def outS (h ob M:Nat) (B:Nat→Nat) (s:HS) (b:Nat):Prop:=b=h∨b=ob∨(∃i,i<M∧b=B i)∨s.vP.ownBlock=some b∨s.vO.ownBlock=some b
def stP (s:HS) (B m:Nat→Nat) (v:Value) (i:Nat):HS:={ s with n:=s.n+i,vP:=v,P:=s.P++(List.range i).map fun j=>(B j,m j,s.n+1+(j:Int)) }
theorem stP_zero (s:HS) (B m:Nat→Nat):stP s B m s.vP 0=s:=by simp [stP]
theorem range_snoc {α:Type} (f:Nat→α) (i:Nat):(List.range (i+1)).map f=(List.range i).map f++[f i]:=by
  rw [List.range_succ,List.map_append];rfl
theorem stP_ne {w:World} {h i M T:Nat} {s:HS} {B m:Nat→Nat} {v:Value} {k:Int} (H:HeldInv w h { stP s B m v i with n:=k }) (hu:s.Under T) (hge:∀i,i<M→T≤B i) (hinj:∀i j,i<M→j<M→B i=B j→i=j) (hi:i<M)
    {b:Nat} (u:Used h { stP s B m v i with n:=k } b) (hty:tyOf w (B i)=some 129):b≠B i:=by
  intro e
  subst e
  have hT:=hge i hi
  rcases H.used_pt u hty with ⟨x,hx,hb⟩ | ⟨x,hx,j,hj,hb⟩
  · rcases List.mem_append.1 hx with hx | hx
    · have:=hu.1 x hx;omega
    · simp at hx
      obtain ⟨j,hj,rfl⟩:=hx
      have:=hinj j i (by omega) hi hb
      omega
  · have:=(hu.2.1 x hx).2 j hj;omega
theorem mark_step {wr:World} {b m k:Nat} {t:TypeId} {g:Nat→Value} {n:Int} (o:Obj) (h:wr.rowIs b t (m*3) g) (hg:∀q,q<k*3→g q=mkP n q) :
    ∃g',((((wr.setCell ⟨b,k*3,none⟩ (.int .i64 (2199023255552+n))).setCell ⟨b,k*3+1,none⟩ (.int .i64 (-7))).setCell ⟨b,k*3+2,none⟩ (.int .i64 9)).alloc o).rowIs b t (m*3) g'∧∀q,q<(k+1)*3→g' q=mkP n q:=by
  refine ⟨_,(((h.set (k*3) _).set (k*3+1) _).set (k*3+2) _).alloc o,fun q hq=>?_⟩
  by_cases e2:q=k*3+2
  · subst e2;rw [if_pos rfl];unfold mkP;rw [pc2]
  rw [if_neg e2]
  by_cases e1:q=k*3+1
  · subst e1;rw [if_pos rfl];unfold mkP;rw [pc1]
  rw [if_neg e1]
  by_cases e0:q=k*3
  · subst e0;rw [if_pos rfl];unfold mkP;rw [pc0]
  rw [if_neg e0]
  exact hg q (by omega)
theorem stP_succ (s:HS) (B m:Nat→Nat) (v v':Value) (i:Nat) :
    ({ ({ stP s B m v i with n:=s.n+(i:Int)+1 }:HS) with vP:=v',P:=(stP s B m v i).P++[(B i,m i,s.n+(i:Int)+1)] }:HS)=stP s B m v' (i+1):=by
  unfold stP
  rw [range_snoc]
  simp only [HS.mk.injEq,List.append_assoc,true_and,and_true,List.append_cancel_left_eq,List.cons.injEq,Prod.mk.injEq]
  omega
theorem outline_push {T h ob M i g cap:Nat} {B l m:Nat→Nat} {s:HS} {v:Value} {w wo w1 wr w2:World} {o:Obj} {xs:List Value} (L:Lists w T h ob M B l m s) (hlt:i<M) (HT:Touch (outS h ob M B s) w wo)
    (HW:v.ownBlock=s.vP.ownBlock∨∃g,v.ownBlock=some g∧w.heap.size≤g) (HI:HeldInv wo h (stP s B m v i))
    (HO:wo.rowIs ob 125 M (fun i=>.slice (some ⟨B i,0,none⟩) (l i) (m i))) (HR:∀j,i≤j→j<M→∃f,wo.rowIs (B j) 129 (m j*3) f)
    (HT1:Touch (fun b=>b=h) wo w1) (HQ:Touch (fun b=>b=B i) w1 wr) (HIw:HeldInv wr h { stP s B m v i with n:=s.n+i+1 })
    (hro:wr.rowIs (B i) 129 (m i*3) (mkP (s.n+i+1))) (hxs:xs=(stP s B m v i).P.flatMap peC)
    (hown:w2.ownsRow h 127 2 (.slice (some ⟨g,0,none⟩) (s.P.length+i+1) cap) (s.P.length+i+1) (xs++[.slice (some ⟨B i,0,none⟩) (m i) (m i),.int .i64 (s.n+i+1)]))
    (hg:(wr.alloc o).grownBy w2 v.ownBlock) (hat:v.ownBlock=some g∨g=wr.heap.size+1) :
    Touch (outS h ob M B s) w (w2.setCell ⟨h,3,none⟩ (.slice (some ⟨g,0,none⟩) (s.P.length+i+1) cap))∧HeldInv (w2.setCell ⟨h,3,none⟩ (.slice (some ⟨g,0,none⟩) (s.P.length+i+1) cap)) h (stP s B m (.slice (some ⟨g,0,none⟩) (s.P.length+i+1) cap) (i+1)) ∧
      ((Value.slice (some ⟨g,0,none⟩) (s.P.length+i+1) cap).ownBlock=s.vP.ownBlock∨∃g',(Value.slice (some ⟨g,0,none⟩) (s.P.length+i+1) cap).ownBlock=some g'∧w.heap.size≤g') ∧
      (w2.setCell ⟨h,3,none⟩ (.slice (some ⟨g,0,none⟩) (s.P.length+i+1) cap)).rowIs ob 125 M (fun i=>.slice (some ⟨B i,0,none⟩) (l i) (m i)) ∧
      (∀j,i+1≤j→j<M→∃f,(w2.setCell ⟨h,3,none⟩ (.slice (some ⟨g,0,none⟩) (s.P.length+i+1) cap)).rowIs (B j) 129 (m j*3) f):=by
  have hplen:(stP s B m v i).P.length=s.P.length+i:=by simp [stP]
  have hr:∀b,v.ownBlock=some b→tyOf wr b=some 127:=fun b hb=>owns_ty HIw.oP hb
  have hh:=row_ty HIw.wd
  have hBh:∀j,i≤j→j<M→B j≠h:=fun j h1 h2=>by
    obtain ⟨f,hf⟩:=HR j h1 h2
    exact row_ne hf HI.wd (by decide)
  have hoh:ob≠h:=row_ne HO HI.wd (by decide)
  have hoB:ob≠B i:=by
    obtain ⟨f,hf⟩:=HR i (Nat.le_refl _) hlt
    exact row_ne HO hf (by decide)
  have hsw:w.heap.size≤wr.heap.size:=Nat.le_trans HT.size (Nat.le_trans HT1.size HQ.size)
  have hlo:((stP s B m v i).P.length:Int)+(stP s B m v i).O.length+(stP s B m v i).S.length+(stP s B m v i).T.length+(stP s B m v i).R.length+(stP s B m v i).B.length≤(stP s B m v i).n:=HI.lo
  refine ⟨?_,?_,?_,?_,?_⟩
  · have t1:=HT.trans' HT1 (fun x hx=>.inl (.inl hx))
    have t2:=t1.trans' HQ (fun x hx=>.inl (.inr (.inr (.inl ⟨i,hlt,hx⟩))))
    have t3:=(t2.alloc o).grown hg (fun b hb=>by
      rcases HW with HW | ⟨g',h1,h2⟩
      · exact .inl (.inr (.inr (.inr (.inl (HW ▸ hb)))))
      · rw [h1] at hb;simp at hb;subst hb;exact .inr h2)
    exact t3.setCell (.inl (.inl rfl)) _
  · have:=HeldInv.pushP (b:=B i) (m:=m i) (g:=g) (cap:=cap) HIw hro (by have:=(L.le i hlt).2;omega) (by show ((stP s B m v i).P.length:Int)+(stP s B m v i).O.length+(stP s B m v i).S.length+(stP s B m v i).T.length+(stP s B m v i).R.length+(stP s B m v i).B.length+1≤s.n+i+1;have e:(stP s B m v i).n=s.n+i:=rfl;omega)
      (by show w2.ownsRow h _ 2 (.slice _ ((stP s B m v i).P.length+1) cap) ((stP s B m v i).P.length+1) ((stP s B m v i).P.flatMap peC++_);rw [hplen,←hxs];exact hown) hg hat
    have e:=stP_succ s B m v (.slice (some ⟨g,0,none⟩) (s.P.length+i+1) cap) i
    rw [←e]
    have e2:((stP s B m v i).P.length+1)=s.P.length+i+1:=by rw [hplen]
    simp only [e2] at this
    exact this
  · rcases hat with hat | hat
    · rcases HW with HW | ⟨g',h1,h2⟩
      · left;rw [←HW,hat];rfl
      · right;rw [hat] at h1;exact ⟨g',by simpa [Value.ownBlock] using h1,h2⟩
    · right;exact ⟨g,rfl,by omega⟩
  · exact row_of_step hg hr hh (HQ.row (HT1.row HO hoh) hoB) (by decide) (by decide)
  · intro j h1 h2
    obtain ⟨f,hf⟩:=HR j (by omega) h2
    exact ⟨f,row_of_step hg hr hh (HQ.row (HT1.row hf (hBh j (by omega) h2)) (fun e=>by have:=L.inj j i h2 hlt e;omega)) (by decide) (by decide)⟩
theorem mkP_cells (n:Int) (w:World) (t:TypeId):(w.alloc (.cells #[.int .i64 (2199023255552+n),.int .i64 (-7),.int .i64 9] t)).rowIs w.heap.size t 3 (mkP n):=by
  refine World.rowIs_alloc w #[.int .i64 (2199023255552+n),.int .i64 (-7),.int .i64 9] t (mkP n) (fun i hi=>?_)
  have hi:i<3:=hi
  rcases (show i=0∨i=1∨i=2 by omega) with rfl | rfl | rfl <;> rfl
theorem out_step {w1 wr:World} {ob M k:Nat} {F B l m:Nat→Nat} {n:Int} {o:Obj} (hT:Touch (fun b=>b=ob) w1 wr)
    (hrow:wr.rowIs ob 125 M (fun j=>if j<k then .slice (some ⟨F j,0,none⟩) 1 1 else .slice (some ⟨B j,0,none⟩) (l j) (m j)))
    (hF:∀j,j<k→w1.heap.size≤F j∧wr.rowIs (F j) 129 3 (mkP n)) :
    Touch (fun b=>b=ob) w1 (((wr.setCell ⟨ob,k,none⟩ (.slice (some ⟨wr.heap.size+1,0,none⟩) 1 1)).alloc o).alloc (.cells #[.int .i64 (2199023255552+n),.int .i64 (-7),.int .i64 9] 129)) ∧
    ∃F':Nat→Nat,(((wr.setCell ⟨ob,k,none⟩ (.slice (some ⟨wr.heap.size+1,0,none⟩) 1 1)).alloc o).alloc (.cells #[.int .i64 (2199023255552+n),.int .i64 (-7),.int .i64 9] 129)).rowIs ob 125 M (fun j=>if j<k+1 then .slice (some ⟨F' j,0,none⟩) 1 1 else .slice (some ⟨B j,0,none⟩) (l j) (m j)) ∧
      ∀j,j<k+1→w1.heap.size≤F' j∧(((wr.setCell ⟨ob,k,none⟩ (.slice (some ⟨wr.heap.size+1,0,none⟩) 1 1)).alloc o).alloc (.cells #[.int .i64 (2199023255552+n),.int .i64 (-7),.int .i64 9] 129)).rowIs (F' j) 129 3 (mkP n):=by
  have hs:=hT.size
  refine ⟨((hT.setCell (.inl (by rfl)) _).alloc _).alloc _,fun j=>if j=k then wr.heap.size+1 else F j,?_,?_⟩
  · refine (((hrow.set k _).alloc _).alloc _).congr fun j hj=>?_
    by_cases e:j=k
    · subst e;simp
    · by_cases e2:j<k
      · simp [e,e2,show j<k+1 by omega]
      · simp [e,e2,show ¬j<k+1 by omega]
  · intro j hj
    by_cases e:j=k
    · subst e
      simp only [if_pos]
      refine ⟨by omega,?_⟩
      have:=mkP_cells n ((wr.setCell ⟨ob,j,none⟩ (.slice (some ⟨wr.heap.size+1,0,none⟩) 1 1)).alloc o) 129
      rw [nblk_alloc,nblk_setCell] at this
      exact this
    · simp only [if_neg e]
      obtain ⟨h1,h2⟩:=hF j (by omega)
      exact ⟨h1,((h2.setOther (by simpa using row_ne h2 hrow (by decide)) _).alloc _).alloc _⟩
theorem stP_ne_ob {w:World} {h i ob T:Nat} {s:HS} {B m:Nat→Nat} {v:Value} {k:Int} (H:HeldInv w h { stP s B m v i with n:=k }) (hu:s.Under T) (hge:T≤ob)
    {b:Nat} (u:Used h { stP s B m v i with n:=k } b) (hty:tyOf w ob=some 125):b≠ob:=by
  intro e
  subst e
  obtain ⟨x,hx,hb⟩:=H.used_pts u hty
  have:=(hu.2.1 x hx).1
  omega
theorem outline_full (T h ob N M:Nat) (B l m:Nat→Nat) (s:HS) (w:World) (hM:M≤4294967297) (H:HeldInv w h s) (L:Lists w T h ob M B l m s) (hn:s.n+M+1≤1099511627776) (hNM:N≤M) :
    Calls Tryz.prog 26 #[.pointer (some ⟨h,2,none⟩),.slice (some ⟨ob,0,none⟩) N M] w fun e w'=>e=.returned (.tuple #[])∧Touch (outS h ob M B s) w w'∧∃s',HeldInv w' h s'∧s'.n=s.n+M+1∧s'.cs=s.cs∧s'.rs=s.rs∧s'.S=s.S∧s'.vS=s.vS∧s'.T=s.T∧s'.vT=s.vT∧s'.R=s.R∧s'.vR=s.vR∧s'.B=s.B∧s'.vB=s.vB∧∀q,Used h s' q→Used h s q∨outS h ob M B s q∨w.heap.size≤q:=by
  have HH:=hide H
  have HL:=hide L
  have l0:0≤s.n:=by have:=H.lo;omega
  clear H L
  go_enter Tryz.func26,Tryz.ntmps26
  go_wp2_with fail
  go_loopw [5] (fun t wr=>∃(i:Nat) (v:Value),i≤M∧t=.int .i64 i∧Touch (outS h ob M B s) w wr∧HeldInv wr h (stP s B m v i)∧(v.ownBlock=s.vP.ownBlock∨∃g,v.ownBlock=some g∧w.heap.size≤g)
      ∧ wr.rowIs ob 125 M (fun i=>.slice (some ⟨B i,0,none⟩) (l i) (m i))∧(∀j,i≤j→j<M→∃f,wr.rowIs (B j) 129 (m j*3) f)) (fun t _=>M-(intOf t).toNat)
  case atStart=>exact ⟨0,s.vP,by omega,rfl,Touch.refl _ _,by rw [stP_zero];exact HH.out,.inl rfl,HL.out.outer,fun j _ hj=>HL.out.inner j hj⟩
  case round=>
    obtain ⟨wo,rfl⟩:∃wo,wo=wr:=⟨wr,rfl⟩
    obtain ⟨i,v,hi,rfl,hto,hinv,hown,hout,hrest⟩:=hrel
    by_cases hlt:i<M
    · obtain ⟨hle1,hle2⟩:=HL.out.le i hlt
      have oi:=hout.cell (i:=i) hlt
      have hd1:decide ((i:Int)<(M:Int))=true:=by simp;omega
      have g0:(0:Int)≤(i:Int):=by omega
      have g1:(i:Int)<(M:Int):=by omega
      have HI:=hide hinv
      have HR:=hide hrest
      have HO:=hide hout
      have HW:=hide hown
      have HT:=hide hto
      clear hinv hrest hout hown hto
      go_wp2_with fail
      go_quiet (fail)
      go_wp2_with fail
      have HI2:HeldInv (wo.drewN nq) h (stP s B m v i):=HI.out.of_blocks fun b _=>rfl
      refine (mark_any h _ _ HI2 (by show s.n+i+1≤_;omega)).mono ?_
      rintro e w1 ⟨rfl,hw1⟩
      have HI3:=hide (HI2.marked (by show s.n+i+1≤_;omega))
      have hT1:Touch (fun b=>b=h) wo w1:=by rw [hw1];exact Touch.setCell (S:=fun b=>b=h) ((Touch.refl _ _).drewN nq) (.inl (by rfl)) _
      have hI1:HeldInv w1 h { stP s B m v i with n:=s.n+i+1 }:=by rw [hw1];exact HI3.out
      have hv1:(stP s B m v i).n+1=s.n+i+1:=rfl
      rw [hv1]
      clear hw1 HI3 HI2 hv1
      have hBh:B i≠h:=by
        obtain ⟨f,hf⟩:=HR.out i (Nat.le_refl _) hlt
        exact row_ne hf HI.out.wd (by decide)
      have hBo:∀j,j<M→i≤j→B j≠ob:=fun j hj hij=>by
        obtain ⟨f,hf⟩:=HR.out j hij hj
        exact row_ne hf HO.out (by decide)
      have hoh:ob≠h:=row_ne HO.out HI.out.wd (by decide)
      obtain ⟨f0,hf0⟩:=HR.out i (Nat.le_refl _) hlt
      have hf1:=hide (hT1.row hf0 hBh)
      have HI1:=hide hI1
      have HT1:=hide hT1
      have HH2:=hide (And.intro hBh (And.intro hBo hoh))
      clear hf0 hI1 hT1 hBh hBo hoh
      obtain ⟨mk,hmk⟩:∃mk,mk=s.n+(i:Int)+1:=⟨_,rfl⟩
      rw [←hmk]
      have m0:0≤mk:=by omega
      have m1:mk≤1099511627776:=by omega
      have HM:=hide hmk
      clear hmk
      go_wp2_with fail
      go_loopw [8] (fun t wr=>∃k:Nat,k≤m i∧t=.int .i64 k∧Touch (fun b=>b=B i) w1 wr∧∃g,wr.rowIs (B i) 129 (m i*3) g∧∀q,q<k*3→g q=mkP mk q) (fun t _=>m i-(intOf t).toNat)
      case atStart=>exact ⟨0,by omega,rfl,Touch.refl _ _,_,hf1.out,by omega⟩
      case round=>
        obtain ⟨k,hk,rfl,hq,g,hrow,hg⟩:=hrel
        by_cases hkm:k<m i
        · have c0:=hrow.cell (i:=k*3) (by omega)
          have c1:=hrow.cell (i:=k*3+1) (by omega)
          have c2:=hrow.cell (i:=k*3+2) (by omega)
          have z0:=hrow.frozen (k*3)
          have z1:=hrow.frozen (k*3+1)
          have z2:=hrow.frozen (k*3+2)
          have hbl:=hrow.lt
          have hd2:decide ((k:Int)<(m i:Int))=true:=by simp;omega
          have HS:=hide (mark_step (.cells #[.int .i64 (2199023255552+mk),.int .i64 (-7),.int .i64 9] 129) hrow hg)
          have HQ:=hide hq
          clear hrow hg hq
          go_wp2_with fail
          refine (markPoint_any _ _ m0 m1).mono ?_
          rintro e w2 ⟨rfl,rfl⟩
          go_wp2
          go_roundw
          case rel=>exact ⟨k+1,by omega,by go_num,(((HQ.out.setCell (.inl (by rfl)) _).setCell (.inl (by rfl)) _).setCell (.inl (by rfl)) _).alloc _,HS.out⟩
          case measure=>simp [intOf];omega
        · have e:k=m i:=by omega
          subst e
          have hro:=hide (hrow.congr hg)
          have hIw:HeldInv wr h { stP s B m v i with n:=s.n+i+1 }:=HI1.out.of_blocks fun b u=>hq.block b (HI1.out.used_lt u) (stP_ne HI1.out HL.out.und HL.out.geB HL.out.inj hlt u (row_ty hf1.out))
          clear hrow hg
          have HIw:=hide hIw
          clear hIw
          have HQ:=hide hq
          clear hq
          have c3:wr.cell? ⟨h,2+1,none⟩=some v:=by rw [HIw.out.wd.cell (by omega)];rfl
          have z3:=HIw.out.wd.frozen 3
          have hhl:=HIw.out.wd.lt
          obtain ⟨i0,hi0,hz0,hz1,hz2⟩:=info_parts info_hp
          obtain ⟨xs,hxs⟩:∃xs,xs=(stP s B m v i).P.flatMap peC:=⟨_,rfl⟩
          have hoP:wr.ownsRow h 127 2 v (s.P.length+i) xs:=by
            have:=HIw.out.oP
            have e:(stP s B m v i).P.length=s.P.length+i:=by simp [stP]
            rw [hxs,←e];exact this
          have HX:=hide hxs
          clear hxs
          have hplen:((s.P.length:Int))+i≤1099511627776:=by
            have hlo:=HIw.out.lo
            simp [stP] at hlo;omega
          go_wp2_with (at_builtin;refine wpList_append_lies _ rfl _ _ 28 rfl h 127 i0 (.agg #[.slice none 0 0,.int .i64 0]) 2 32 Tryz.underlying28 hi0 hz0 hz1 hz2 rfl (by omega) v (s.P.length+i) xs rfl (hoP.alloc _) ⟨wr.heap.size,0,none⟩ 1 1 [.slice (some ⟨B i,0,none⟩) (m i) (m i),.int .i64 mk] rfl rfl ?c1 ?c2 (by omega) ?c3 ?c4 ?c5 (wr.heap.size+1) (by simp) ?_)
          case c2=>exact ⟨rfl,rfl⟩
          case c3=>unfold maxLen;omega
          case c4=>omega
          case c5=>omega
          intro g1 cap w2 hown2 hgrow hat hlt2
          rw [HM.out] at hown2
          have HP:=hide (outline_push HL.out hlt HT.out HW.out HI.out HO.out HR.out HT1.out HQ.out HIw.out (by rw [←HM.out];exact hro.out) HX.out hown2 hgrow hat)
          have hty:some h≠v.ownBlock:=fun e=>by
            have:=owns_ty hoP e.symm
            rw [row_ty HIw.out.wd] at this
            simp at this
          have c3':=(hgrow.cell_far ⟨h,2+1,none⟩ (by simp;omega) hty).trans (by go_simp:_=some v)
          have z3':=(hgrow.frozen_far ⟨h,3,none⟩ (by simp;omega) hty).trans (by go_simp:_=false)
          clear hown2 hgrow hat hty hoP
          go_wp2
          go_roundw
          case rel=>exact ⟨i+1,_,by omega,by go_num,HP.out⟩
          case measure=>simp [intOf];omega
    · have e:i=M:=by omega
      subst e
      have hd1:decide ((i:Int)<(i:Int))=false:=by simp
      have HI:=hide hinv
      have HO:=hide hout
      have HW:=hide hown
      have HT:=hide hto
      clear hinv hrest hout hown hto
      go_wp2_with fail
      refine (mark_any h _ _ HI.out (by show s.n+i+1≤_;omega)).mono ?_
      rintro e w1 ⟨rfl,hw1⟩
      have HI3:=hide (HI.out.marked (by show s.n+i+1≤_;omega))
      have hT1:Touch (fun b=>b=h) wo w1:=by rw [hw1];exact Touch.setCell (S:=fun b=>b=h) (Touch.refl _ _) (.inl (by rfl)) _
      have hI1:HeldInv w1 h { stP s B m v i with n:=s.n+i+1 }:=by rw [hw1];exact HI3.out
      have hv1:(stP s B m v i).n+1=s.n+i+1:=rfl
      rw [hv1]
      clear hw1 HI3 hv1
      have hoh:ob≠h:=row_ne HO.out HI.out.wd (by decide)
      have hO1:=hide (hT1.row HO.out hoh)
      have HI1:=hide hI1
      have HT1:=hide hT1
      clear hI1 hT1
      obtain ⟨mk,hmk⟩:∃mk,mk=s.n+(i:Int)+1:=⟨_,rfl⟩
      rw [←hmk]
      have m0:0≤mk:=by omega
      have m1:mk≤1099511627776:=by omega
      have HM:=hide hmk
      clear hmk
      go_wp2_with fail
      go_loopw [10] (fun t wr=>∃k:Nat,k≤i∧t=.int .i64 k∧Touch (fun b=>b=ob) w1 wr∧∃F:Nat→Nat,wr.rowIs ob 125 i (fun j=>if j<k then .slice (some ⟨F j,0,none⟩) 1 1 else .slice (some ⟨B j,0,none⟩) (l j) (m j)) ∧
          ∀j,j<k→w1.heap.size≤F j∧wr.rowIs (F j) 129 3 (mkP mk)) (fun t _=>i-(intOf t).toNat)
      case atStart=>exact ⟨0,by omega,rfl,Touch.refl _ _,fun _=>0,hO1.out.congr (fun j _=>by simp),by omega⟩
      case round=>
        obtain ⟨k,hk,rfl,hq,F,hrow,hF⟩:=hrel
        by_cases hki:k<i
        · have c0:=hrow.cell (i:=k) hki
          have z0:=hrow.frozen k
          have hbl:=hrow.lt
          have hd2:decide ((k:Int)<(i:Int))=true:=by simp;omega
          have HS:=hide (out_step (o:=.cells #[.int .i64 (2199023255552+mk),.int .i64 (-7),.int .i64 9] 129) hq hrow hF)
          clear hrow hq hF
          go_wp2_with fail
          refine (markPoint_any _ _ m0 m1).mono ?_
          rintro e w2 ⟨rfl,rfl⟩
          go_wp2
          go_roundw
          case rel=>exact ⟨k+1,by omega,by go_num,HS.out⟩
          case measure=>simp [intOf];omega
        · have e:k=i:=by omega
          subst e
          have hro:=hide (hrow.congr (g:=fun j=>.slice (some ⟨F j,0,none⟩) 1 1) (fun j hj=>by simp [hj]))
          have hIw:HeldInv wr h { stP s B m v k with n:=s.n+k+1 }:=HI1.out.of_blocks fun b u=>hq.block b (HI1.out.used_lt u) (stP_ne_ob HI1.out HL.out.und HL.out.geO u (row_ty hO1.out))
          have HF:=hide hF
          clear hrow hF
          have HIw:=hide hIw
          clear hIw
          have HQ:=hide hq
          clear hq
          have c4:wr.cell? ⟨h,2+2,none⟩=some s.vO:=by rw [HIw.out.wd.cell (by omega)];rfl
          have z4:=HIw.out.wd.frozen 4
          have hhl:=HIw.out.wd.lt
          obtain ⟨i0,hi0,hz0,hz1,hz2⟩:=info_parts info_ho
          obtain ⟨xs,hxs⟩:∃xs,xs=s.O.flatMap oeC:=⟨_,rfl⟩
          have hoO:wr.ownsRow h 132 2 s.vO s.O.length xs:=by
            rw [hxs];exact HIw.out.oO
          have HX:=hide hxs
          clear hxs
          have hplen:(s.O.length:Int)≤1099511627776:=by
            have hlo:=HIw.out.lo
            simp [stP] at hlo;omega
          go_wp2_with (at_builtin;refine wpList_append_lies _ rfl _ _ 29 rfl h 132 i0 (.agg #[.slice none 0 0,.int .i64 0]) 2 32 Tryz.underlying29 hi0 hz0 hz1 hz2 rfl (by omega) s.vO s.O.length xs rfl (hoO.alloc _) ⟨wr.heap.size,0,none⟩ 1 1 [.slice (some ⟨ob,0,none⟩) k k,.int .i64 mk] rfl rfl ?d1 ?d2 (by omega) ?d3 ?d4 ?d5 (wr.heap.size+1) (by simp) ?_)
          case d2=>exact ⟨rfl,rfl⟩
          case d3=>unfold maxLen;omega
          case d4=>omega
          case d5=>omega
          intro g1 cap w2 hown2 hgrow hat hlt2
          rw [HM.out,HX.out] at hown2
          have hty:some h≠s.vO.ownBlock:=fun e=>by
            have:=owns_ty hoO e.symm
            rw [row_ty HIw.out.wd] at this
            simp at this
          have hI2:HeldInv (w2.setCell ⟨h,4,none⟩ (.slice (some ⟨g1,0,none⟩) (s.O.length+1) cap)) h { ({ stP s B m v k with n:=s.n+k+1 }:HS) with vO:=.slice (some ⟨g1,0,none⟩) (s.O.length+1) cap,O:=s.O++[(ob,k,F,s.n+k+1)] }:=
            HeldInv.pushO (b:=ob) (m:=k) (g:=g1) (cap:=cap) (F:=F) HIw.out hro.out (fun j hj=>by rw [←HM.out];exact (HF.out j hj).2) (by omega) (by have:=HI.out.lo;simp [stP] at this ⊢;omega) hown2 hgrow hat
          have hT2:Touch (outS h ob k B s) w (w2.setCell ⟨h,4,none⟩ (.slice (some ⟨g1,0,none⟩) (s.O.length+1) cap)):=by
            have t1:=HT.out.trans' HT1.out (fun x hx=>.inl (.inl hx))
            have t2:=t1.trans' HQ.out (fun x hx=>.inl (.inr (.inl hx)))
            have t3:=(t2.alloc _).grown hgrow (fun b hb=>.inl (.inr (.inr (.inr (.inr hb)))))
            exact t3.setCell (.inl (.inl (by rfl))) _
          have HU2:Hid (∀q,Used h { ({ stP s B m v k with n:=s.n+k+1 }:HS) with vO:=.slice (some ⟨g1,0,none⟩) (s.O.length+1) cap,O:=s.O++[(ob,k,F,s.n+k+1)] } q→Used h s q∨outS h ob k B s q∨w.heap.size≤q):=by
            intro q u
            have e1:=HT.out.size
            have e2:=HT1.out.size
            have e3:=HQ.out.size
            rcases u with u | u | u | u | ⟨x,hx,u⟩ | ⟨x,hx,u⟩ | ⟨x,hx,j,hj,u⟩ | u
            · exact .inl (.inl u)
            · rcases HW.out with h1 | ⟨g,h1,h2⟩
              · exact .inl (.inr (.inl (by rw [←h1];exact u)))
              · have u:v.ownBlock=some q:=u
                rw [h1] at u;simp at u;subst u;exact .inr (.inr h2)
            · have u:g1=q:=by simpa [Value.ownBlock] using u
              subst u
              rcases hat with h1 | h1
              · exact .inl (.inr (.inr (.inl h1)))
              · exact .inr (.inr (by omega))
            · exact .inl (.inr (.inr (.inr (.inl u))))
            · rcases List.mem_append.1 (show x∈s.P++_ from hx) with h1 | h1
              · exact .inl (.inr (.inr (.inr (.inr (.inl ⟨x,h1,u⟩)))))
              · obtain ⟨j,hj,rfl⟩:=List.mem_map.1 h1
                exact .inr (.inl (.inr (.inr (.inl ⟨j,List.mem_range.1 hj,u.symm⟩))))
            · rcases List.mem_append.1 hx with h1 | h1
              · exact .inl (.inr (.inr (.inr (.inr (.inr (.inl ⟨x,h1,u⟩))))))
              · rw [List.mem_singleton.1 h1] at u
                exact .inr (.inl (.inr (.inl u.symm)))
            · rcases List.mem_append.1 hx with h1 | h1
              · exact .inl (.inr (.inr (.inr (.inr (.inr (.inr (.inl ⟨x,h1,j,hj,u⟩)))))))
              · rw [List.mem_singleton.1 h1] at u hj
                have:=(HF.out j hj).1
                have u:F j=q:=u
                exact .inr (.inr (by omega))
            · exact .inl (.inr (.inr (.inr (.inr (.inr (.inr (.inr u)))))))
          have HI2:=hide hI2
          have HT2:=hide hT2
          have c4':=(hgrow.cell_far ⟨h,2+2,none⟩ (by simp;omega) hty).trans (by go_simp:_=some s.vO)
          have z4':=(hgrow.frozen_far ⟨h,4,none⟩ (by simp;omega) hty).trans (by go_simp:_=false)
          clear hown2 hgrow hat hty hoO hI2 hT2
          go_wp2
          go_end0
          exact ⟨rfl,HT2.out,_,HI2.out,rfl,rfl,rfl,rfl,rfl,rfl,rfl,rfl,rfl,rfl,rfl,HU2.out⟩
theorem outS_used {h ob M B0:Nat} {B:Nat→Nat} {s:HS} (ho:B0≤ob) (hB:∀i,i<M→B0≤B i) {b:Nat} (hb:outS h ob M B s b):Used h s b∨B0≤b:=by
  rcases hb with rfl | rfl | ⟨i,hi,rfl⟩ | hb | hb
  · exact .inl (.inl rfl)
  · exact .inr ho
  · exact .inr (hB i hi)
  · exact .inl (.inr (.inl hb))
  · exact .inl (.inr (.inr (.inl hb)))
theorem outS_ge {w:World} {h ob M B0:Nat} {B:Nat→Nat} {s:HS} (H:HeldInv w h s) (hh:B0≤h) (ho:B0≤ob) (hB:∀i,i<M→B0≤B i) {b:Nat} (hb:outS h ob M B s b):B0≤b:=by
  rcases hb with rfl | rfl | ⟨i,hi,rfl⟩ | hb | hb
  · exact hh
  · exact ho
  · exact hB i hi
  · have:=(H.oP.lt b hb).1;omega
  · have:=(H.oO.lt b hb).1;omega
theorem checks_any (a:Option Addr) (N c h:Nat) (A:Nat→Option Addr) (C n:Nat→Nat) (X Y K:Nat→Nat→Int) (s:HS) (w0 w:World) (hN:N≤2097152) (hn:∀i,i<N→n i≤2097152) (hS:Num.sumN n N≤1099511627776)
    (ho:OutAt w0 a N A C n X Y K) (hb0:Below w0.heap.size w0 w) (hh:w0.heap.size≤h) (H:HeldInv w h s) (hs:s.n+N+3≤1099511627776) :
    Calls Tryz.prog 7 #[.pointer (some ⟨h,0,none⟩),.slice a N c] w fun e w'=>e=.returned (.bool true)∧Below w0.heap.size w w'∧∃s',HeldInv w' h s'∧s'.n=s.n+N+3∧s'.cs=s.cs∧s'.rs=s.rs∧Touch (Used h s) w w'∧NewUsed w.heap.size h s s':=by
  have hn1:∀i,i<N→n i≤4294967295:=fun i hi=>by have:=hn i hi;omega
  have hn2:∀i,i<N→n i≤4294967296:=fun i hi=>by have:=hn i hi;omega
  have hsz0:=hb0.size
  have hhw:=H.wd.lt
  have HH:=hide H
  have HN1:=hide hn1
  have HN2:=hide hn2
  have HO:=hide (ho.below hb0)
  clear H hn1 hn2 ho hn hb0
  go_enter Tryz.func7,Tryz.ntmps7
  go_wp2_with fail
  refine (lend_any _ _ _ A C n X Y K _ (by omega) HN1.out HO.out).mono ?_
  rintro e w1 ⟨rfl,hb1,B,hL⟩
  have HL:=hide hL
  have HB1:=hide hb1
  have hs1:=hb1.size
  clear hL hb1
  go_wp2_with fail
  refine (glyphCheck_any _ _ _ _ _ n X Y K _ (by omega) HN2.out HL.out.out).mono ?_
  rintro e w2 ⟨rfl,hb2⟩
  have HB2:=hide (HB1.out.trans (hb2.mono hs1))
  have HL2:=hide (HL.out.below hb2)
  have hs2:=hb2.size
  clear hb2
  obtain ⟨V,hV⟩:∃V,Num.chkV N n X Y K=V:=⟨_,rfl⟩
  rw [hV]
  have HV:=hide hV
  clear hV
  go_wp2_with fail
  refine (refCheck_any _ _ _ A C n X Y K _ (by omega) HN2.out hS (HO.out.below HB2.out)).mono ?_
  rw [HV.out]
  rintro e w3 ⟨rfl,hb3⟩
  have HB3:=hide (HB2.out.trans (hb3.mono (by omega)))
  have HL3:=hide (HL2.out.below hb3)
  have hs3:=hb3.size
  clear hb3
  go_wp2_with fail
  refine (lent_any _ _ _ _ _ A C n B X Y K _ (by omega) HN1.out HL3.out (HO.out.below HB3.out)).mono ?_
  rintro e w4 ⟨rfl,hb4⟩
  have HB4:=hide (HB3.out.trans (hb4.mono (by omega)))
  have HL4:=hide (HL3.out.below hb4)
  have hs4:=hb4.size
  clear hb4
  have H4:=hide (HH.out.below HB4.out)
  go_wp2_with fail
  refine (outline_full w.heap.size h w.heap.size N (N+2) B _ _ s _ (by omega) H4.out (HL4.out.lists HH.out.under (by omega) HN1.out) (by omega) (by omega)).mono ?_
  rintro e w5 ⟨rfl,hT5,s',hI5,hn5,hcs,hrs,_,_,_,_,_,_,_,_,hU5⟩
  have HT5:=hide hT5
  have HI5:=hide (And.intro hI5 (And.intro hn5 (And.intro hcs hrs)))
  have HU5:=hide hU5
  clear hT5 hI5 hn5 hcs hrs hU5
  go_wp2_with (go_at_call 27;refine (num_any _ _).mono ?_;rintro e w' ⟨rfl,rfl⟩)
  go_ret
  obtain ⟨hI5,hn5,hcs,hrs⟩:=HI5.out
  refine ⟨rfl,?_,s',hI5,?_,hcs,hrs,?_,fun q hq=>?_⟩
  · have t:=HT5.out.below (B:=w0.heap.size) (by omega) (fun b hb=>outS_ge H4.out hh (by omega) (fun i hi=>by have:=HL4.out.geB i hi;omega) hb)
    exact (HB4.out.mono hsz0).trans t
  · rw [hn5];omega
  · exact ((Touch.refl (Used h s) w).of_below HB4.out).trans' HT5.out (fun q hq=>outS_used (B0:=w.heap.size) (by omega) (fun i hi=>by have:=HL4.out.geB i hi;omega) hq)
  · rcases HU5.out q hq with h1 | h1 | h1
    · exact .inl h1
    · exact outS_used (B0:=w.heap.size) (by omega) (fun i hi=>by have:=HL4.out.geB i hi;omega) h1
    · exact .inr (by omega)
theorem Lent.of_blocks {w w':World} {base ob N:Nat} {B n:Nat→Nat} {X Y K:Nat→Nat→Int} (h:Lent w base ob N B n X Y K) (e:∀q,base≤q→q<w.heap.size→w'.heap[q]? = w.heap[q]?):Lent w' base ob N B n X Y K:=
  ⟨h.outer.of_block (e _ h.ge h.outer.lt),h.ge,h.geB,h.inj,fun i hi=>(h.inner i hi).of_block (e _ (h.geB i hi) (h.inner i hi).lt)⟩
theorem histA_snoc {NN:Nat→Nat} {LL:Nat→Nat→List (Int×Int)} {sg:Nat→Int} {k N:Nat} {L:Nat→List (Int×Int)} {t:Int} (i j:Int) :
    histA (fun q=>if q=k then N else NN q) (fun q=>if q=k then L else LL q) (fun q=>if q=k then t else sg q) (k+1) i j=histA NN LL sg k i j+t*Num.areaV L N i j:=by
  unfold histA
  simp only [Num.sumZ,if_true]
  rw [Num.sumZ_congr (g:=fun q=>sg q*Num.areaV (LL q) (NN q) i j) k (fun q hq=>by simp only [show q≠k by omega,if_false])]
theorem CanP.taken {w w1 w2 w3 w':World} {bk rb W H tk:Nat} {A:Nat→Nat→Int} {S:Nat→Prop} {st:Int} {VR:Nat→Value} {VV:Nat→Nat→Value} {NN:Nat→Nat} {LL:Nat→Nat→List (Int×Int)} {sg:Nat→Int} {vR vS:Value} {Fk:Nat→Prop} {LE t:Int} {N:Nat} {L:Nat→List (Int×Int)}
    (hW:1≤W∧W≤64) (hH:1≤H∧H≤64) (hs:∀i j,i<W→j<H→A i j=histA NN LL sg tk i j) (hF:∀q,S q∨rcF rb tk VR VV NN vR vS q→Fk q) (hap:∀q,S q→¬rcF rb tk VR VV NN vR vS q) (hlt:∀q,Fk q→q<w.heap.size)
    (h01:w.heap.size≤w1.heap.size) (h12:w1.heap.size≤w2.heap.size) (h3:w3.heap.size≤w'.heap.size)
    (hno:LE≠0→Cnv w2 bk 206 W H tk A (781440000000*tk) S st)
    (hyes:LE=0→∃S',Cnv w2 bk 206 W H (tk+1) (fun i j=>A i j+t*Num.areaV L N i j) (781440000000*((tk+1:Nat):Int)) S' st∧∀q,S' q→S q∨w1.heap.size≤q)
    (hT3:Touch (rcS rb vR vS) w2 w3)
    (rno:LE≠0→Rcv w3 rb W H tk VR VV NN LL sg vR vS)
    (ryes:LE=0→∃v V vR' vS',Rcv w3 rb W H (tk+1) (fun q=>if q=tk then v else VR q) (fun q=>if q=tk then V else VV q) (fun q=>if q=tk then N else NN q) (fun q=>if q=tk then L else LL q) (fun q=>if q=tk then t else sg q) vR' vS'∧(∀q,rcS rb vR' vS' q→rcS rb vR vS q∨w2.heap.size≤q)∧∀q,v.ownBlock=some q∨(∃r,r<N∧(V r).ownBlock=some q)→w2.heap.size≤q)
    (hk:∀q,Fk q∨(w1.heap.size≤q∧q<w3.heap.size)→w'.heap[q]? = w3.heap[q]?):CanP w' bk rb (fun q=>Fk q∨(w1.heap.size≤q∧q<w3.heap.size)):=by
  have h23:=hT3.size
  have hlt':∀q,Fk q∨(w1.heap.size≤q∧q<w3.heap.size)→q<w'.heap.size:=fun q hq=>by
    rcases hq with hq | hq
    · have:=hlt q hq;omega
    · omega
  have hTk:Touch (fun q=>¬(Fk q∨(w1.heap.size≤q∧q<w3.heap.size))) w3 { w' with os:=w3.os,tape:=w3.tape,output:=w3.output }:=⟨rfl,rfl,rfl,h3,fun q _ hn=>hk q (Classical.not_not.1 hn)⟩
  by_cases h0:LE=0
  · obtain ⟨S',hC,hS'⟩:=hyes h0
    obtain ⟨v,V,vR',vS',hR,hr1,hr2⟩:=ryes h0
    have hrs:∀q,rcF rb (tk+1) (fun q=>if q=tk then v else VR q) (fun q=>if q=tk then V else VV q) (fun q=>if q=tk then N else NN q) vR' vS' q→rcF rb tk VR VV NN vR vS q∨w2.heap.size≤q:=fun q hq=>by
      rcases hq with hq | ⟨i,hi,hq⟩ | ⟨i,hi,r,hr,hq⟩
      · rcases hr1 q hq with h1 | h1
        · exact .inl (.inl h1)
        · exact .inr h1
      · by_cases e:i=tk
        · simp only [e,if_true] at hq;exact .inr (hr2 q (.inl hq))
        · simp only [e,if_false] at hq;exact .inl (.inr (.inl ⟨i,by omega,hq⟩))
      · by_cases e:i=tk
        · simp only [e,if_true] at hq hr;exact .inr (hr2 q (.inr ⟨r,hr,hq⟩))
        · simp only [e,if_false] at hq hr;exact .inl (.inr (.inr ⟨i,by omega,r,hr,hq⟩))
    have hrl:∀q,rcF rb (tk+1) (fun q=>if q=tk then v else VR q) (fun q=>if q=tk then V else VV q) (fun q=>if q=tk then N else NN q) vR' vS' q→q<w3.heap.size:=fun q hq=>by
      rcases hq with (rfl | hq | hq) | ⟨i,hi,hq⟩ | ⟨i,hi,r,hr,hq⟩
      · exact hR.row.lt
      · exact (hR.oR.lt q hq).2
      · exact (hR.oS.lt q hq).2
      · exact ((hR.rings i hi).outer.lt q hq).2
      · exact (((hR.rings i hi).inner r hr).lt q hq).2
    have hin:∀q,S' q∨rcF rb (tk+1) (fun q=>if q=tk then v else VR q) (fun q=>if q=tk then V else VV q) (fun q=>if q=tk then N else NN q) vR' vS' q→Fk q∨(w1.heap.size≤q∧q<w3.heap.size):=fun q hq=>by
      rcases hq with hq | hq
      · rcases hS' q hq with h1 | h1
        · exact .inl (hF q (.inl h1))
        · exact .inr ⟨h1,by have:=hC.lt hq;omega⟩
      · rcases hrs q hq with h1 | h1
        · exact .inl (hF q (.inr h1))
        · exact .inr ⟨by omega,hrl q hq⟩
    have hC3:Cnv w3 bk 206 W H (tk+1) (fun i j=>A i j+t*Num.areaV L N i j) (781440000000*((tk+1:Nat):Int)) S' st:=hC.touch hT3 (fun q hq e=>by
      rcases hS' q hq with h1 | h1
      · exact hap q h1 (.inl e)
      · have:=hlt q (hF q (.inr (.inl e)));omega)
    have hC4:=(hC3.touch hTk (fun q hq hn=>hn (hin q (.inl hq)))).of_heap (w':=w') rfl
    have hR4:=hR.of_blocks (w':=w') (fun q hq=>hk q (hin q (.inr hq)))
    refine ⟨W,H,tk+1,_,S',st,_,_,_,_,_,vR',vS',hC4,hR4,hW,hH,fun i j hi hj=>?_,hin,fun q hq hr=>?_,hlt'⟩
    · rw [histA_snoc,hs i j hi hj]
    · rcases hrs q hr with h1 | h1
      · rcases hS' q hq with h2 | h2
        · exact hap q h2 h1
        · have:=hlt q (hF q (.inr h1));omega
      · have:=hC.lt hq;omega
  · have hC3:=(hno h0).touch hT3 (fun q hq e=>hap q hq (.inl e))
    have hC4:=(hC3.touch hTk (fun q hq hn=>hn (.inl (hF q (.inl hq))))).of_heap (w':=w') rfl
    have hR4:=(rno h0).of_blocks (w':=w') (fun q hq=>hk q (.inl (hF q (.inr hq))))
    exact ⟨W,H,tk,A,S,st,VR,VV,NN,LL,sg,vR,vS,hC4,hR4,hW,hH,hs,fun q hq=>.inl (hF q hq),hap,hlt'⟩
set_option maxRecDepth 100000 in
theorem takes_any (ad:Option Addr) (N cc h k KK:Nat) (A:Nat→Option Addr) (C n:Nat→Nat) (X Y K:Nat→Nat→Int) (a b c d x y t:Int) (s:HS) (B R:Nat→Nat) (F:Nat→Nat→Prop) (w0 w:World) (hN:N≤2097152) (hn:∀i,i<N→n i≤2097152) (hS:Num.sumN n N≤1099511627776)
    (ho:OutAt w0 ad N A C n X Y K) (hb0:Below w0.heap.size w0 w) (hh:w0.heap.size≤h) (H:HeldInv w h s) (CC:Cans w h s KK B R F) (hk:k<KK) (hs:s.n+N+24≤1099511627776) (ht:t=1∨t = -1) :
    Calls Tryz.prog 58 #[.pointer (some ⟨h,0,none⟩),.int .i64 k,.slice ad N cc,.agg #[.int .i64 a,.int .i64 b,.int .i64 c,.int .i64 d,.int .i64 x,.int .i64 y],.int .i64 t] w fun e w'=>e=.returned (.bool true)∧Below w0.heap.size w w'∧∃s' F',HeldInv w' h s'∧Cans w' h s' KK B R F'∧s'.n≤s.n+N+24:=by
  have hn1:∀i,i<N→n i≤4294967295:=fun i hi=>by have:=hn i hi;omega
  have hn2:∀i,i<N→n i≤4294967296:=fun i hi=>by have:=hn i hi;omega
  have hsz0:=hb0.size
  have hhw:=H.wd.lt
  have HN1:=hide hn1
  have HN2:=hide hn2
  obtain ⟨W0,hW0⟩:∃W0,W0=w.alloc (.cells #[.int .i64 a,.int .i64 b,.int .i64 c,.int .i64 d,.int .i64 x,.int .i64 y] 40):=⟨_,rfl⟩
  have hbW:Below w.heap.size w W0:=by rw [hW0];exact (Below.refl _ _).alloc (Nat.le_refl _) _
  have hMr:W0.rowIs w.heap.size 40 6 (mp6 a b c d x y):=by rw [hW0];exact mp6_row a b c d x y w 40
  have hsW:=hMr.lt
  obtain ⟨g,cap,g',cap',e1,e2,d1,d2,l1,l2⟩:=CC.at hk
  have c0:w.cell? ⟨h,0,none⟩=some (.slice (some ⟨g,0,none⟩) KK cap):=by rw [H.wd.cell (i:=0) (by omega),←e1];rfl
  have c1:w.cell? ⟨h,1,none⟩=some (.slice (some ⟨g',0,none⟩) KK cap'):=by rw [H.wd.cell (i:=1) (by omega),←e2];rfl
  obtain ⟨W,HH,tk,AA,S,st,VR,VV,NN,LL,sg,vR,vS,hC,hR,hW,hH,hsm,hF,hap,hlt⟩:=CC.pair k hk
  have htk:=hR.most
  have hSk:∀q,S q→F k q:=fun q hq=>hF q (.inl hq)
  have hRk:∀q,rcF (R k) tk VR VV NN vR vS q→F k q:=fun q hq=>hF q (.inr hq)
  have hg':¬S g':=fun e=>(CC.own g' (.inr (by rw [e2];rfl))).2 k hk (hSk _ e)
  have hh':¬S h:=fun e=>CC.free k hk h (hSk _ e) (.inl rfl)
  have g0:(0:Int)≤(k:Int):=by omega
  have g1:(k:Int)<(KK:Int):=by omega
  obtain ⟨LE,hLE⟩:∃LE,LE=layE (traceE N n X Y K ⟨a,b,c,d,x,y⟩) tk:=⟨_,rfl⟩
  obtain ⟨TL,hTL⟩:∃TL,TL=traceL n X Y K ⟨a,b,c,d,x,y⟩:=⟨_,rfl⟩
  have HLE:=hide (And.intro hLE hTL)
  have HCR:=hide (And.intro hC hR)
  have HFF:=hide (And.intro hsm (And.intro hF (And.intro hap hlt)))
  have HWH:=hide (And.intro hW hH)
  have HG:=hide (And.intro hSk (And.intro hg' (And.intro hh' hRk)))
  have H0:=hide H
  have C0:=hide CC
  have HO:=hide ho
  have HB0:=hide hb0
  have HBW:=hide hbW
  have HMr:=hide hMr
  have HW0:=hide hW0
  have p0:=(hbW.cell (p:=⟨h,0,none⟩) hhw).trans c0
  have p1:=(hbW.cell (p:=⟨h,1,none⟩) hhw).trans c1
  have p2:=(hbW.cell (p:=⟨g,k,none⟩) l1).trans d1
  have p3:=(hbW.cell (p:=⟨g',k,none⟩) l2).trans d2
  clear H CC hn1 hn2 ho hn hb0 hbW hMr hW0 hLE hTL hC hR hsm hF hap hlt hW hH hSk hRk hg' hh' e1 e2 c0 c1 d1 d2
  have hsWw:w.heap.size≤W0.heap.size:=HBW.out.size
  have ht2:=ht
  rcases ht2 with rfl | rfl
  all_goals
    go_enter Tryz.func58,Tryz.ntmps58
    go_wp2_with fail
    rw [←HW0.out]
    refine (lend_any _ _ _ A C n X Y K _ (by omega) HN1.out ((HO.out.below HB0.out).below HBW.out)).mono ?_
    rintro e w1 ⟨rfl,hb1,BB,hL⟩
    have HL:=hide hL
    have HB1:=hide hb1
    have hs1:=hb1.size
    have HM1:=hide (row_below HMr.out hb1 hsW)
    obtain ⟨m0,m1,m2,m3,m4,m5⟩:=mp6_cells HM1.out
    have hM1l:=HM1.out.lt
    have k0:=(hb1.cell (p:=⟨h,0,none⟩) (by simp;omega)).trans p0
    have k1:=(hb1.cell (p:=⟨h,1,none⟩) (by simp;omega)).trans p1
    have k2:=(hb1.cell (p:=⟨g,k,none⟩) (by simp;omega)).trans p2
    have k3:=(hb1.cell (p:=⟨g',k,none⟩) (by simp;omega)).trans p3
    have hh1:h<w1.heap.size:=by omega
    have hg1:g<w1.heap.size:=by omega
    have hg1':g'<w1.heap.size:=by omega
    have hBw1:Below w.heap.size w w1:=HBW.out.trans (hb1.mono hsWw)
    have HCv1:=hide (HCR.out.1.below hBw1)
    have hbk:=HCv1.out.cells.2.2.2.2
    have HBw1:=hide hBw1
    clear hL hb1 p0 p1 p2 p3 hBw1
    go_wp2_with fail
    first
    | refine (glyphAdd_any (B k) W HH tk _ AA st S _ N _ _ _ n X Y K a b c d x y w1 HCv1.out HWH.out.1 HWH.out.2 htk (by omega) HN2.out HL.out.out).mono ?_
    | refine (glyphTake_any (B k) W HH tk _ AA st S _ N _ _ _ n X Y K a b c d x y w1 HCv1.out HWH.out.1 HWH.out.2 htk (by omega) HN2.out HL.out.out).mono ?_
    rw [←HLE.out.1,←HLE.out.2]
    rintro e w2 ⟨rfl,hT2,cno,cyes⟩
    have hs2:=hT2.size
    have j1:=(World.cell?_of_block (w:=w1) (a:=⟨h,1,none⟩) (hT2.block h hh1 HG.out.2.2.1)).trans k1
    have j3:=(World.cell?_of_block (w:=w1) (a:=⟨g',k,none⟩) (hT2.block g' hg1' HG.out.2.1)).trans k3
    have hFlt:∀q,F k q→q<w.heap.size:=HFF.out.2.2.2
    have hM2:=hT2.row HM1.out (fun e=>by have:=hFlt _ (HG.out.1 _ e);omega)
    clear m0 m1 m2 m3 m4 m5
    obtain ⟨m0,m1,m2,m3,m4,m5⟩:=mp6_cells hM2
    have hM2l:=hM2.lt
    have hh2:h<w2.heap.size:=by omega
    have hg2':g'<w2.heap.size:=by omega
    have hR2:Rcv w2 (R k) W HH tk VR VV NN LL sg vR vS:=(HCR.out.2.below HBw1.out).touch hT2 (fun q hq=>by have:=hFlt _ (HG.out.2.2.2 q hq);omega) (fun q hq e=>HFF.out.2.2.1 q e hq)
    have hB2:Below w0.heap.size w0 w2:=(HB0.out.trans (HBw1.out.mono hsz0)).trans (hT2.below (by omega) (fun q hq=>by have:=C0.out.lo k hk q (HG.out.1 q hq);omega))
    have hrl:=hR2.row.lt
    have HR2:=hide hR2
    have HB2:=hide hB2
    have HT2:=hide hT2
    have HCn:=hide (And.intro cno cyes)
    clear hT2 cno cyes hM2 hR2 hB2 k0 k1 k2 k3 hFlt
    go_wp2_with fail
    refine (refTake_any (R k) W HH tk VR VV NN LL sg vR vS _ N _ A C n X Y K a b c d x y _ w2 HR2.out (by first | exact .inl rfl | exact .inr rfl) (by omega) HN2.out hS (HO.out.below HB2.out)).mono ?_
    rw [←HLE.out.1,←HLE.out.2]
    rintro e w3 ⟨rfl,hT3,rno,ryes⟩
    have hs3:=hT3.size
    have HT3:=hide hT3
    have HRn:=hide (And.intro rno ryes)
    have hrF:∀q,rcS (R k) vR vS q→F k q:=fun q hq=>HG.out.2.2.2 q (.inl hq)
    have hFlt:∀q,F k q→q<w.heap.size:=HFF.out.2.2.2
    have hB3:Below w0.heap.size w0 w3:=HB2.out.trans (hT3.below (by omega) (fun q hq=>by have:=C0.out.lo k hk q (hrF q hq);omega))
    have hL3:Lent w3 W0.heap.size W0.heap.size N BB n X Y K:=HL.out.of_blocks fun q hq hq2=>by
      rw [hT3.block q (by omega) (fun e=>by have:=hFlt q (hrF q e);omega),HT2.out.block q hq2 (fun e=>by have:=hFlt q (HG.out.1 q e);omega)]
    have hI3:HeldInv w3 h s:=(H0.out.below HBw1.out).of_blocks fun q hq=>by
      have hql:=H0.out.used_lt hq
      have hqF:¬F k q:=fun e=>C0.out.free k hk q e hq
      rw [hT3.block q (by omega) (fun e=>hqF (hrF q e)),HT2.out.block q (by omega) (fun e=>hqF (HG.out.1 q e))]
    have HB3:=hide hB3
    have HL3:=hide hL3
    have HI3:=hide hI3
    have HrF:=hide hrF
    clear hT3 rno ryes hrF hFlt hB3 hL3 hI3 j1 j3 m0 m1 m2 m3 m4 m5
    go_wp2_with fail
    refine (lent_any _ _ _ _ _ A C n BB X Y K _ (by omega) HN1.out HL3.out (HO.out.below HB3.out)).mono ?_
    rintro e w4 ⟨rfl,hb4⟩
    have hs4:=hb4.size
    have HL4:=hide (HL3.out.below hb4)
    have HI4:=hide (HI3.out.below hb4)
    have HB4:=hide hb4
    clear hb4
    go_wp2_with fail
    refine (outline_full W0.heap.size h W0.heap.size N (N+2) BB _ _ s _ (by omega) HI4.out (HL4.out.lists (H0.out.below HBW.out).under (by omega) HN1.out) (by omega) (by omega)).mono ?_
    rintro e w5 ⟨rfl,hT5,s',hI5,hn5,hcs,hrs,_,_,_,_,_,_,_,_,hU5⟩
    have HT5:=hide hT5
    have HI5:=hide (And.intro hI5 (And.intro hn5 (And.intro hcs (And.intro hrs hU5))))
    clear hT5 hI5 hn5 hcs hrs hU5
    go_wp2_with (go_at_call 27;refine (num_any _ _).mono ?_;rintro e w' ⟨rfl,hw'⟩;rw [hw'];clear hw')
    go_ret
    obtain ⟨hI5,hn5,hcs,hrs,hU5⟩:=HI5.out
    have hs5:=HT5.out.size
    have hFlt:∀q,F k q→q<w.heap.size:=HFF.out.2.2.2
    have hout:∀q,outS h W0.heap.size (N+2) BB s q→Used h s q∨(w.heap.size≤q∧q<w1.heap.size):=fun q hq=>by
      rcases hq with rfl | rfl | ⟨i,hi,rfl⟩ | hq | hq
      · exact .inl (.inl rfl)
      · exact .inr ⟨hsWw,HL.out.outer.lt⟩
      · exact .inr ⟨by have:=HL.out.geB i hi;omega,(HL.out.inner i hi).lt⟩
      · exact .inl (.inr (.inl hq))
      · exact .inl (.inr (.inr (.inl hq)))
    have hT:Touch (fun q=>F k q∨Used h s q) w w5:=by
      have t1:Touch (fun q=>F k q∨Used h s q) w w1:=(Touch.refl _ w).of_below HBw1.out
      have t2:=t1.trans' HT2.out (fun q hq=>.inl (.inl (HG.out.1 q hq)))
      have t3:=(t2.trans' HT3.out (fun q hq=>.inl (.inl (HrF.out q hq)))).of_below HB4.out
      exact t3.trans' HT5.out (fun q hq=>(hout q hq).elim (fun h=>.inl (.inr h)) (fun h=>.inr h.1))
    have hBe:Below w0.heap.size w w5:=by
      have t1:Below w0.heap.size w w2:=(HBw1.out.mono hsz0).trans (HT2.out.below (by omega) (fun q hq=>by have:=C0.out.lo k hk q (HG.out.1 q hq);omega))
      have t2:=t1.trans (HT3.out.below (by omega) (fun q hq=>by have:=C0.out.lo k hk q (HrF.out q hq);omega))
      have t3:=t2.trans (HB4.out.mono (by omega))
      exact t3.trans (HT5.out.below (by omega) (fun q hq=>outS_ge HI4.out hh (by omega) (fun i hi=>by have:=HL4.out.geB i hi;omega) hq))
    have hNU:∀q,Used h s' q→Used h s q∨(w.heap.size≤q∧q<w1.heap.size)∨w4.heap.size≤q:=fun q hq=>by
      rcases hU5 q hq with h1 | h1 | h1
      · exact .inl h1
      · rcases hout q h1 with h2 | h2
        · exact .inl h2
        · exact .inr (.inl h2)
      · exact .inr (.inr h1)
    refine ⟨rfl,hBe,s',_,hI5,C0.out.one (F':=fun q=>F k q∨(w1.heap.size≤q∧q<w3.heap.size)) H0.out hk hT (fun q hq=>?_) hcs hrs ?_ (fun q hq=>?_) (fun q hq hu=>?_),by rw [hn5];omega⟩
    · rcases hNU q hq with h1 | h1 | h1
      · exact .inl h1
      · exact .inr h1.1
      · exact .inr (by omega)
    · refine CanP.taken (w:=w) (w2:=w2) HWH.out.1 HWH.out.2 HFF.out.1 HFF.out.2.1 HFF.out.2.2.1 hFlt (by omega) hs2 (by omega) HCn.out.1 HCn.out.2 HT3.out HRn.out.1 HRn.out.2 (fun q hq=>?_)
      have hq3:q<w3.heap.size:=by
        rcases hq with hq | hq
        · have:=hFlt q hq;omega
        · exact hq.2
      rw [HT5.out.block q (by omega) (fun e=>?_),HB4.out.block q hq3]
      rcases hout q e with h1 | h1
      · rcases hq with hq | hq
        · exact C0.out.free k hk q hq h1
        · have:=H0.out.used_lt h1;omega
      · rcases hq with hq | hq
        · have:=hFlt q hq;omega
        · omega
    · rcases hq with hq | hq
      · exact .inl hq
      · exact .inr (by omega)
    · rcases hNU q hu with h1 | h1 | h1
      · rcases hq with hq | hq
        · exact C0.out.free k hk q hq h1
        · have:=H0.out.used_lt h1;omega
      · rcases hq with hq | hq
        · have:=hFlt q hq;omega
        · omega
      · rcases hq with hq | hq
        · have:=hFlt q hq;omega
        · omega
set_option maxRecDepth 100000 in
theorem glyphNew_no (a b st:Int) (w:World) (h:newB a b st=false) :
    Calls Tryz.prog 104 #[.int .i64 a,.int .i64 b,.int .i64 st] w fun e w'=>e=.returned (.tuple #[.pointer none,.int .i64 1])∧Below w.heap.size w w':=by
  have HCall:=hide (canvasNew_no a b st w h)
  clear h
  go_enter Tryz.func104,Tryz.ntmps104
  go_wp2_with fail
  refine HCall.out.mono ?_
  rintro e w1 ⟨rfl,hb1⟩
  have hs1:=hb1.size
  have HB:=hide hb1
  clear hb1 HCall
  go_wp2
  go_ret2
  exact ⟨rfl,by have:=HB.out;(repeat any_goals first | exact .refl _ _ | assumption | refine .drew ?_ | refine below_drewN ?_ _ | refine .setCell ?_ ?_ _ | refine .alloc ?_ ?_ _ | omega | (simp <;> omega))⟩
theorem HeldInv.setC {w w':World} {h:Nat} {s:HS} {c r:Value} (H:HeldInv w h s) (hw:w'.rowIs h 37 9 (wc { s with cs:=c,rs:=r })) (e:∀b,Used h s b→b≠h→w'.heap[b]? = w.heap[b]?):HeldInv w' h { s with cs:=c,rs:=r }:=by
  have ty:=row_ty H.wd
  have P1:∀b,Used h s b→tyOf w b≠some 37→w'.heap[b]? = w.heap[b]?:=fun b hu hb=>e b hu (fun e=>by rw [e] at hb;exact hb ty)
  exact
    { wd:=hw
      oP:=owns_of_block H.oP fun b hb=>P1 b (by unfold Used;simp [hb]) (by rw [owns_ty H.oP hb];decide)
      oO:=owns_of_block H.oO fun b hb=>P1 b (by unfold Used;simp [hb]) (by rw [owns_ty H.oO hb];decide)
      oS:=owns_of_block H.oS fun b hb=>P1 b (by unfold Used;simp [hb]) (by rw [owns_ty H.oS hb];decide)
      oT:=owns_of_block H.oT fun b hb=>P1 b (by unfold Used;simp [hb]) (by rw [owns_ty H.oT hb];decide)
      oR:=owns_of_block H.oR fun b hb=>P1 b (by unfold Used;simp [hb]) (by rw [owns_ty H.oR hb];decide)
      oB:=owns_of_block H.oB fun b hb=>P1 b (by unfold Used;simp [hb]) (by rw [owns_ty H.oB hb];decide)
      eP:=fun x hx=>(H.eP x hx).of_block (P1 _ (.inr (.inr (.inr (.inr (.inl ⟨x,hx,rfl⟩))))) (by rw [row_ty (H.eP x hx)];decide))
      eO:=fun x hx=>(H.eO x hx).of_block (P1 _ (.inr (.inr (.inr (.inr (.inr (.inl ⟨x,hx,rfl⟩)))))) (by rw [row_ty (H.eO x hx)];decide))
      eI:=fun x hx i hi=>(H.eI x hx i hi).of_block (P1 _ (.inr (.inr (.inr (.inr (.inr (.inr (.inl ⟨x,hx,i,hi,rfl⟩))))))) (by rw [row_ty (H.eI x hx i hi)];decide))
      eS:=fun x hx b hb=>(H.eS x hx b hb).of_block (P1 _ (.inr (.inr (.inr (.inr (.inr (.inr (.inr (.inl ⟨x,hx,hb⟩)))))))) (by rw [row_ty (H.eS x hx b hb)];decide))
      eT:=fun x hx b hb=>(H.eT x hx b hb).of_block (P1 _ (.inr (.inr (.inr (.inr (.inr (.inr (.inr (.inr (.inr (.inr (.inl ⟨x,hx,hb⟩))))))))))) (by rw [row_ty (H.eT x hx b hb)];decide))
      eR:=fun x hx b hb=>(H.eR x hx b hb).of_block (P1 _ (.inr (.inr (.inr (.inr (.inr (.inr (.inr (.inr (.inr (.inr (.inr (.inl ⟨x,hx,hb⟩)))))))))))) (by rw [row_ty (H.eR x hx b hb)];decide))
      eJ:=fun x hx i hi=>(H.eJ x hx i hi).of_block (P1 _ (.inr (.inr (.inr (.inr (.inr (.inr (.inr (.inr (.inr (.inr (.inr (.inr (.inl ⟨x,hx,i,hi,rfl⟩))))))))))))) (by rw [row_ty (H.eJ x hx i hi)];decide))
      eB:=fun x hx b hb=>(H.eB x hx b hb).of_block (P1 _ (.inr (.inr (.inr (.inr (.inr (.inr (.inr (.inr (.inr (.inr (.inr (.inr (.inr (.inr ⟨x,hx,hb⟩)))))))))))))) (by rw [rowIz_ty (H.eB x hx b hb)];decide))
      eN:=H.eN,lo:=H.lo,hi:=H.hi,mP:=H.mP,mO:=H.mO,mS:=H.mS,eU:=H.eU,eM:=H.eM,mT:=H.mT,mR:=H.mR,eV:=H.eV,mB:=H.mB }
theorem Cans.grow {w w2 w':World} {h:Nat} {s:HS} {K b1 r1:Nat} {B R:Nat→Nat} {F:Nat→Nat→Prop} {c r:Value} (C:Cans w h s K B R F) (H:HeldInv w h s) (hb:Below w.heap.size w w2) (t:Touch (fun q=>q=h∨s.cs.ownBlock=some q∨s.rs.ownBlock=some q) w2 w')
    (hc:w'.ownsRow h 167 1 c (K+1) ((List.range K).map (fun k=>.pointer (some ⟨B k,0,none⟩))++[.pointer (some ⟨b1,0,none⟩)])) (hr:w'.ownsRow h 155 1 r (K+1) ((List.range K).map (fun k=>.pointer (some ⟨R k,0,none⟩))++[.pointer (some ⟨r1,0,none⟩)]))
    (hcb:∀q,c.ownBlock=some q→s.cs.ownBlock=some q∨w2.heap.size≤q) (hrb:∀q,r.ownBlock=some q→s.rs.ownBlock=some q∨w2.heap.size≤q)
    (hp:CanP w2 b1 r1 (fun q=>w.heap.size≤q∧q<w2.heap.size)) :
    Cans w' h { s with cs:=c,rs:=r } (K+1) (fun l=>if l=K then b1 else B l) (fun l=>if l=K then r1 else R l) (fun l=>if l=K then (fun q=>w.heap.size≤q∧q<w2.heap.size) else F l):=by
  have hhl:=H.wd.lt
  have hsz:=hb.size
  have hF:∀l,l<K→∀q,F l q→q<w.heap.size:=fun l hl q hq=>(C.pair l hl).lt hq
  have hown:∀q,s.cs.ownBlock=some q∨s.rs.ownBlock=some q→q<w.heap.size:=fun q hq=>by
    rcases hq with hq | hq
    · exact (C.oC.lt q hq).2
    · exact (C.oR.lt q hq).2
  have hnew:∀q,c.ownBlock=some q∨r.ownBlock=some q→(s.cs.ownBlock=some q∨s.rs.ownBlock=some q)∨w2.heap.size≤q:=fun q hq=>by
    rcases hq with hq | hq
    · exact (hcb q hq).elim (fun h=>.inl (.inl h)) .inr
    · exact (hrb q hq).elim (fun h=>.inl (.inr h)) .inr
  refine ⟨?_,?_,fun l hl=>?_,fun l m hl hm hne q hq hq'=>?_,fun l hl q hq hu=>?_,fun q hq=>⟨fun hu=>?_,fun l hl hq'=>?_⟩,fun l hl q hq=>?_⟩
  · rw [range_map_snoc,range_map_congr (g:=fun k=>.pointer (some ⟨B k,0,none⟩)) (fun j hj=>by simp only [show j≠K by omega,if_false])]
    simp only [if_true]
    exact hc
  · rw [range_map_snoc,range_map_congr (g:=fun k=>.pointer (some ⟨R k,0,none⟩)) (fun j hj=>by simp only [show j≠K by omega,if_false])]
    simp only [if_true]
    exact hr
  · by_cases e:l=K
    · subst e
      simp only [if_true]
      refine hp.touch t (fun q hq e'=>?_)
      rcases e' with rfl | e'
      · omega
      · have:=hown q e';omega
    · simp only [e,if_false]
      refine ((C.pair l (by omega)).below hb).touch t (fun q hq e'=>?_)
      rcases e' with rfl | e'
      · exact C.free l (by omega) _ hq (.inl rfl)
      · exact (C.own q e').2 l (by omega) hq
  · by_cases e:l=K
    · have e2:m≠K:=fun h=>hne (e.trans h.symm)
      simp only [e,if_true] at hq
      simp only [e2,if_false] at hq'
      have:=hF m (by omega) q hq';omega
    · simp only [e,if_false] at hq
      by_cases e2:m=K
      · simp only [e2,if_true] at hq'
        have:=hF l (by omega) q hq;omega
      · simp only [e2,if_false] at hq'
        exact C.apart l m (by omega) (by omega) hne q hq hq'
  · have hu:Used h s q:=hu
    by_cases e:l=K
    · simp only [e,if_true] at hq
      have:=H.used_lt hu;omega
    · simp only [e,if_false] at hq
      exact C.free l (by omega) q hq hu
  · have hu:Used h s q:=hu
    rcases hnew q hq with h1 | h1
    · exact (C.own q h1).1 hu
    · have:=H.used_lt hu;omega
  · rcases hnew q hq with h1 | h1
    · by_cases e:l=K
      · simp only [e,if_true] at hq'
        have:=hown q h1;omega
      · simp only [e,if_false] at hq'
        exact (C.own q h1).2 l (by omega) hq'
    · by_cases e:l=K
      · simp only [e,if_true] at hq'
        omega
      · simp only [e,if_false] at hq'
        have:=hF l (by omega) q hq';omega
  · by_cases e:l=K
    · simp only [e,if_true] at hq
      omega
    · simp only [e,if_false] at hq
      exact C.lo l (by omega) q hq
theorem info_pc:(Tryz.prog.info? 167).map (fun i=>(i.zero,i.size,i.bytes))=some (some (.pointer none),1,8):=by kernel_rfl
theorem info_pr:(Tryz.prog.info? 155).map (fun i=>(i.zero,i.size,i.bytes))=some (some (.pointer none),1,8):=by kernel_rfl
theorem wc_set0 {w:World} {h:Nat} {t:TypeId} {s:HS} (hw:w.rowIs h t 9 (wc s)) (c:Value):(w.setCell ⟨h,0,none⟩ c).rowIs h t 9 (wc { s with cs:=c }):=by
  refine (hw.set 0 _).congr fun q hq=>?_
  by_cases e:q=0
  · subst e;simp [wc]
  · simp only [if_neg e,wc]
theorem wc_set1 {w:World} {h:Nat} {t:TypeId} {s:HS} (hw:w.rowIs h t 9 (wc s)) (r:Value):(w.setCell ⟨h,1,none⟩ r).rowIs h t 9 (wc { s with rs:=r }):=by
  refine (hw.set 1 _).congr fun q hq=>?_
  by_cases e:q=1
  · subst e;simp [wc]
  · simp only [if_neg e,wc]
set_option maxRecDepth 100000 in
theorem news_any (h K:Nat) (a b st:Int) (s:HS) (B R:Nat→Nat) (F:Nat→Nat→Prop) (w:World) (H:HeldInv w h s) (C:Cans w h s K B R F) (hK:K≤1099511627776) :
    Calls Tryz.prog 56 #[.pointer (some ⟨h,0,none⟩),.int .i64 a,.int .i64 b,.int .i64 st] w fun e w'=>e=.returned (.bool true)∧Below h w w'∧∃s' K' B' R' F',HeldInv w' h s'∧Cans w' h s' K' B' R' F'∧s'.n=s.n∧K'≤K+1:=by
  have hhl:=H.wd.lt
  have HH0:=hide H
  have HC0:=hide C
  cases hnb:newB a b st
  · have HN:=hide (glyphNew_no a b st w hnb)
    have HR:=hide (fun w1=>refNew_no a b st w1 hnb)
    clear H C
    go_enter Tryz.func56,Tryz.ntmps56
    go_wp2_with fail
    refine HN.out.mono ?_
    rintro e w1 ⟨rfl,hb1⟩
    have HB1:=hide hb1
    have hs1:=hb1.size
    clear hb1 HN
    go_wp2_with fail
    refine (HR.out w1).mono ?_
    rintro e w2 ⟨rfl,hw2⟩
    rw [hw2]
    clear hw2 HR
    go_wp2_with (go_at_call 27;refine (num_any _ _).mono ?_;rintro e w' ⟨rfl,rfl⟩)
    go_ret
    exact ⟨rfl,HB1.out.mono (by omega),s,K,B,R,F,HH0.out.below HB1.out,HC0.out.below HB1.out,rfl,by omega⟩
  · obtain ⟨hW,hH,hst⟩:=newB_yes hnb
    obtain ⟨wn,rfl⟩:∃wn:Nat,a=wn:=⟨a.toNat,by omega⟩
    obtain ⟨hn,rfl⟩:∃hn:Nat,b=hn:=⟨b.toNat,by omega⟩
    have hw1:1≤wn∧wn≤64:=by omega
    have hh1:1≤hn∧hn≤64:=by omega
    have HN:=hide (glyphNew_any wn hn st w hw1 hh1 hst)
    have HR:=hide (fun w1=>refNew_yes wn hn st w1 hw1 hh1 hst)
    clear H C hnb hst hW hH
    go_enter Tryz.func56,Tryz.ntmps56
    go_wp2_with fail
    refine HN.out.mono ?_
    rintro e w1 ⟨b1,S,rfl,hb1,hC1,hS1⟩
    have HB1:=hide hb1
    have hs1:=hb1.size
    have HC1:=hide (And.intro hC1 hS1)
    clear hb1 hC1 hS1 HN
    go_wp2_with fail
    refine (HR.out w1).mono ?_
    rintro e w2 ⟨rfl,hw2⟩
    have hb2:Below w1.heap.size w1 w2:=by rw [hw2];exact (Below.refl _ _).alloc (Nat.le_refl _) _
    have hs2:w2.heap.size=w1.heap.size+1:=by rw [hw2];simp
    have HRc:Hid (Rcv w2 w1.heap.size wn hn 0 (fun _=>.slice none 0 0) (fun _ _=>.slice none 0 0) (fun _=>0) (fun _ _=>[]) (fun _=>1) (.slice none 0 0) (.slice none 0 0)):=Rcv.start (by rw [hw2];exact rc4_alloc wn hn (.slice none 0 0) (.slice none 0 0) w1 173)
    have hBw2:Below w.heap.size w w2:=HB1.out.trans (hb2.mono hs1)
    have HB2:=hide hBw2
    have hP:CanP w2 b1 w1.heap.size (fun q=>w.heap.size≤q∧q<w2.heap.size):=by
      have hc2:=HC1.out.1.below hb2
      refine ⟨wn,hn,0,fun _ _=>0,S,st,_,_,_,_,_,_,_,hc2.mono (fun _ _ _ _=>rfl) (by simp),HRc.out,hw1,hh1,fun i j _ _=>rfl,fun q hq=>?_,fun q hq hr=>?_,fun q hq=>hq.2⟩
      · rcases hq with hq | hq
        · exact ⟨HC1.out.2 q hq,hc2.lt hq⟩
        · rcases hq with (rfl | hq | hq) | ⟨i,hi,_⟩ | ⟨i,hi,_⟩
          · exact ⟨hs1,by omega⟩
          · simp [Value.ownBlock] at hq
          · simp [Value.ownBlock] at hq
          · omega
          · omega
      · rcases hr with (rfl | hr | hr) | ⟨i,hi,_⟩ | ⟨i,hi,_⟩
        · have:=HC1.out.1.lt hq;omega
        · simp [Value.ownBlock] at hr
        · simp [Value.ownBlock] at hr
        · omega
        · omega
    have HP:=hide hP
    have hs2':w1.heap.size<w2.heap.size:=by omega
    clear hs2
    have hI2:=HH0.out.below hBw2
    have hCa2:=HC0.out.below hBw2
    have HI2:=hide hI2
    have hhl2:h<w2.heap.size:=by omega
    have c0:w2.cell? ⟨h,0,none⟩=some s.cs:=hI2.wd.cell (i:=0) (by omega)
    have c1:w2.cell? ⟨h,1,none⟩=some s.rs:=hI2.wd.cell (i:=1) (by omega)
    have z0:=hI2.wd.frozen 0
    have z1:=hI2.wd.frozen 1
    have ty2:=row_ty hI2.wd
    obtain ⟨i0,hi0,hz0,hz1,hz2⟩:=info_parts info_pc
    obtain ⟨i8,hi8,hy0,hy1,hy2⟩:=info_parts info_pr
    obtain ⟨xs,hxs⟩:∃xs,xs=(List.range K).map (fun k=>Value.pointer (some ⟨B k,0,none⟩)):=⟨_,rfl⟩
    obtain ⟨ys,hys⟩:∃ys,ys=(List.range K).map (fun k=>Value.pointer (some ⟨R k,0,none⟩)):=⟨_,rfl⟩
    have hoC:w2.ownsRow h 167 1 s.cs K xs:=by rw [hxs];exact hCa2.oC
    have hoR:w2.ownsRow h 155 1 s.rs K ys:=by rw [hys];exact hCa2.oR
    have HXY:=hide (And.intro hxs hys)
    clear hxs hys hb2 hw2 hBw2 hP hI2 hCa2 HR
    go_wp2_with (first | (go_at_call 27;refine (num_any _ _).mono ?_;rintro e w' ⟨rfl,hw'⟩;rw [hw'];clear hw') | (at_builtin;refine wpList_append_lies _ rfl _ _ 26 rfl h 167 i0 (.pointer none) 1 8 Tryz.underlying26 hi0 hz0 hz1 hz2 rfl (by omega) s.cs K xs rfl (hoC.alloc _) ⟨w2.heap.size,0,none⟩ 1 1 [.pointer (some ⟨b1,0,none⟩)] rfl rfl ?a1 ?a2 (by omega) ?a3 ?a4 ?a5 (w2.heap.size+1) (by simp) ?_))
    try (case a1=>exact news_new w2 [.pointer (some ⟨b1,0,none⟩)] _ _ rfl)
    case a2=>intro u hu;simp at hu;subst hu;rfl
    case a3=>unfold maxLen;omega
    case a4=>omega
    case a5=>first | omega | (simp;omega)
    intro g1 cap1 w3 hown3 hgrow3 hat3 hlt3
    have hr3:∀b,s.cs.ownBlock=some b→tyOf w2 b=some 167:=fun b hb=>owns_ty hoC hb
    have hg1:g1≠h:=by
      rcases hat3 with h' | h'
      · intro e;have:=hr3 g1 h';rw [e,ty2] at this;simp at this
      · omega
    have hne3:some h≠s.cs.ownBlock:=fun e=>by have:=hr3 h e.symm;rw [ty2] at this;simp at this
    have hrow3:(w3.setCell ⟨h,0,none⟩ (.slice (some ⟨g1,0,none⟩) (K+1) cap1)).rowIs h 37 9 (wc { s with cs:=.slice (some ⟨g1,0,none⟩) (K+1) cap1 }):=wc_set0 (HI2.out.wd.of_block (grown_other hgrow3 hr3 hhl2 (by rw [ty2];decide))) _
    have hoC3:(w3.setCell ⟨h,0,none⟩ (.slice (some ⟨g1,0,none⟩) (K+1) cap1)).ownsRow h 167 1 (.slice (some ⟨g1,0,none⟩) (K+1) cap1) (K+1) (xs++[.pointer (some ⟨b1,0,none⟩)]):=owns_of_block hown3 (fun b hb=>set_other (by simp [Value.ownBlock] at hb;omega))
    have hoR3:(w3.setCell ⟨h,0,none⟩ (.slice (some ⟨g1,0,none⟩) (K+1) cap1)).ownsRow h 155 1 s.rs K ys:=owns_of_block hoR (fun b hb=>rc_keep hgrow3 hr3 ty2 (owns_ty hoR hb) (by decide) (by decide))
    have c0':=(hgrow3.cell_far ⟨h,0,none⟩ (by simp;omega) hne3).trans (by go_simp:_=some s.cs)
    have z0':=(hgrow3.frozen_far ⟨h,0,none⟩ (by simp;omega) hne3).trans (by go_simp:_=false)
    have c1':=(hgrow3.cell_far ⟨h,1,none⟩ (by simp;omega) hne3).trans (by go_simp:_=some s.rs)
    have z1':=(hgrow3.frozen_far ⟨h,1,none⟩ (by simp;omega) hne3).trans (by go_simp:_=false)
    have HT3:Hid (Touch (fun q=>q=h∨s.cs.ownBlock=some q∨s.rs.ownBlock=some q) w2 (w3.setCell ⟨h,0,none⟩ (.slice (some ⟨g1,0,none⟩) (K+1) cap1))):=by
      have t2:=((Touch.refl (fun q=>q=h∨s.cs.ownBlock=some q∨s.rs.ownBlock=some q) w2).alloc _).grown hgrow3 (fun b hb=>.inl (.inr (.inl hb)))
      exact t2.setCell (.inl (.inl rfl)) _
    have hs3:w2.heap.size≤w3.heap.size:=by have:=hgrow3.size;simp at this;omega
    have HRow3:=hide hrow3
    have HoC3:=hide hoC3
    have HG1:Hid (s.cs.ownBlock=some g1∨w2.heap.size≤g1):=by
      rcases hat3 with h' | h'
      · exact .inl h'
      · exact .inr (by omega)
    clear hown3 hgrow3 hat3 hoC hoR hr3 hrow3 hoC3 c0 z0 c1 z1 hne3
    go_wp2_with (at_builtin;refine wpList_append_lies _ rfl _ _ 27 rfl h 155 i8 (.pointer none) 1 8 Tryz.underlying27 hi8 hy0 hy1 hy2 rfl (by omega) s.rs K ys rfl (hoR3.alloc _) ⟨w3.heap.size,0,none⟩ 1 1 [.pointer (some ⟨w1.heap.size,0,none⟩)] rfl rfl ?b1 ?b2 (by omega) ?b3 ?b4 ?b5 (w3.heap.size+1) (by simp) ?_)
    try (case b1=>exact news_new (w3.setCell ⟨h,0,none⟩ (.slice (some ⟨g1,0,none⟩) (K+1) cap1)) [.pointer (some ⟨w1.heap.size,0,none⟩)] _ _ (by simp))
    case b2=>intro u hu;simp at hu;subst hu;rfl
    case b3=>unfold maxLen;omega
    case b4=>omega
    case b5=>first | omega | (simp;omega)
    intro g2 cap2 w4 hown4 hgrow4 hat4 hlt4
    obtain ⟨W3,hW3⟩:∃W3,W3=w3.setCell ⟨h,0,none⟩ (.slice (some ⟨g1,0,none⟩) (K+1) cap1):=⟨_,rfl⟩
    have hs33:W3.heap.size=w3.heap.size:=by rw [hW3];simp
    rw [←hW3] at HRow3 HoC3 hoR3 HT3 hgrow4
    have ty3:=row_ty HRow3.out
    have hr4:∀b,s.rs.ownBlock=some b→tyOf W3 b=some 155:=fun b hb=>owns_ty hoR3 hb
    have hg2:g2≠h:=by
      rcases hat4 with h' | h'
      · intro e;have:=hr4 g2 h';rw [e,ty3] at this;simp at this
      · omega
    have hhl3:=HRow3.out.lt
    have hrow4:(w4.setCell ⟨h,1,none⟩ (.slice (some ⟨g2,0,none⟩) (K+1) cap2)).rowIs h 37 9 (wc { s with cs:=.slice (some ⟨g1,0,none⟩) (K+1) cap1,rs:=.slice (some ⟨g2,0,none⟩) (K+1) cap2 }):=wc_set1 (HRow3.out.of_block (grown_other hgrow4 hr4 hhl3 (by rw [ty3];decide))) _
    have hoC4:(w4.setCell ⟨h,1,none⟩ (.slice (some ⟨g2,0,none⟩) (K+1) cap2)).ownsRow h 167 1 (.slice (some ⟨g1,0,none⟩) (K+1) cap1) (K+1) (xs++[.pointer (some ⟨b1,0,none⟩)]):=owns_of_block HoC3.out (fun b hb=>rc_keep hgrow4 hr4 ty3 (owns_ty HoC3.out hb) (by decide) (by decide))
    have hoR4:(w4.setCell ⟨h,1,none⟩ (.slice (some ⟨g2,0,none⟩) (K+1) cap2)).ownsRow h 155 1 (.slice (some ⟨g2,0,none⟩) (K+1) cap2) (K+1) (ys++[.pointer (some ⟨w1.heap.size,0,none⟩)]):=owns_of_block hown4 (fun b hb=>set_other (by simp [Value.ownBlock] at hb;omega))
    have hT4:Touch (fun q=>q=h∨s.cs.ownBlock=some q∨s.rs.ownBlock=some q) w2 (w4.setCell ⟨h,1,none⟩ (.slice (some ⟨g2,0,none⟩) (K+1) cap2)):=by
      have t2:=(HT3.out.alloc _).grown hgrow4 (fun b hb=>.inl (.inr (.inr hb)))
      exact t2.setCell (.inl (.inl rfl)) _
    have hG2:s.rs.ownBlock=some g2∨w2.heap.size≤g2:=by
      rcases hat4 with h' | h'
      · exact .inl h'
      · exact .inr (by omega)
    have hne4:some h≠s.rs.ownBlock:=fun e=>by have:=hr4 h e.symm;rw [ty3] at this;simp at this
    have hh3:h<w3.heap.size:=by omega
    have c4:=(hgrow4.cell_far ⟨h,1,none⟩ (by simp;omega) hne4).trans (by rw [hW3];go_simp:_=some s.rs)
    have z4:=(hgrow4.frozen_far ⟨h,1,none⟩ (by simp;omega) hne4).trans (by rw [hW3];go_simp:_=false)
    have HFin:=hide (And.intro hrow4 (And.intro hoC4 (And.intro hoR4 (And.intro hT4 hG2))))
    clear hown4 hgrow4 hat4 hoR3 hr4 hrow4 hoC4 hoR4 hW3 hne4 HRow3 HoC3 HT3 c0' z0' c1' z1' hT4 hG2
    go_wp2
    go_ret
    obtain ⟨hrow4,hoC4,hoR4,hT4,hG2⟩:=HFin.out
    have hI0:=HH0.out
    have hI4:=(hI0.below HB2.out).setC hrow4 (fun q hq hne=>hT4.block q (by have:=hI0.used_lt hq;omega) (fun e=>by
      rcases e with e | e
      · exact hne e
      · exact (HC0.out.own q e).1 hq))
    have hB4:Below h w2 (w4.setCell ⟨h,1,none⟩ (.slice (some ⟨g2,0,none⟩) (K+1) cap2)):=hT4.below (by omega) (fun q hq=>by
      rcases hq with rfl | hq | hq
      · exact Nat.le_refl _
      · exact (HC0.out.oC.lt q hq).1
      · exact (HC0.out.oR.lt q hq).1)
    refine ⟨rfl,(HB2.out.mono (by omega)).trans hB4,_,K+1,_,_,_,hI4,HC0.out.grow (b1:=b1) (r1:=w1.heap.size) hI0 HB2.out hT4 (by rw [←HXY.out.1];exact hoC4) (by rw [←HXY.out.2];exact hoR4) (fun q hq=>?_) (fun q hq=>?_) HP.out,rfl,Nat.le_refl _⟩
    · simp [Value.ownBlock] at hq;subst hq;exact HG1.out
    · simp [Value.ownBlock] at hq;subst hq;exact hG2
set_option maxRecDepth 100000 in
theorem sameSpots_any (v v':Value) (base base':Nat) (l:List (Int×Int)) (w:World) (hl:l.length≤4294967296) (h1:w.ownsRow base 42 2 v l.length (l.flatMap spC)) (h2:w.ownsRow base' 42 2 v' l.length (l.flatMap spC)) :
    Calls Tryz.prog 36 #[v,v'] w fun e w'=>e=.returned (.bool true)∧∃nd,w'=w.drewN nd:=by
  obtain ⟨ao,cap,rfl,ha⟩:=owns_formN h1
  obtain ⟨ao',cap',rfl,ha'⟩:=owns_formN h2
  have H1:=hide h1
  have H2:=hide h2
  have HA:=hide ha
  have HA':=hide ha'
  clear h1 h2 ha ha'
  obtain ⟨n,hn⟩:∃n,n=l.length:=⟨_,rfl⟩
  rw [←hn] at hl ⊢
  have HN:=hide hn
  clear hn
  go_enter Tryz.func36,Tryz.ntmps36
  go_wp2_with fail
  go_loopw [5] (fun i wr=>∃k nd:Nat,k≤n∧i=.int .i64 k∧wr=w.drewN nd) (fun i _=>n-(intOf i).toNat)
  case atStart=>exact ⟨0,0,by omega,rfl,rfl⟩
  case round=>
    obtain ⟨k,nd,hk,rfl,rfl⟩:=hrel
    by_cases hlt:k<n
    · obtain ⟨b,rfl⟩:=HA.out (by rw [←HN.out];omega)
      obtain ⟨b',rfl⟩:=HA'.out (by rw [←HN.out];omega)
      have hkl:k<l.length:=by rw [←HN.out];exact hlt
      obtain ⟨q0,q1⟩:=owns_sp H1.out k hkl
      obtain ⟨r0,r1⟩:=owns_sp H2.out k hkl
      obtain ⟨S,hS⟩:∃S,S=l[k]:=⟨_,rfl⟩
      rw [←hS] at q0 q1 r0 r1
      clear hS
      have g0:(0:Int)≤(k:Int):=by omega
      have g1:(k:Int)<(n:Int):=by omega
      have hd1:decide ((k:Int)<(n:Int))=true:=by simp;omega
      go_wp2
      go_quiet (fail)
      go_wp2
      go_roundw
      case rel=>exact ⟨k+1,nd+nq,by omega,by go_num,rfl⟩
      case measure=>simp [intOf];omega
    · go_wp2
      go_ret
      exact ⟨rfl,nd,rfl⟩
theorem info_ht:(Tryz.prog.info? 134).map (fun i=>(i.zero,i.size,i.bytes))=some (some (.agg #[.slice none 0 0,.int .i64 0]),2,32):=by kernel_rfl
theorem markT_step {wr:World} {b m i:Nat} {t:TypeId} {f:Nat→Value} {mk:Int} (h:wr.rowIs b t (m*2) f) (hf:∀q,q<i*2→f q=mkT mk q) (wr2:World) (hb:wr2.heap[b]? = wr.heap[b]?) :
    ∃f',((wr2.setCell ⟨b,i*2,none⟩ (.int .i64 (2199023255552+mk))).setCell ⟨b,i*2+1,none⟩ (.int .i64 (-7))).rowIs b t (m*2) f'∧∀q,q<(i+1)*2→f' q=mkT mk q:=by
  refine ⟨_,(((h.of_block hb).set (i*2) _).set (i*2+1) _),fun q hq=>?_⟩
  by_cases e1:q=i*2+1
  · subst e1;rw [if_pos rfl];unfold mkT;rw [if_neg (by omega)]
  rw [if_neg e1]
  by_cases e0:q=i*2
  · subst e0;rw [if_pos rfl];unfold mkT;rw [if_pos (by omega)]
  rw [if_neg e0]
  exact hf q (by omega)
theorem markSpot_b (n:Int) (w:World) (h0:0≤n) (h1:n≤1099511627776) :
    Calls Tryz.prog 63 #[.int .i64 n] w fun e w'=>e=.returned (.agg #[.int .i64 (2199023255552+n),.int .i64 (-7)])∧Below w.heap.size w w':=
  (markSpot_any n w h0 h1).mono fun e w' ⟨he,hw⟩=>⟨he,by rw [hw];(repeat any_goals first | exact .refl _ _ | assumption | refine .drew ?_ | refine below_drewN ?_ _ | refine .setCell ?_ ?_ _ | refine .alloc ?_ ?_ _ | omega | (simp <;> omega))⟩
def spotS (h:Nat) (s:HS) (x:Value) (b:Nat):Prop:=b=h∨s.vT.ownBlock=some b∨x.ownBlock=some b
def HS.Free (s:HS) (b:Nat):Prop:=(∀e∈s.T,e.1≠some b)∧∀e∈s.R,∀i,i<e.2.1→e.2.2.1 i≠b
structure SpotsKept (w:World) (s s':HS) (x:Value):Prop where
  n:s'.n=s.n+1
  cs:s'.cs=s.cs
  rs:s'.rs=s.rs
  P:s'.P=s.P
  O:s'.O=s.O
  S:s'.S=s.S
  R:s'.R=s.R
  vR:s'.vR=s.vR
  T:∀e∈s'.T,e∈s.T∨e.1=x.ownBlock
  vT:s'.vT.ownBlock=s.vT.ownBlock∨∃g,s'.vT.ownBlock=some g∧w.heap.size≤g
  used:∀h q,Used h s' q→Used h s q∨x.ownBlock=some q∨w.heap.size≤q
set_option maxRecDepth 100000 in
theorem heldSpots_any (h n base:Nat) (x:Value) (xs:List Value) (s:HS) (w:World) (H:HeldInv w h s) (hx:w.ownsRow base 42 2 x n xs) (hne:∀b,x.ownBlock=some b→s.Free b) (hn:s.n+1≤1099511627776) :
    Calls Tryz.prog 37 #[.pointer (some ⟨h,2,none⟩),x] w fun e w'=>e=.returned (.tuple #[])∧Touch (spotS h s x) w w'∧∃s',HeldInv w' h s'∧SpotsKept w s s' x:=by
  have l0:0≤s.n:=by have:=H.lo;omega
  have HH:=hide H
  have HNe:=hide hne
  have hform:∃(ao:Option Nat) (cap:Nat),x=.slice (ao.map fun b=>⟨b,0,none⟩) n cap∧n≤cap∧(cap:Int)≤9223372036854775807∧x.ownBlock=ao∧(ao=none→cap=0)∧∀b,ao=some b→∃f,w.rowIs b 42 (cap*2) f:=by
    rcases hx.2 with ⟨rfl,h0⟩ | ⟨g,cap,cur,rfl,_,hg,hle,hcap,hsz,_⟩
    · exact ⟨none,0,by rw [h0];rfl,by omega,by omega,rfl,fun _=>rfl,fun b hb=>by cases hb⟩
    · refine ⟨some g,cap,rfl,hle,by unfold maxLen at hcap;omega,rfl,(fun e=>by cases e),fun b hb=>?_⟩
      simp at hb;subst hb
      exact ⟨fun q=>cur[q]?.getD undef,cur,hg,hsz,fun i hi=>by simp [show i<cur.size by omega]⟩
  obtain ⟨ao,cap,rfl,hle,hcap,hob,hnil,hrow⟩:=hform
  have HRow:=hide hrow
  have HNil:=hide hnil
  have HOB:=hide hob
  clear H hx hne hrow hob
  obtain ⟨ad,had⟩:∃ad,ad=ao.map (fun b=>(⟨b,0,none⟩:Addr)):=⟨_,rfl⟩
  rw [←had]
  have HAD:=hide had
  clear had
  have hcapn:ad=none→cap=0:=fun e=>by
    have:=HAD.out
    rw [e] at this
    cases ao with
    | none=>exact hnil rfl
    | some b=>simp at this
  clear hnil
  go_enter Tryz.func37,Tryz.ntmps37
  go_wp2_with fail
  refine (mark_any h _ _ HH.out hn).mono ?_
  rintro e w1 ⟨rfl,hw1⟩
  have hT1:Touch (fun b=>b=h) w w1:=by rw [hw1];exact Touch.setCell (S:=fun b=>b=h) (Touch.refl _ _) (.inl (by rfl)) _
  have hI1:HeldInv w1 h { s with n:=s.n+1 }:=by rw [hw1];exact HH.out.marked hn
  have hR1:∀b,ao=some b→∃f,w1.rowIs b 42 (cap*2) f:=fun b hb=>by
    obtain ⟨f,hf⟩:=HRow.out b hb
    exact ⟨f,hT1.row hf (row_ne hf HH.out.wd (by decide))⟩
  have HT1:=hide hT1
  have HI1:=hide hI1
  have HR1:=hide hR1
  clear hw1 hT1 hI1 hR1
  obtain ⟨mk,hmk⟩:∃mk,mk=s.n+1:=⟨_,rfl⟩
  rw [←hmk]
  have m0:0≤mk:=by omega
  have m1:mk≤1099511627776:=by omega
  have HM:=hide hmk
  clear hmk
  go_wp2_with fail
  go_loopw [6] (fun t wr=>∃i:Nat,i≤cap∧t=.int .i64 i∧Touch (fun b=>ao=some b) w1 wr∧∀b,ao=some b→∃f,wr.rowIs b 42 (cap*2) f∧∀q,q<i*2→f q=mkT mk q) (fun t _=>cap-(intOf t).toNat)
  case atStart=>
    refine ⟨0,by omega,rfl,Touch.refl _ _,fun b hb=>?_⟩
    obtain ⟨f,hf⟩:=HR1.out b hb
    exact ⟨f,hf,by omega⟩
  case round=>
    obtain ⟨i,hi,rfl,hq,hrows⟩:=hrel
    by_cases hlt:i<cap
    · have hd1:decide ((i:Int)<(cap:Int))=true:=by simp;omega
      have hex:∃b,ao=some b:=by
        cases hao:ao with
        | none=>
          exfalso
          have:=hcapn (by rw [HAD.out,hao];rfl)
          omega
        | some b=>exact ⟨b,rfl⟩
      obtain ⟨b,hao⟩:=hex
      obtain ⟨f,hr,hf⟩:=hrows b hao
      have had:ad=some ⟨b,0,none⟩:=by rw [HAD.out,hao];rfl
      subst had
      have hbl:=hr.lt
      have HQ:=hide hq
      have HRw:=hide (And.intro hr hf)
      clear hq hrows hr hf
      have g0:(0:Int)≤(i:Int):=by omega
      have g1:(i:Int)<(cap:Int):=by omega
      go_wp2_with fail
      refine (markSpot_b _ _ m0 m1).mono ?_
      rintro e w2 ⟨rfl,hb2⟩
      have hr2:=row_below HRw.out.1 hb2 hbl
      have c0:=hr2.cell (i:=i*2) (by omega)
      have z0:=hr2.frozen (i*2)
      have c1:=hr2.cell (i:=i*2+1) (by omega)
      have z1:=hr2.frozen (i*2+1)
      have hbl2:=hr2.lt
      have HSt:=hide (markT_step HRw.out.1 HRw.out.2 w2 (hb2.block b hbl))
      have HT2:=hide (HQ.out.of_below hb2)
      have HAo:=hide hao
      clear hr2 hb2 hao
      go_wp2
      go_roundw
      case rel=>
        obtain ⟨f',hf1,hf2⟩:=HSt.out
        refine ⟨i+1,by omega,by go_num,?_,fun b' hb'=>?_⟩
        · have hSb:(fun b=>ao=some b) b∨w1.heap.size≤b:=.inl HAo.out
          exact (HT2.out.setCell (p:=⟨b,i*2,none⟩) hSb _).setCell (p:=⟨b,i*2+1,none⟩) hSb _
        · have e:b'=b:=(Option.some.inj (HAo.out.symm.trans hb')).symm
          subst e
          exact ⟨f',hf1,hf2⟩
      case measure=>simp [intOf];omega
    · have e:i=cap:=by omega
      have hd0:decide ((i:Int)<(cap:Int))=false:=by simp;omega
      have hfull:∀b,ao=some b→wr.rowIs b 42 (cap*2) (mkT mk):=fun b hb=>by
        obtain ⟨f,hr,hf⟩:=hrows b hb
        exact hr.congr (fun q hq=>hf q (by omega))
      have hIw:HeldInv wr h { s with n:=s.n+1 }:=HI1.out.of_blocks fun b u=>hq.block b (HI1.out.used_lt u) (fun e=>by
        obtain ⟨f,hr⟩:=HR1.out b e
        have hF:=HNe.out b (by rw [HOB.out];exact e)
        rcases HI1.out.used_spot u (row_ty hr) with ⟨x,hx,hxb⟩ | ⟨x,hx,j,hj,hxb⟩
        · exact hF.1 x hx hxb
        · exact hF.2 x hx j hj hxb)
      have HFull:=hide hfull
      have HIw:=hide hIw
      have HQ:=hide hq
      clear hfull hIw hq hrows
      have c5:wr.cell? ⟨h,2+4,none⟩=some s.vT:=by rw [HIw.out.wd.cell (by omega)];rfl
      have z5:=HIw.out.wd.frozen 6
      have hhl:=HIw.out.wd.lt
      obtain ⟨i0,hi0,hz0,hz1,hz2⟩:=info_parts info_ht
      obtain ⟨ys,hys⟩:∃ys,ys=s.T.flatMap seC:=⟨_,rfl⟩
      have hoS:wr.ownsRow h 134 2 s.vT s.T.length ys:=by
        rw [hys];exact HIw.out.oT
      have HX2:=hide hys
      clear hys
      have hplen:(s.T.length:Int)≤1099511627776:=by
        have hlo:=HIw.out.lo
        simp at hlo;omega
      go_wp2_with (at_builtin;refine wpList_append_lies _ rfl _ _ 31 rfl h 134 i0 (.agg #[.slice none 0 0,.int .i64 0]) 2 32 Tryz.underlying31 hi0 hz0 hz1 hz2 rfl (by omega) s.vT s.T.length ys rfl (hoS.alloc _) ⟨wr.heap.size,0,none⟩ 1 1 [.slice ad cap cap,.int .i64 mk] rfl rfl ?d1 ?d2 (by omega) ?d3 ?d4 ?d5 (wr.heap.size+1) (by simp) ?_)
      try (case d1=>exact news_sp wr [.slice ad cap cap,.int .i64 mk] _ _ rfl)
      case d2=>first | exact ⟨rfl,rfl⟩ | (intro u hu;simp at hu;rcases hu with rfl | rfl <;> rfl)
      case d3=>unfold maxLen;omega
      case d4=>omega
      case d5=>first | omega | (simp;omega)
      intro g1 cap1 w2 hown2 hgrow hat hlt2
      rw [HM.out,HX2.out,HAD.out] at hown2
      have hty:some h≠s.vT.ownBlock:=fun e=>by
        have:=owns_ty hoS e.symm
        rw [row_ty HIw.out.wd] at this
        simp at this
      have hI2:HeldInv (w2.setCell ⟨h,6,none⟩ (.slice (some ⟨g1,0,none⟩) (s.T.length+1) cap1)) h { ({ s with n:=s.n+1 }:HS) with vT:=.slice (some ⟨g1,0,none⟩) (s.T.length+1) cap1,T:=s.T++[(ao,cap,s.n+1)] }:=
        HeldInv.pushT (b:=ao) (m:=cap) (g:=g1) (cap:=cap1) HIw.out (fun b hb=>by show wr.rowIs b _ (cap*2) (mkT (s.n+1));rw [←HM.out];exact HFull.out b hb) HNil.out hcap (by have:=HH.out.lo;simp at this ⊢;omega) hown2 hgrow hat
      have hT2:Touch (spotS h s (.slice (ao.map fun b=>⟨b,0,none⟩) n cap)) w (w2.setCell ⟨h,6,none⟩ (.slice (some ⟨g1,0,none⟩) (s.T.length+1) cap1)):=by
        have t0:Touch (spotS h s (.slice (ao.map fun b=>⟨b,0,none⟩) n cap)) w w:=Touch.refl _ _
        have t1:=t0.trans' HT1.out (fun x hx=>.inl (.inl hx))
        have t2:=t1.trans' HQ.out (fun x hx=>.inl (.inr (.inr (by rw [HOB.out];exact hx))))
        have t3:=(t2.alloc _).grown hgrow (fun b hb=>.inl (.inr (.inl hb)))
        exact t3.setCell (.inl (.inl (by rfl))) _
      have hsw:w.heap.size≤wr.heap.size:=Nat.le_trans HT1.out.size HQ.out.size
      have hK:SpotsKept w s { ({ s with n:=s.n+1 }:HS) with vT:=.slice (some ⟨g1,0,none⟩) (s.T.length+1) cap1,T:=s.T++[(ao,cap,s.n+1)] } (.slice (ao.map fun b=>⟨b,0,none⟩) n cap):=by
        refine ⟨rfl,rfl,rfl,rfl,rfl,rfl,rfl,rfl,fun e he=>?_,?_,fun h0 q u=>?_⟩
        · rcases List.mem_append.1 he with he | he
          · exact .inl he
          · simp at he;subst he;exact .inr HOB.out.symm
        · rcases hat with hat | hat
          · exact .inl (by rw [hat];rfl)
          · exact .inr ⟨g1,rfl,by omega⟩
        · rcases used_T (s:=s) u with u | u | ⟨e,he,u⟩
          · exact .inl u
          · simp [Value.ownBlock] at u
            subst u
            rcases hat with hat | hat
            · exact .inl (used_vT hat)
            · exact .inr (.inr (by omega))
          · rcases List.mem_append.1 he with he | he
            · exact .inl (used_eT ⟨e,he,u⟩)
            · simp at he;subst he;exact .inr (.inl (by rw [HOB.out];exact u))
      have HK:=hide hK
      have HI2:=hide hI2
      have HT2:=hide hT2
      have c5':=(hgrow.cell_far ⟨h,2+4,none⟩ (by simp;omega) hty).trans (by go_simp:_=some s.vT)
      have z5':=(hgrow.frozen_far ⟨h,6,none⟩ (by simp;omega) hty).trans (by go_simp:_=false)
      clear hown2 hgrow hat hty hoS hI2 hT2 hK
      go_wp2
      go_end0
      exact ⟨rfl,by rw [HAD.out];exact HT2.out,_,HI2.out,by rw [HAD.out];exact HK.out⟩
set_option maxRecDepth 100000 in
theorem sameRings_any (v v':Value) (base base' m:Nat) (V V':Nat→Value) (L:Nat→List (Int×Int)) (w:World) (hm:m≤4294967296) (hl:∀i,i<m→(L i).length≤4294967296) (h1:SpRings w base v m V L) (h2:SpRings w base' v' m V' L) :
    Calls Tryz.prog 40 #[v,v'] w fun e w'=>e=.returned (.bool true)∧Below w.heap.size w w'∧w'.heap=w.heap:=by
  obtain ⟨ao,cap,rfl,ha⟩:=owns_formN h1.outer
  obtain ⟨ao',cap',rfl,ha'⟩:=owns_formN h2.outer
  have H1:=hide h1
  have H2:=hide h2
  have HL:=hide hl
  have HA:=hide ha
  have HA':=hide ha'
  clear h1 h2 ha ha' hl
  go_enter Tryz.func40,Tryz.ntmps40
  go_wp2_with fail
  go_loopw [5] (fun i wr=>∃k:Nat,k≤m∧i=.int .i64 k∧Below w.heap.size w wr∧wr.heap=w.heap) (fun i _=>m-(intOf i).toNat)
  case atStart=>exact ⟨0,by omega,rfl,Below.refl _ _,rfl⟩
  case round=>
    obtain ⟨k,hk,rfl,hb,hheap⟩:=hrel
    by_cases hlt:k<m
    · obtain ⟨b,rfl⟩:=HA.out (by omega)
      obtain ⟨b',rfl⟩:=HA'.out (by omega)
      have q0:=H1.out.outer.cellAt k (by omega)
      have r0:=H2.out.outer.cellAt k (by omega)
      rw [List.getElem?_map,List.getElem?_range hlt] at q0 r0
      simp only [Option.map_some] at q0 r0
      have HCq:=hide (fun (W:World) (hW:W.heap=w.heap)=>sameSpots_any (V k) (V' k) base base' (L k) W (HL.out k hlt) (owns_of_block (H1.out.inner k hlt) (fun b _=>by rw [hW])) (owns_of_block (H2.out.inner k hlt) (fun b _=>by rw [hW])))
      obtain ⟨a1,c1,hv1,_⟩:=owns_formN (H1.out.inner k hlt)
      obtain ⟨a2,c2,hv2,_⟩:=owns_formN (H2.out.inner k hlt)
      rw [hv1] at q0 HCq
      rw [hv2] at r0 HCq
      clear hv1 hv2
      have q1:wr.cell? ⟨b,k,none⟩=some (.slice a1 (L k).length c1):=by rw [←q0];unfold World.cell?;rw [hheap]
      have r1:wr.cell? ⟨b',k,none⟩=some (.slice a2 (L k).length c2):=by rw [←r0];unfold World.cell?;rw [hheap]
      have HHp:=hide hheap
      have HB:=hide hb
      clear q0 r0 hheap hb
      have g0:(0:Int)≤(k:Int):=by omega
      have g1:(k:Int)<(m:Int):=by omega
      have hd1:decide ((k:Int)<(m:Int))=true:=by simp;omega
      go_wp2_with fail
      go_region_held3 (fun w'=>w'.cell? ⟨b,k,none⟩=some (.slice a1 (L k).length c1)∧w'.cell? ⟨b',k,none⟩=some (.slice a2 (L k).length c2)) (first | exact ⟨q1,r1⟩ | go_keep) ((go_at_call 36;refine (HCq.out wr.drew HHp.out).mono ?_;rintro e w' ⟨rfl,n5,rfl⟩))
      all_goals
        go_wp2
        go_roundw
        case rel=>exact ⟨k+1,by omega,by go_num,by have:=HB.out;(repeat any_goals first | exact .refl _ _ | assumption | refine .drew ?_ | refine below_drewN ?_ _ | refine .setCell ?_ ?_ _ | refine .alloc ?_ ?_ _ | omega | (simp <;> omega)),HHp.out⟩
        case measure=>simp [intOf];omega
    · go_wp2
      go_ret
      exact ⟨rfl,hb,hheap⟩
theorem info_hr:(Tryz.prog.info? 136).map (fun i=>(i.zero,i.size,i.bytes))=some (some (.agg #[.slice none 0 0,.int .i64 0]),2,32):=by kernel_rfl
theorem mkT_cells (n:Int) (w:World) (t:TypeId):(w.alloc (.cells #[.int .i64 (2199023255552+n),.int .i64 (-7)] t)).rowIs w.heap.size t 2 (mkT n):=by
  refine World.rowIs_alloc w #[.int .i64 (2199023255552+n),.int .i64 (-7)] t (mkT n) (fun i hi=>?_)
  have hi:i<2:=hi
  rcases (show i=0∨i=1 by omega) with rfl | rfl <;> rfl
theorem ring_step {w1 wr:World} {ob M k:Nat} {F:Nat→Nat} {f0:Nat→Value} {n:Int} {o:Obj} (hT:Touch (fun b=>b=ob) w1 wr)
    (hrow:wr.rowIs ob 88 M (fun j=>if j<k then .slice (some ⟨F j,0,none⟩) 1 1 else f0 j))
    (hF:∀j,j<k→w1.heap.size≤F j∧wr.rowIs (F j) 42 2 (mkT n)) :
    Touch (fun b=>b=ob) w1 (((wr.setCell ⟨ob,k,none⟩ (.slice (some ⟨wr.heap.size+1,0,none⟩) 1 1)).alloc o).alloc (.cells #[.int .i64 (2199023255552+n),.int .i64 (-7)] 42)) ∧
    ∃F':Nat→Nat,(((wr.setCell ⟨ob,k,none⟩ (.slice (some ⟨wr.heap.size+1,0,none⟩) 1 1)).alloc o).alloc (.cells #[.int .i64 (2199023255552+n),.int .i64 (-7)] 42)).rowIs ob 88 M (fun j=>if j<k+1 then .slice (some ⟨F' j,0,none⟩) 1 1 else f0 j) ∧
      ∀j,j<k+1→w1.heap.size≤F' j∧(((wr.setCell ⟨ob,k,none⟩ (.slice (some ⟨wr.heap.size+1,0,none⟩) 1 1)).alloc o).alloc (.cells #[.int .i64 (2199023255552+n),.int .i64 (-7)] 42)).rowIs (F' j) 42 2 (mkT n):=by
  have hs:=hT.size
  refine ⟨((hT.setCell (.inl (by rfl)) _).alloc _).alloc _,fun j=>if j=k then wr.heap.size+1 else F j,?_,?_⟩
  · refine (((hrow.set k _).alloc _).alloc _).congr fun j hj=>?_
    by_cases e:j=k
    · subst e;simp
    · by_cases e2:j<k
      · simp [e,e2,show j<k+1 by omega]
      · simp [e,e2,show ¬j<k+1 by omega]
  · intro j hj
    by_cases e:j=k
    · subst e
      simp only [if_pos]
      refine ⟨by omega,?_⟩
      have:=mkT_cells n ((wr.setCell ⟨ob,j,none⟩ (.slice (some ⟨wr.heap.size+1,0,none⟩) 1 1)).alloc o) 42
      rw [nblk_alloc,nblk_setCell] at this
      exact this
    · simp only [if_neg e]
      obtain ⟨h1,h2⟩:=hF j (by omega)
      exact ⟨h1,((h2.setOther (by simpa using row_ne h2 hrow (by decide)) _).alloc _).alloc _⟩
def ringS (h m:Nat) (s:HS) (x:Value) (V:Nat→Value) (b:Nat):Prop:=b=h∨s.vT.ownBlock=some b∨s.vR.ownBlock=some b∨x.ownBlock=some b∨∃i,i<m∧(V i).ownBlock=some b
def HS.UnderR (s:HS) (B:Nat):Prop:=(∀e∈s.T,∀b,e.1=some b→b<B)∧∀e∈s.R,(∀b,e.1=some b→b<B)∧∀i,i<e.2.1→e.2.2.1 i<B
theorem HeldInv.underR {w:World} {h:Nat} {s:HS} (H:HeldInv w h s):s.UnderR w.heap.size:=
  ⟨fun e he b hb=>(H.eT e he b hb).lt,fun e he=>⟨fun b hb=>(H.eR e he b hb).lt,fun i hi=>(H.eJ e he i hi).lt⟩⟩
structure RingSt (w wr:World) (h base k m:Nat) (s s':HS) (x:Value) (V:Nat→Value) (L:Nat→List (Int×Int)):Prop where
  inv:HeldInv wr h s'
  n:s'.n=s.n+k
  cs:s'.cs=s.cs
  rs:s'.rs=s.rs
  R:s'.R=s.R
  vR:s'.vR=s.vR
  T:∀e∈s'.T,e∈s.T∨∃i,i<k∧e.1=(V i).ownBlock
  vT:s'.vT.ownBlock=s.vT.ownBlock∨∃g,s'.vT.ownBlock=some g∧w.heap.size≤g
  used:∀q,Used h s' q→Used h s q∨(∃i,i<m∧(V i).ownBlock=some q)∨w.heap.size≤q
  touch:Touch (ringS h m s x V) w wr
  outer:wr.ownsRow base 88 1 x m ((List.range m).map V)
  inner:∀i,k≤i→i<m→wr.ownsRow base 42 2 (V i) (L i).length ((L i).flatMap spC)
theorem RingSt.free {w wr:World} {h base k m:Nat} {s s':HS} {x:Value} {V:Nat→Value} {L:Nat→List (Int×Int)} (H:RingSt w wr h base k m s s' x V L) (hx:SpRings w base x m V L) (hu:s.UnderR base) (hk:k<m):∀b,(V k).ownBlock=some b→s'.Free b:=by
  intro b hb
  have hge:=((hx.inner k hk).lt b hb).1
  refine ⟨fun e he e1=>?_,fun e he i hi e1=>?_⟩
  · rcases H.T e he with h1 | ⟨i,hi,h1⟩
    · have:=hu.1 e h1 b e1;omega
    · exact hx.inj i k (by omega) hk (by omega) b (by rw [←h1];exact e1) hb
  · rw [H.R] at he
    have:=(hu.2 e he).2 i hi
    omega
theorem RingSt.step {w wr w':World} {h base k m:Nat} {s s' s'':HS} {x:Value} {V:Nat→Value} {L:Nat→List (Int×Int)} (H:RingSt w wr h base k m s s' x V L) (hx:SpRings w base x m V L) (hk:k<m) (hT:Touch (spotS h s' (V k)) wr w') (hI:HeldInv w' h s'') (hK:SpotsKept wr s' s'' (V k)):RingSt w w' h base (k+1) m s s'' x V L:=by
  have hsz:=H.touch.size
  have tyH:=row_ty H.inv.wd
  have notS:∀b t,tyOf wr b=some t→t≠37→t≠134→(V k).ownBlock≠some b→¬spotS h s' (V k) b:=by
    rintro b t ht h1 h2 h3 (rfl | h4 | h4)
    · rw [tyH] at ht;simp at ht;exact h1 ht.symm
    · rw [owns_ty H.inv.oT h4] at ht;simp at ht;exact h2 ht.symm
    · exact h3 h4
  refine { inv:=hI,n:=by rw [hK.n,H.n];omega,cs:=hK.cs.trans H.cs,rs:=hK.rs.trans H.rs,R:=hK.R.trans H.R,vR:=hK.vR.trans H.vR,T:=?T,vT:=?vT,used:=?used,touch:=?touch,outer:=?outer,inner:=?inner }
  case T=>
    intro e he
    rcases hK.T e he with h1 | h1
    · rcases H.T e h1 with h2 | ⟨i,hi,h2⟩
      · exact .inl h2
      · exact .inr ⟨i,by omega,h2⟩
    · exact .inr ⟨k,by omega,h1⟩
  case vT=>
    rcases hK.vT with h1 | ⟨g,h1,h2⟩
    · rcases H.vT with h3 | ⟨g,h3,h4⟩
      · exact .inl (h1.trans h3)
      · exact .inr ⟨g,h1.trans h3,h4⟩
    · exact .inr ⟨g,h1,by omega⟩
  case used=>
    intro q u
    rcases hK.used h q u with h1 | h1 | h1
    · exact H.used q h1
    · exact .inr (.inl ⟨k,hk,h1⟩)
    · exact .inr (.inr (by omega))
  case touch=>
    refine H.touch.trans' hT (fun b hb=>?_)
    rcases hb with rfl | hb | hb
    · exact .inl (.inl rfl)
    · rcases H.vT with h3 | ⟨g,h3,h4⟩
      · exact .inl (.inr (.inl (h3 ▸ hb)))
      · rw [h3] at hb;simp at hb;subst hb;exact .inr h4
    · exact .inl (.inr (.inr (.inr (.inr ⟨k,hk,hb⟩))))
  case outer=>
    refine owns_of_block H.outer (fun b hb=>hT.block b (H.outer.lt b hb).2 (notS b _ (owns_ty H.outer hb) (by decide) (by decide) (fun e=>?_)))
    have h1:=owns_ty H.outer hb
    rw [owns_ty (H.inner k (Nat.le_refl _) hk) e] at h1
    simp at h1
  case inner=>
    intro i hi hm
    refine owns_of_block (H.inner i (by omega) hm) (fun b hb=>hT.block b ((H.inner i (by omega) hm).lt b hb).2 (notS b _ (owns_ty (H.inner i (by omega) hm) hb) (by decide) (by decide) (fun e=>?_)))
    exact hx.inj k i hk hm (by omega) b e hb
end Go.Proofs.YtkhcjkmifddlbabGreatDoor
