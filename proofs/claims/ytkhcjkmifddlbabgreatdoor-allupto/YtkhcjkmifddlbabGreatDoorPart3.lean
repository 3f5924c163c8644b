import Derived.Test.YtkhcjkmifddlbabGreatDoorPart2
import Derived.Test.YtkhcjkmifddlbabGreatDoorPart1
import Derived.Deep.AppendLies
set_option maxHeartbeats 8000000
namespace Go.Proofs.YtkhcjkmifddlbabGreatDoor
open Go.ChangeShapes Go.WideShapes Go.ChangeAt Go.RowKit Go.Deep
theorem cells_op:Tryz.prog.cellsOf 49=29:=by kernel_rfl
theorem cells_mp:Tryz.prog.cellsOf 40=6:=by kernel_rfl
theorem cells_str:Tryz.prog.cellsOf 9=1:=by kernel_rfl
theorem cells_out:Tryz.prog.cellsOf 38=1:=by kernel_rfl
theorem list12 {α:Type} {l:List α} (h:l.length=12):∃a b c d e f g i j k m n,l=[a,b,c,d,e,f,g,i,j,k,m,n]:=by
  match l,h with
  | [a,b,c,d,e,f,g,i,j,k,m,n],_=>exact ⟨a,b,c,d,e,f,g,i,j,k,m,n,rfl⟩
theorem list6s {α:Type} {l:List α} (h:l.length=6):∃a b c d e f,l=[a,b,c,d,e,f]:=by
  match l,h with
  | [a,b,c,d,e,f],_=>exact ⟨a,b,c,d,e,f,rfl⟩
section
variable {H:Type} {enc:TypeId×Value→H} {w:World} {spare:Nat→Bool} {held:Bool}
theorem bulk_gray {n:Nat} {d:DataW H} (h:n=0∨∃e0 e1 D S,d=.agg [e0,e1,.slice D S]∧D.length=n):n≤Rows.uptoBulk d:=by
  rcases h with h | ⟨e0,e1,D,S,rfl,rfl⟩
  · omega
  · have:=bulk_len D
    simp only [Rows.uptoBulk,Rows.uptoBulkAll]
    omega
set_option maxRecDepth 100000 in
theorem open_op {fuel:Nat} {cs:List Value} {x:DataW H×List MemPlace} (h:DataW.trod enc Tryz.prog w 0 spare held fuel 49 cs=some x):∃o:OpV,cs=opL o∧OpAt w o (Rows.uptoBulk x.1)∧o.N+1≤Rows.uptoBulk x.1:=by
  obtain ⟨xs,n,_,rfl,hl,hlen,hf⟩:=DataW.trod_struct Tryz.underlying49 h
  have hl29:cs.length=29:=by first | exact hl.trans cells_op | (rw [cells_op] at hl;exact hl) | (rw [cells_op] at hl;exact hl.symm)
  have hlen12:xs.length=12:=hlen
  obtain ⟨y0,y1,y2,y3,y4,y5,y6,y7,y8,y9,y10,y11,rfl⟩:=list12 hlen12
  have e0:=hf 0 _ rfl
  have e1:=hf 1 _ rfl
  have e2:=hf 2 _ rfl
  have e3:=hf 3 _ rfl
  have e4:=hf 4 _ rfl
  have e5:=hf 5 _ rfl
  have e6:=hf 6 _ rfl
  have e7:=hf 7 _ rfl
  have e8:=hf 8 _ rfl
  have e9:=hf 9 _ rfl
  have e10:=hf 10 _ rfl
  have e11:=hf 11 _ rfl
  change DataW.trod enc Tryz.prog w 0 spare held n 3 ((cs.drop 0).take (Tryz.prog.cellsOf 3))=some y0 at e0
  change DataW.trod enc Tryz.prog w 0 spare held n 3 ((cs.drop 1).take (Tryz.prog.cellsOf 3))=some y1 at e1
  change DataW.trod enc Tryz.prog w 0 spare held n 3 ((cs.drop 2).take (Tryz.prog.cellsOf 3))=some y2 at e2
  change DataW.trod enc Tryz.prog w 0 spare held n 3 ((cs.drop 3).take (Tryz.prog.cellsOf 3))=some y3 at e3
  change DataW.trod enc Tryz.prog w 0 spare held n 3 ((cs.drop 4).take (Tryz.prog.cellsOf 3))=some y4 at e4
  change DataW.trod enc Tryz.prog w 0 spare held n 3 ((cs.drop 5).take (Tryz.prog.cellsOf 3))=some y5 at e5
  change DataW.trod enc Tryz.prog w 0 spare held n 38 ((cs.drop 6).take (Tryz.prog.cellsOf 38))=some y6 at e6
  change DataW.trod enc Tryz.prog w 0 spare held n 40 ((cs.drop 7).take (Tryz.prog.cellsOf 40))=some y7 at e7
  change DataW.trod enc Tryz.prog w 0 spare held n 44 ((cs.drop 13).take (Tryz.prog.cellsOf 44))=some y8 at e8
  change DataW.trod enc Tryz.prog w 0 spare held n 47 ((cs.drop 22).take (Tryz.prog.cellsOf 47))=some y9 at e9
  change DataW.trod enc Tryz.prog w 0 spare held n 47 ((cs.drop 25).take (Tryz.prog.cellsOf 47))=some y10 at e10
  change DataW.trod enc Tryz.prog w 0 spare held n 9 ((cs.drop 28).take (Tryz.prog.cellsOf 9))=some y11 at e11
  rw [cells_i] at e0 e1 e2 e3 e4 e5
  rw [cells_out] at e6
  rw [cells_mp] at e7
  rw [cellsSegB] at e8
  rw [cells_gray] at e9 e10
  rw [cells_str] at e11
  obtain ⟨z0,k0,_,_⟩:=DataW.trod_int Tryz.underlying3 e0
  obtain ⟨z1,k1,_,_⟩:=DataW.trod_int Tryz.underlying3 e1
  obtain ⟨z2,k2,_,_⟩:=DataW.trod_int Tryz.underlying3 e2
  obtain ⟨z3,k3,_,_⟩:=DataW.trod_int Tryz.underlying3 e3
  obtain ⟨z4,k4,_,_⟩:=DataW.trod_int Tryz.underlying3 e4
  obtain ⟨z5,k5,_,wf5⟩:=DataW.trod_int Tryz.underlying3 e5
  obtain ⟨zs,k7,hz7,_,_⟩:=struct_ints Tryz.underlying40 Tryz.underlying3 cells_i cells_mp (by
    intro i hi
    have hi:i<6:=hi
    rcases (show i=0∨i=1∨i=2∨i=3∨i=4∨i=5 by omega) with rfl | rfl | rfl | rfl | rfl | rfl <;> exact ⟨_,rfl,rfl,rfl⟩) e7
  have hz7:zs.length=6:=hz7
  obtain ⟨q0,q1,q2,q3,q4,q5,rfl⟩:=list6s hz7
  obtain ⟨s0,s1,s2,s3,s4,s5,s6,s7,s8,k8⟩:=trod_seg e8
  obtain ⟨uw,uh,ua,un,uc,U,k9,bU,rU,dU⟩:=open_gray e9
  obtain ⟨vw,vh,va,vn,vc,V,k10,bV,rV,dV⟩:=open_gray e10
  obtain ⟨t,k11,d11,_⟩:=DataW.trod_string Tryz.underlying9 e11
  clear e0 e1 e2 e3 e4 e5 e7 e8 e9 e10 e11 hf hl hlen hlen12 h
  match cs,hl29 with
  | [c0,c1,c2,c3,c4,c5,c6,c7,c8,c9,c10,c11,c12,c13,c14,c15,c16,c17,c18,c19,c20,c21,c22,c23,c24,c25,c26,c27,c28],_=>
    simp at k0 k1 k2 k3 k4 k5 k7 k8 k9 k10 k11
    have e6:DataW.trod enc Tryz.prog w 0 spare held n 38 [c6]=some y6:=e6
    obtain ⟨ad,N,cc,A,C,nn,X,Y,K,k6,ho,hN,hn,hS⟩:=open_outline e6
    have i6:Rows.uptoBulk y6.1+1≤Rows.uptoBulk (DataW.agg ([y0,y1,y2,y3,y4,y5,y6,y7,y8,y9,y10,y11].map (·.1))):=by
      simp only [Rows.uptoBulk,Rows.uptoBulkAll,List.map_cons];omega
    have i9:Rows.uptoBulk y9.1≤Rows.uptoBulk (DataW.agg ([y0,y1,y2,y3,y4,y5,y6,y7,y8,y9,y10,y11].map (·.1))):=by
      simp only [Rows.uptoBulk,Rows.uptoBulkAll,List.map_cons];omega
    have i10:Rows.uptoBulk y10.1≤Rows.uptoBulk (DataW.agg ([y0,y1,y2,y3,y4,y5,y6,y7,y8,y9,y10,y11].map (·.1))):=by
      simp only [Rows.uptoBulk,Rows.uptoBulkAll,List.map_cons];omega
    have i11:t.size≤Rows.uptoBulk (DataW.agg ([y0,y1,y2,y3,y4,y5,y6,y7,y8,y9,y10,y11].map (·.1))):=by
      have h3:t.data.toList.length=t.size:=by simp
      simp only [Rows.uptoBulk,Rows.uptoBulkAll,List.map_cons,d11];omega
    have m1:IntKind.i64.min = -9223372036854775808:=by decide
    have m2:IntKind.i64.max=9223372036854775807:=by decide
    simp only [Lit.wf,Bool.and_eq_true,decide_eq_true_eq,m1,m2] at wf5
    have j9:=bulk_gray dU
    have j10:=bulk_gray dV
    refine ⟨⟨z0,z1,z2,z3,z4,z5,ad,N,cc,A,C,nn,X,Y,K,q0,q1,q2,q3,q4,q5,s0,s1,s2,s3,s4,s5,s6,s7,s8,uw,uh,ua,un,uc,U,vw,vh,va,vn,vc,V,t⟩,?_,
      ⟨ho,by dsimp only;omega,fun i hi=>by have:=hn i hi;dsimp only;omega,by dsimp only;omega,bU,rU,by dsimp only;omega,bV,rV,by dsimp only;omega,i11,wf5⟩,by dsimp only;omega⟩
    simp [opL,k0,k1,k2,k3,k4,k5,k6,k7,k8,k9,k10,k11]
set_option maxRecDepth 100000 in
theorem open_script {fuel:Nat} {v:Value} {x:DataW H×List MemPlace} (h:DataW.trod enc Tryz.prog w 0 spare held fuel 22 [v]=some x) :
    ∃(a:Option Addr) (L c:Nat) (ops:Nat→OpV),v=.slice a L c∧ScrAt w a L ops∧L≤Rows.uptoBulk x.1∧(∀i,i<L→OpAt w (ops i) (Rows.uptoBulk x.1))∧Num.sumN (fun i=>(ops i).N) L≤Rows.uptoBulk x.1:=by
  rcases open_slice Tryz.underlying22 h with ⟨hcs,rfl⟩ | ⟨a,len,cap,m,n,D,Pl,hcs,_,hl,hm,hmm,rfl,hx⟩
  · simp at hcs
    exact ⟨none,0,0,fun _=>op0,hcs,.inl rfl,by omega,fun i hi=>by omega,by simp [Num.sumN]⟩
  · simp at hcs
    rw [cells_op] at hx
    have hlm:len≤m:=by rw [hmm];split <;> omega
    have key:∀i,∃o:OpV,i<len→(∀q,q<29→w.cell? ((a.add (i*29)).add q)=(opL o)[q]?)∧OpAt w o (Rows.uptoBulk (D i))∧o.N+1≤Rows.uptoBulk (D i):=by
      intro i
      by_cases hi:i<len
      · obtain ⟨cs',h1,h2⟩:=hx i (by omega)
        obtain ⟨o,rfl,h3,h4⟩:=open_op h2
        obtain ⟨_,_,h5⟩:=World.cells?_some h1
        refine ⟨o,fun _=>⟨fun q hq=>?_,h3,h4⟩⟩
        have:=h5 q (by omega)
        exact this
      · exact ⟨op0,fun h=>absurd h hi⟩
    obtain ⟨f,hf⟩:=Classical.skolem.1 key
    have ap:∀(l r:List (DataW H)),Rows.uptoBulkAll (l++r)=Rows.uptoBulkAll l+Rows.uptoBulkAll r:=by
      intro l r
      induction l with
      | nil=>simp [Rows.uptoBulkAll]
      | cons x l ih=>simp only [List.cons_append,Rows.uptoBulkAll,ih];omega
    have hstep:∀k,Rows.uptoBulkAll ((List.range (k+1)).map D)=Rows.uptoBulkAll ((List.range k).map D)+Rows.uptoBulk (D k):=fun k=>by
      rw [List.range_succ,List.map_append,ap];simp [Rows.uptoBulkAll]
    have hsum:∀k,k≤len→Num.sumN (fun i=>(f i).N) k≤Rows.uptoBulkAll ((List.range k).map D):=by
      intro k
      induction k with
      | zero=>intro _;simp [Num.sumN]
      | succ k ih=>
        intro hk
        have i1:=ih (by omega)
        have i2:=(hf k (by omega)).2.2
        rw [hstep]
        simp only [Num.sumN]
        omega
    have hmono:∀k,k≤len→∀i,i<k→Rows.uptoBulk (D i)≤Rows.uptoBulkAll ((List.range k).map D):=by
      intro k
      induction k with
      | zero=>intro _ i hi;omega
      | succ k ih=>
        intro hk i hi
        rw [hstep]
        by_cases e:i=k
        · subst e;omega
        · have:=ih (by omega) i (by omega);omega
    have hN:=bulk_len ((List.range len).map D)
    simp at hN
    have hS:=hsum len (Nat.le_refl _)
    have hb:Rows.uptoBulkAll ((List.range len).map D)≤Rows.uptoBulk (.slice ((List.range len).map D) ((List.range (m-len)).map fun j=>D (len+j))):=by
      simp only [Rows.uptoBulk];omega
    refine ⟨some a,len,cap,f,hcs,?_,by dsimp only;omega,fun i hi=>?_,by dsimp only;omega⟩
    · rcases Nat.eq_zero_or_pos len with h0 | h0
      · exact .inl h0
      · have c0:=(hf 0 h0).1 0 (by omega)
        have e:=addr_form (w:=w) (a:=a) (v:=.int .i64 (f 0).kd) (by simpa [Addr.add,opL] using c0)
        refine .inr ⟨a.block,a.off,by rw [←e],?_,fun i hi q hq=>?_⟩
        · refine Nat.lt_of_not_le fun hge=>?_
          rw [e] at c0
          simp [Addr.add,opL,World.cell?,Array.getElem?_eq_none hge] at c0
        · have c:=(hf i hi).1 q hq
          rw [e,addr_add,addr_add] at c
          exact c
    · have h1:=(hf i hi).2.1
      have h2:=hmono len (Nat.le_refl _) i hi
      dsimp only
      exact ⟨h1.out,by have:=h1.hN;omega,fun j hj=>by have:=h1.hn j hj;omega,by have:=h1.hS;omega,h1.bU,h1.rU,by have:=h1.hU;omega,h1.bV,h1.rV,by have:=h1.hV;omega,by have:=h1.ht;omega,h1.hk⟩
end
end Go.Proofs.YtkhcjkmifddlbabGreatDoor
namespace Go.Proofs.YtkhcjkmifddlbabGreatDoor
open Go.RowKit
theorem apart_any (n:Int) (w:World) (h1:-1000000≤n) (h2:n≤1000000) :
    Calls Tryz.prog 163 #[.int .i64 n] w fun e w'=>e=.returned (.int .i64 (Num.sz n))∧w'=w:=by
  by_cases a:n<0
  · go_enter Tryz.func163,Tryz.ntmps163
    go_wp2
    go_ret
    exact ⟨ret_int (by unfold Num.sz;rw [if_pos (by omega)]),rfl⟩
  · go_enter Tryz.func163,Tryz.ntmps163
    go_wp2
    go_ret
    exact ⟨ret_int (by unfold Num.sz;rw [if_neg (by omega)]),rfl⟩
theorem most_any (a b:Int) (w:World) :
    Calls Tryz.prog 129 #[.int .i64 a,.int .i64 b] w fun e w'=>e=.returned (.int .i64 (Num.gr a b))∧w'=w:=by
  by_cases h:b<a
  · go_enter Tryz.func129,Tryz.ntmps129
    go_wp2
    go_ret
    exact ⟨ret_int (by unfold Num.gr;rw [if_pos (by omega)]),rfl⟩
  · go_enter Tryz.func129,Tryz.ntmps129
    go_wp2
    go_ret
    exact ⟨ret_int (by unfold Num.gr;rw [if_neg (by omega)]),rfl⟩
theorem second_any (ax ay bx b2 cx cy:Int) (w:World) (h1:-16384≤ax∧ax≤16384) (h2:-16384≤ay∧ay≤16384) (h3:-16384≤bx∧bx≤16384) (h4:-16384≤b2∧b2≤16384) (h5:-16384≤cx∧cx≤16384) (h6:-16384≤cy∧cy≤16384) :
    Calls Tryz.prog 127 #[.agg #[.int .i64 ax,.int .i64 ay],.agg #[.int .i64 bx,.int .i64 b2],.agg #[.int .i64 cx,.int .i64 cy]] w fun e w'=>e=.returned (.int .i64 (Num.bendV ax ay bx b2 cx cy))∧Below w.heap.size w w':=by
  have HE:Hid (Num.bendV ax ay bx b2 cx cy=Num.gr (Num.sz (ax+cx-2*bx)) (Num.sz (ay+cy-2*b2))):=by
    unfold Hid Num.bendV
    rw [show ax-2*bx+cx=ax+cx-2*bx by omega,show ay-2*b2+cy=ay+cy-2*b2 by omega]
  go_enter Tryz.func127,Tryz.ntmps127
  go_wp2_with (first | (go_at_call 163;refine (apart_any _ _ (by omega) (by omega)).mono ?_;rintro e w' ⟨rfl,rfl⟩) | (go_at_call 129;refine (most_any _ _ _).mono ?_;rintro e w' ⟨rfl,rfl⟩))
  go_ret
  exact ⟨ret_int HE.out.symm,by (repeat any_goals first | exact .refl _ _ | assumption | refine .drew ?_ | refine below_drewN ?_ _ | refine .setCell ?_ ?_ _ | refine .alloc ?_ ?_ _ | omega | (simp <;> omega))⟩
theorem steps_any (d:Int) (w:World) (h:d≤196608) :
    Calls Tryz.prog 128 #[.int .i64 d] w fun e w'=>e=.returned (.int .i64 (Num.stepsV d))∧w'=w:=by
  have hS:=Num.stepsV_is h
  have hSle:=Num.stepsV_le h
  obtain ⟨S,hSe⟩:∃S,S=Num.stepsV d:=⟨_,rfl⟩
  rw [←hSe] at hS hSle ⊢
  have HS:=hide hS
  clear hSe hS
  go_enter Tryz.func128,Tryz.ntmps128
  go_wp2_with fail
  go_loop [3] (fun t=>∃q:Int,1≤q∧q≤S∧t=.int .i64 q) (fun t=>(S-intOf t).toNat)
  case atStart=>exact ⟨1,by omega,HS.out.1,rfl⟩
  case round=>
    obtain ⟨q,q1,q2,rfl⟩:=hrel
    obtain ⟨s1,s2⟩:=steps_round HS.out q1 q2
    have b1:=Num.sq_mono (a:=q) (b:=111) (by omega) (by omega)
    have b0:=Num.sq_mono (a:=0) (b:=q) (by omega) (by omega)
    by_cases hlt:16*q*q<d
    · have s3:=s1 hlt
      clear s1 s2
      go_wp2
      go_round
      case rel=>exact ⟨q+1,by omega,by omega,rfl⟩
      case measure=>simp [intOf];omega
    · have HE:=hide (s2 hlt)
      clear s1 s2
      go_wp2
      go_ret
      exact ⟨ret_int HE.out,rfl⟩
theorem parts_any (k x0 y0 x1 y1 x2 y2 x3 y3:Int) (w:World) (hr:Num.rangeB (⟨k,x0,y0,x1,y1,x2,y2,x3,y3⟩:Num.Sg)=true) :
    Calls Tryz.prog 78 #[.agg #[.int .i64 k,.int .i64 x0,.int .i64 y0,.int .i64 x1,.int .i64 y1,.int .i64 x2,.int .i64 y2,.int .i64 x3,.int .i64 y3]] w fun e w'=>e=.returned (.int .i64 (Num.stepsV (Num.needV (⟨k,x0,y0,x1,y1,x2,y2,x3,y3⟩:Num.Sg))))∧Below w.heap.size w w':=by
  obtain ⟨r0,r3,r1,r2⟩:=Num.range_yes hr
  have hneed:=Num.needV_bd hr
  obtain ⟨D,hD⟩:∃D,D=Num.needV (⟨k,x0,y0,x1,y1,x2,y2,x3,y3⟩:Num.Sg):=⟨_,rfl⟩
  rw [←hD] at hneed ⊢
  obtain ⟨a1,a2⟩:=Num.inB_yes r0
  obtain ⟨b1,b2⟩:=Num.inB_yes r3
  clear r0 r3 hr
  by_cases h1:k=1
  · subst h1
    obtain ⟨c1,c2⟩:=Num.inB_yes (r1 (.inl rfl))
    have HD:Hid (D=Num.bendV x0 y0 x1 y1 x3 y3):=by unfold Hid;rw [hD];simp [Num.needV]
    clear r1 r2 hD
    go_enter Tryz.func78,Tryz.ntmps78
    go_wp2_with fail
    refine (second_any _ _ _ _ _ _ _ a1 a2 c1 c2 b1 b2).mono ?_
    rw [←HD.out]
    rintro e w1 ⟨rfl,hb⟩
    have hb0:Below w.heap.size w w1:=Below.trans (by (repeat any_goals first | exact .refl _ _ | assumption | refine .drew ?_ | refine below_drewN ?_ _ | refine .setCell ?_ ?_ _ | refine .alloc ?_ ?_ _ | omega | (simp <;> omega))) (hb.mono (by simp))
    clear hb a1 a2 b1 b2 c1 c2
    go_wp2_with (go_at_call 128;refine (steps_any _ _ (by omega)).mono ?_;rintro e w' ⟨rfl,rfl⟩)
    go_ret
    exact ⟨rfl,hb0⟩
  · by_cases h2:k=2
    · subst h2
      obtain ⟨c1,c2⟩:=Num.inB_yes (r1 (.inr rfl))
      obtain ⟨d1,d2⟩:=Num.inB_yes (r2 rfl)
      have HD:Hid (D=3*Num.gr (Num.bendV x0 y0 x1 y1 x2 y2) (Num.bendV x1 y1 x2 y2 x3 y3)):=by unfold Hid;rw [hD];simp [Num.needV]
      have p:=Num.bendV_bd a1 a2 c1 c2 d1 d2
      have q:=Num.bendV_bd c1 c2 d1 d2 b1 b2
      have gb:=Num.gr_bd p.1 p.2 q.1 q.2
      clear r1 r2 hD p q
      rw [HD.out]
      go_enter Tryz.func78,Tryz.ntmps78
      go_wp2_with fail
      refine (second_any _ _ _ _ _ _ _ a1 a2 c1 c2 d1 d2).mono ?_
      rintro e w1 ⟨rfl,hb⟩
      obtain ⟨hc,hfz⟩:=bcell hb
      have hz:w.heap.size<w1.heap.size:=by have:=hb.size;simp at this;omega
      have hb0:Below w.heap.size w w1:=Below.trans (by (repeat any_goals first | exact .refl _ _ | assumption | refine .drew ?_ | refine below_drewN ?_ _ | refine .setCell ?_ ?_ _ | refine .alloc ?_ ?_ _ | omega | (simp <;> omega))) (hb.mono (by simp))
      have e3:w1.cell? ⟨w.heap.size,3,none⟩=some (.int .i64 x1):=by rw [hc _ _ (by simp)];go_simp
      have e4:w1.cell? ⟨w.heap.size,4,none⟩=some (.int .i64 y1):=by rw [hc _ _ (by simp)];go_simp
      have e5:w1.cell? ⟨w.heap.size,5,none⟩=some (.int .i64 x2):=by rw [hc _ _ (by simp)];go_simp
      have e6:w1.cell? ⟨w.heap.size,6,none⟩=some (.int .i64 y2):=by rw [hc _ _ (by simp)];go_simp
      have e7:w1.cell? ⟨w.heap.size,7,none⟩=some (.int .i64 x3):=by rw [hc _ _ (by simp)];go_simp
      have e8:w1.cell? ⟨w.heap.size,8,none⟩=some (.int .i64 y3):=by rw [hc _ _ (by simp)];go_simp
      clear hb hc hfz
      go_wp2_with fail
      refine (second_any _ _ _ _ _ _ _ c1 c2 d1 d2 b1 b2).mono ?_
      rintro e w2 ⟨rfl,hb2⟩
      have hb3:Below w.heap.size w w2:=hb0.trans (hb2.mono (by omega))
      clear hb2 hb0 a1 a2 b1 b2 c1 c2 d1 d2 e3 e4 e5 e6 e7 e8
      go_wp2_with (first | (go_at_call 129;refine (most_any _ _ _).mono ?_;rintro e w' ⟨rfl,rfl⟩) | (go_at_call 128;refine (steps_any _ _ (by omega)).mono ?_;rintro e w' ⟨rfl,rfl⟩))
      go_ret
      exact ⟨rfl,hb3⟩
    · have t1:(k == 1)=false:=by simpa using h1
      have t2:(k == 2)=false:=by simpa using h2
      have hD0:D=0:=by rw [hD];simp [Num.needV,h1,h2]
      have HS:=hide (Num.stepsV_zero (d:=D) (by omega))
      clear r1 r2 hD a1 a2 b1 b2 h1 h2
      rw [HS.out]
      go_enter Tryz.func78,Tryz.ntmps78
      go_wp2
      go_ret
      exact ⟨rfl,by (repeat any_goals first | exact .refl _ _ | assumption | refine .drew ?_ | refine below_drewN ?_ _ | refine .setCell ?_ ?_ _ | refine .alloc ?_ ?_ _ | omega | (simp <;> omega))⟩
theorem mx_bd {u i a b B:Int} (hu:-111≤u∧u≤111) (hi:-111≤i∧i≤111) (ha:-B≤a∧a≤B) (hb:-B≤b∧b≤B):-(222*B)≤Num.mx u i a b∧Num.mx u i a b≤222*B:=by
  have h1:=Num.mul_bd u a _ _ hu ha
  have h2:=Num.mul_bd i b _ _ hi hb
  unfold Num.mx
  omega
theorem mix_any (ax ay bx b2 i n:Int) (w:World) (hi:0≤i) (hin:i≤n) (hn:n≤111) (h1:-1000000000000≤ax∧ax≤1000000000000) (h2:-1000000000000≤ay∧ay≤1000000000000) (h3:-1000000000000≤bx∧bx≤1000000000000) (h4:-1000000000000≤b2∧b2≤1000000000000) :
    Calls Tryz.prog 79 #[.agg #[.int .i64 ax,.int .i64 ay],.agg #[.int .i64 bx,.int .i64 b2],.int .i64 i,.int .i64 n] w fun e w'=>e=.returned (.agg #[.int .i64 (Num.mx (n-i) i ax bx),.int .i64 (Num.mx (n-i) i ay b2)])∧Below w.heap.size w w':=by
  have u0:-111≤n-i∧n-i≤111:=by omega
  have i0:-111≤i∧i≤111:=by omega
  have m1:=Num.mul_bd (n-i) ax _ _ u0 h1
  have m2:=Num.mul_bd (n-i) ay _ _ u0 h2
  have m3:=Num.mul_bd i bx _ _ i0 h3
  have m4:=Num.mul_bd i b2 _ _ i0 h4
  clear u0 i0
  unfold Num.mx
  go_enter Tryz.func79,Tryz.ntmps79
  go_wp2
  refine bodyPost_ret (v:=.agg #[.int .i64 ((n-i)*ax+i*bx),.int .i64 ((n-i)*ay+i*b2)]) (by simp [results,Tryz.results79,go_sem]) rfl ⟨rfl,?_⟩
  clear h1 h2 h3 h4 m1 m2 m3 m4
  (repeat any_goals first | exact .refl _ _ | assumption | refine .drew ?_ | refine below_drewN ?_ _ | refine .setCell ?_ ?_ _ | refine .alloc ?_ ?_ _ | omega | (simp <;> omega))
theorem rounded_any (x y d:Int) (w:World) (hd1:1≤d) (hd2:d≤1000000000000) (h1:-1000000000000000≤x∧x≤1000000000000000) (h2:-1000000000000000≤y∧y≤1000000000000000) :
    Calls Tryz.prog 130 #[.agg #[.int .i64 x,.int .i64 y],.int .i64 d] w fun e w'=>e=.returned (.agg #[.int .i64 (Num.hu x d),.int .i64 (Num.hu y d)])∧Below w.heap.size w w':=by
  obtain ⟨x1,x2⟩:=h1
  obtain ⟨y1,y2⟩:=h2
  go_enter Tryz.func130,Tryz.ntmps130
  go_wp2_with (go_at_call 75;refine (half_any _ _ _ hd1 hd2 (by assumption) (by assumption)).mono ?_;rintro e w' ⟨rfl,rfl⟩)
  refine bodyPost_ret (v:=.agg #[.int .i64 (Num.hu x d),.int .i64 (Num.hu y d)]) (by simp [results,Tryz.results130,go_sem]) rfl ⟨rfl,?_⟩
  (repeat any_goals first | exact .refl _ _ | assumption | refine .drew ?_ | refine below_drewN ?_ _ | refine .setCell ?_ ?_ _ | refine .alloc ?_ ?_ _ | omega | (simp <;> omega))
theorem quads_any (k x0 y0 x1 y1 x2 y2 x3 y3 i n:Int) (w:World) (hi:0≤i) (hin:i≤n) (h1:1≤n) (hn:n≤111)
    (bx0:-16384≤x0∧x0≤16384) (by0:-16384≤y0∧y0≤16384) (bx1:-16384≤x1∧x1≤16384) (by1:-16384≤y1∧y1≤16384) (bx3:-16384≤x3∧x3≤16384) (by3:-16384≤y3∧y3≤16384) :
    Calls Tryz.prog 80 #[.agg #[.int .i64 k,.int .i64 x0,.int .i64 y0,.int .i64 x1,.int .i64 y1,.int .i64 x2,.int .i64 y2,.int .i64 x3,.int .i64 y3],.int .i64 i,.int .i64 n] w fun e w'=>e=.returned (.agg #[.int .i64 (Num.hu (Num.qSum (n-i) i x0 x1 x3) (n*n)),.int .i64 (Num.hu (Num.qSum (n-i) i y0 y1 y3) (n*n))])∧Below w.heap.size w w':=by
  have u0:-111≤n-i∧n-i≤111:=by omega
  have i0:-111≤i∧i≤111:=by omega
  have n0:-111≤n∧n≤111:=by omega
  have p4:=Num.mul_bd n n _ _ n0 n0
  have p5:=Num.mul3_bd n0 n0 n0
  have p6:1≤n*n:=by have:=Int.mul_le_mul h1 h1 (by omega) (by omega);omega
  have p7:1≤n*n*n:=by have:=Int.mul_le_mul p6 h1 (by omega) (by omega);omega
  obtain ⟨Ax,hAx⟩:∃z,z=Num.mx (n-i) i x0 x1:=⟨_,rfl⟩
  have bAx:-(222*16384)≤Ax∧Ax≤(222*16384):=by rw [hAx];exact mx_bd u0 i0 bx0 bx1
  obtain ⟨Ay,hAy⟩:∃z,z=Num.mx (n-i) i y0 y1:=⟨_,rfl⟩
  have bAy:-(222*16384)≤Ay∧Ay≤(222*16384):=by rw [hAy];exact mx_bd u0 i0 by0 by1
  obtain ⟨Bx,hBx⟩:∃z,z=Num.mx (n-i) i x1 x3:=⟨_,rfl⟩
  have bBx:-(222*16384)≤Bx∧Bx≤(222*16384):=by rw [hBx];exact mx_bd u0 i0 bx1 bx3
  obtain ⟨By,hBy⟩:∃z,z=Num.mx (n-i) i y1 y3:=⟨_,rfl⟩
  have bBy:-(222*16384)≤By∧By≤(222*16384):=by rw [hBy];exact mx_bd u0 i0 by1 by3
  obtain ⟨Sx,hSx⟩:∃z,z=Num.mx (n-i) i Ax Bx:=⟨_,rfl⟩
  have bSx:-(222*(222*16384))≤Sx∧Sx≤(222*(222*16384)):=by rw [hSx];exact mx_bd u0 i0 bAx bBx
  obtain ⟨Sy,hSy⟩:∃z,z=Num.mx (n-i) i Ay By:=⟨_,rfl⟩
  have bSy:-(222*(222*16384))≤Sy∧Sy≤(222*(222*16384)):=by rw [hSy];exact mx_bd u0 i0 bAy bBy
  have QSx:Hid (Num.qSum (n-i) i x0 x1 x3=Sx):=by unfold Hid;rw [hSx,hBx,hAx];exact (Num.mx_quad _ _ _ _ _).symm
  have QSy:Hid (Num.qSum (n-i) i y0 y1 y3=Sy):=by unfold Hid;rw [hSy,hBy,hAy];exact (Num.mx_quad _ _ _ _ _).symm
  rw [QSx.out,QSy.out]
  have HAx:=hide hAx
  have HAy:=hide hAy
  have HBx:=hide hBx
  have HBy:=hide hBy
  have HSx:=hide hSx
  have HSy:=hide hSy
  clear hAx hAy hBx hBy hSx hSy u0 i0 n0
  go_enter Tryz.func80,Tryz.ntmps80
  go_wp2_with fail
  refine (mix_any _ _ _ _ _ _ _ hi hin hn (by omega) (by omega) (by omega) (by omega)).mono ?_
  rw [←HAx.out,←HAy.out]
  rintro e w1 ⟨rfl,hb⟩
  obtain ⟨hc,hfz⟩:=bcell hb
  have hz1:w.heap.size+1<w1.heap.size:=by have:=hb.size;simp at this;omega
  have B1:Below w.heap.size w w1:=Below.trans (by (repeat any_goals first | exact .refl _ _ | assumption | refine .drew ?_ | refine below_drewN ?_ _ | refine .setCell ?_ ?_ _ | refine .alloc ?_ ?_ _ | omega | (simp <;> omega))) (hb.mono (by simp;omega))
  have HB1:=hide B1
  have zx1:w.heap.size<w1.heap.size:=by omega
  have f1_3:w1.cell? ⟨w.heap.size,3,none⟩=some (.int .i64 x1):=by rw [hc _ _ (by first | (simp;done) | (simp;omega))];go_simp
  have f1_4:w1.cell? ⟨w.heap.size,4,none⟩=some (.int .i64 y1):=by rw [hc _ _ (by first | (simp;done) | (simp;omega))];go_simp
  have f1_7:w1.cell? ⟨w.heap.size,7,none⟩=some (.int .i64 x3):=by rw [hc _ _ (by first | (simp;done) | (simp;omega))];go_simp
  have f1_8:w1.cell? ⟨w.heap.size,8,none⟩=some (.int .i64 y3):=by rw [hc _ _ (by first | (simp;done) | (simp;omega))];go_simp
  have r1_0:w1.cell? ⟨w.heap.size+1,0,none⟩=some (.int .i64 0):=by rw [hc _ _ (by first | (simp;done) | (simp;omega))];go_simp
  have z1_0:w1.frozen? ⟨w.heap.size+1,0,none⟩=false:=by rw [hfz _ _ (by first | (simp;done) | (simp;omega))];go_simp
  have r1_1:w1.cell? ⟨w.heap.size+1,1,none⟩=some (.int .i64 0):=by rw [hc _ _ (by first | (simp;done) | (simp;omega))];go_simp
  have z1_1:w1.frozen? ⟨w.heap.size+1,1,none⟩=false:=by rw [hfz _ _ (by first | (simp;done) | (simp;omega))];go_simp
  clear hb hc hfz B1
  go_wp2_with fail
  refine (mix_any _ _ _ _ _ _ _ hi hin hn (by omega) (by omega) (by omega) (by omega)).mono ?_
  rw [←HBx.out,←HBy.out]
  rintro e w2 ⟨rfl,hb⟩
  obtain ⟨hc,hfz⟩:=bcell hb
  have hz2:w1.heap.size<w2.heap.size:=by have:=hb.size;simp at this;omega
  have B2:Below w.heap.size w w2:=Below.trans HB1.out ((Below.alloc (Below.refl _ _) (Nat.le_refl _) _).trans (hb.mono (by simp)) |>.mono (by omega))
  have HB2:=hide B2
  have zx2:w.heap.size<w2.heap.size:=by omega
  have r2_0:w2.cell? ⟨w.heap.size+1,0,none⟩=some (.int .i64 0):=by rw [hc _ _ (by first | (simp;done) | (simp;omega))];go_simp
  have z2_0:w2.frozen? ⟨w.heap.size+1,0,none⟩=false:=by rw [hfz _ _ (by first | (simp;done) | (simp;omega))];go_simp
  have r2_1:w2.cell? ⟨w.heap.size+1,1,none⟩=some (.int .i64 0):=by rw [hc _ _ (by first | (simp;done) | (simp;omega))];go_simp
  have z2_1:w2.frozen? ⟨w.heap.size+1,1,none⟩=false:=by rw [hfz _ _ (by first | (simp;done) | (simp;omega))];go_simp
  have g2_Ax:w2.cell? ⟨w1.heap.size,0,none⟩=some (.int .i64 Ax):=by rw [hc _ _ (by first | (simp;done) | (simp;omega))];go_simp
  have g2_Ay:w2.cell? ⟨w1.heap.size,1,none⟩=some (.int .i64 Ay):=by rw [hc _ _ (by first | (simp;done) | (simp;omega))];go_simp
  have zy2:w.heap.size+1<w2.heap.size:=by omega
  clear hb hc hfz B2 r1_0 r1_1 z1_0 z1_1 f1_3 f1_4 f1_7 f1_8
  go_wp2_with fail
  refine (mix_any _ _ _ _ _ _ _ hi hin hn (by omega) (by omega) (by omega) (by omega)).mono ?_
  rw [←HSx.out,←HSy.out]
  rintro e w3 ⟨rfl,hb⟩
  obtain ⟨hc,hfz⟩:=bcell hb
  have hz3:w2.heap.size<w3.heap.size:=by have:=hb.size;simp at this;omega
  have B3:Below w.heap.size w w3:=Below.trans HB2.out ((Below.alloc (Below.refl _ _) (Nat.le_refl _) _).trans (hb.mono (by simp)) |>.mono (by omega))
  have HB3:=hide B3
  have zx3:w.heap.size<w3.heap.size:=by omega
  have r3_0:w3.cell? ⟨w.heap.size+1,0,none⟩=some (.int .i64 0):=by rw [hc _ _ (by first | (simp;done) | (simp;omega))];go_simp
  have z3_0:w3.frozen? ⟨w.heap.size+1,0,none⟩=false:=by rw [hfz _ _ (by first | (simp;done) | (simp;omega))];go_simp
  have r3_1:w3.cell? ⟨w.heap.size+1,1,none⟩=some (.int .i64 0):=by rw [hc _ _ (by first | (simp;done) | (simp;omega))];go_simp
  have z3_1:w3.frozen? ⟨w.heap.size+1,1,none⟩=false:=by rw [hfz _ _ (by first | (simp;done) | (simp;omega))];go_simp
  have zy3:w.heap.size+1<w3.heap.size:=by omega
  clear hb hc hfz B3 r2_0 r2_1 z2_0 z2_1 g2_Ax g2_Ay
  have t3_1:w1.heap.size<w3.heap.size:=by omega
  go_wp2_with fail
  refine (rounded_any _ _ _ _ (by omega) (by omega) (by omega) (by omega)).mono ?_
  rintro e w9 ⟨rfl,hb⟩
  obtain ⟨hc,hfz⟩:=bcell hb
  have hz9:w3.heap.size<w9.heap.size:=by have:=hb.size;simp at this;omega
  have zx9:w.heap.size<w9.heap.size:=by omega
  have zy9:w.heap.size+1<w9.heap.size:=by omega
  have B9:Below w.heap.size w w9:=Below.trans HB3.out ((Below.alloc (Below.refl _ _) (Nat.le_refl _) _).trans (hb.mono (by simp)) |>.mono (by omega))
  have s0:w9.cell? ⟨w.heap.size+1,0,none⟩=some (.int .i64 0):=by rw [hc _ _ (by first | (simp;done) | (simp;omega))];go_simp
  have q0:w9.frozen? ⟨w.heap.size+1,0,none⟩=false:=by rw [hfz _ _ (by first | (simp;done) | (simp;omega))];go_simp
  have s1:w9.cell? ⟨w.heap.size+1,1,none⟩=some (.int .i64 0):=by rw [hc _ _ (by first | (simp;done) | (simp;omega))];go_simp
  have q1:w9.frozen? ⟨w.heap.size+1,1,none⟩=false:=by rw [hfz _ _ (by first | (simp;done) | (simp;omega))];go_simp
  clear hb hc hfz r3_0 r3_1 z3_0 z3_1
  have HB9:=hide B9
  clear B9
  go_wp2
  refine bodyPost_ret (v:=.agg #[.int .i64 (Num.hu Sx (n*n)),.int .i64 (Num.hu Sy (n*n))]) (by simp [results,Tryz.results80,go_sem,s0,s1]) rfl ⟨rfl,?_⟩
  exact (HB9.out.setCell (Nat.le_succ _) _).setCell (Nat.le_succ _) _
theorem cubics_any (k x0 y0 x1 y1 x2 y2 x3 y3 i n:Int) (w:World) (hi:0≤i) (hin:i≤n) (h1:1≤n) (hn:n≤111)
    (bx0:-16384≤x0∧x0≤16384) (by0:-16384≤y0∧y0≤16384) (bx1:-16384≤x1∧x1≤16384) (by1:-16384≤y1∧y1≤16384) (bx2:-16384≤x2∧x2≤16384) (by2:-16384≤y2∧y2≤16384) (bx3:-16384≤x3∧x3≤16384) (by3:-16384≤y3∧y3≤16384) :
    Calls Tryz.prog 81 #[.agg #[.int .i64 k,.int .i64 x0,.int .i64 y0,.int .i64 x1,.int .i64 y1,.int .i64 x2,.int .i64 y2,.int .i64 x3,.int .i64 y3],.int .i64 i,.int .i64 n] w fun e w'=>e=.returned (.agg #[.int .i64 (Num.hu (Num.cSum (n-i) i x0 x1 x2 x3) (n*n*n)),.int .i64 (Num.hu (Num.cSum (n-i) i y0 y1 y2 y3) (n*n*n))])∧Below w.heap.size w w':=by
  have u0:-111≤n-i∧n-i≤111:=by omega
  have i0:-111≤i∧i≤111:=by omega
  have n0:-111≤n∧n≤111:=by omega
  have p4:=Num.mul_bd n n _ _ n0 n0
  have p5:=Num.mul3_bd n0 n0 n0
  have p6:1≤n*n:=by have:=Int.mul_le_mul h1 h1 (by omega) (by omega);omega
  have p7:1≤n*n*n:=by have:=Int.mul_le_mul p6 h1 (by omega) (by omega);omega
  obtain ⟨Ax,hAx⟩:∃z,z=Num.mx (n-i) i x0 x1:=⟨_,rfl⟩
  have bAx:-(222*16384)≤Ax∧Ax≤(222*16384):=by rw [hAx];exact mx_bd u0 i0 bx0 bx1
  obtain ⟨Ay,hAy⟩:∃z,z=Num.mx (n-i) i y0 y1:=⟨_,rfl⟩
  have bAy:-(222*16384)≤Ay∧Ay≤(222*16384):=by rw [hAy];exact mx_bd u0 i0 by0 by1
  obtain ⟨Bx,hBx⟩:∃z,z=Num.mx (n-i) i x1 x2:=⟨_,rfl⟩
  have bBx:-(222*16384)≤Bx∧Bx≤(222*16384):=by rw [hBx];exact mx_bd u0 i0 bx1 bx2
  obtain ⟨By,hBy⟩:∃z,z=Num.mx (n-i) i y1 y2:=⟨_,rfl⟩
  have bBy:-(222*16384)≤By∧By≤(222*16384):=by rw [hBy];exact mx_bd u0 i0 by1 by2
  obtain ⟨Cx,hCx⟩:∃z,z=Num.mx (n-i) i x2 x3:=⟨_,rfl⟩
  have bCx:-(222*16384)≤Cx∧Cx≤(222*16384):=by rw [hCx];exact mx_bd u0 i0 bx2 bx3
  obtain ⟨Cy,hCy⟩:∃z,z=Num.mx (n-i) i y2 y3:=⟨_,rfl⟩
  have bCy:-(222*16384)≤Cy∧Cy≤(222*16384):=by rw [hCy];exact mx_bd u0 i0 by2 by3
  obtain ⟨Ux,hUx⟩:∃z,z=Num.mx (n-i) i Ax Bx:=⟨_,rfl⟩
  have bUx:-(222*(222*16384))≤Ux∧Ux≤(222*(222*16384)):=by rw [hUx];exact mx_bd u0 i0 bAx bBx
  obtain ⟨Uy,hUy⟩:∃z,z=Num.mx (n-i) i Ay By:=⟨_,rfl⟩
  have bUy:-(222*(222*16384))≤Uy∧Uy≤(222*(222*16384)):=by rw [hUy];exact mx_bd u0 i0 bAy bBy
  obtain ⟨Vx,hVx⟩:∃z,z=Num.mx (n-i) i Bx Cx:=⟨_,rfl⟩
  have bVx:-(222*(222*16384))≤Vx∧Vx≤(222*(222*16384)):=by rw [hVx];exact mx_bd u0 i0 bBx bCx
  obtain ⟨Vy,hVy⟩:∃z,z=Num.mx (n-i) i By Cy:=⟨_,rfl⟩
  have bVy:-(222*(222*16384))≤Vy∧Vy≤(222*(222*16384)):=by rw [hVy];exact mx_bd u0 i0 bBy bCy
  obtain ⟨Sx,hSx⟩:∃z,z=Num.mx (n-i) i Ux Vx:=⟨_,rfl⟩
  have bSx:-(222*(222*(222*16384)))≤Sx∧Sx≤(222*(222*(222*16384))):=by rw [hSx];exact mx_bd u0 i0 bUx bVx
  obtain ⟨Sy,hSy⟩:∃z,z=Num.mx (n-i) i Uy Vy:=⟨_,rfl⟩
  have bSy:-(222*(222*(222*16384)))≤Sy∧Sy≤(222*(222*(222*16384))):=by rw [hSy];exact mx_bd u0 i0 bUy bVy
  have QSx:Hid (Num.cSum (n-i) i x0 x1 x2 x3=Sx):=by unfold Hid;rw [hSx,hVx,hUx,hCx,hBx,hAx];exact (Num.mx_cubic _ _ _ _ _ _).symm
  have QSy:Hid (Num.cSum (n-i) i y0 y1 y2 y3=Sy):=by unfold Hid;rw [hSy,hVy,hUy,hCy,hBy,hAy];exact (Num.mx_cubic _ _ _ _ _ _).symm
  rw [QSx.out,QSy.out]
  have HAx:=hide hAx
  have HAy:=hide hAy
  have HBx:=hide hBx
  have HBy:=hide hBy
  have HCx:=hide hCx
  have HCy:=hide hCy
  have HUx:=hide hUx
  have HUy:=hide hUy
  have HVx:=hide hVx
  have HVy:=hide hVy
  have HSx:=hide hSx
  have HSy:=hide hSy
  clear hAx hAy hBx hBy hCx hCy hUx hUy hVx hVy hSx hSy u0 i0 n0
  go_enter Tryz.func81,Tryz.ntmps81
  go_wp2_with fail
  refine (mix_any _ _ _ _ _ _ _ hi hin hn (by omega) (by omega) (by omega) (by omega)).mono ?_
  rw [←HAx.out,←HAy.out]
  rintro e w1 ⟨rfl,hb⟩
  obtain ⟨hc,hfz⟩:=bcell hb
  have hz1:w.heap.size+1<w1.heap.size:=by have:=hb.size;simp at this;omega
  have B1:Below w.heap.size w w1:=Below.trans (by (repeat any_goals first | exact .refl _ _ | assumption | refine .drew ?_ | refine below_drewN ?_ _ | refine .setCell ?_ ?_ _ | refine .alloc ?_ ?_ _ | omega | (simp <;> omega))) (hb.mono (by simp;omega))
  have HB1:=hide B1
  have zx1:w.heap.size<w1.heap.size:=by omega
  have f1_3:w1.cell? ⟨w.heap.size,3,none⟩=some (.int .i64 x1):=by rw [hc _ _ (by first | (simp;done) | (simp;omega))];go_simp
  have f1_4:w1.cell? ⟨w.heap.size,4,none⟩=some (.int .i64 y1):=by rw [hc _ _ (by first | (simp;done) | (simp;omega))];go_simp
  have f1_5:w1.cell? ⟨w.heap.size,5,none⟩=some (.int .i64 x2):=by rw [hc _ _ (by first | (simp;done) | (simp;omega))];go_simp
  have f1_6:w1.cell? ⟨w.heap.size,6,none⟩=some (.int .i64 y2):=by rw [hc _ _ (by first | (simp;done) | (simp;omega))];go_simp
  have f1_7:w1.cell? ⟨w.heap.size,7,none⟩=some (.int .i64 x3):=by rw [hc _ _ (by first | (simp;done) | (simp;omega))];go_simp
  have f1_8:w1.cell? ⟨w.heap.size,8,none⟩=some (.int .i64 y3):=by rw [hc _ _ (by first | (simp;done) | (simp;omega))];go_simp
  have r1_0:w1.cell? ⟨w.heap.size+1,0,none⟩=some (.int .i64 0):=by rw [hc _ _ (by first | (simp;done) | (simp;omega))];go_simp
  have z1_0:w1.frozen? ⟨w.heap.size+1,0,none⟩=false:=by rw [hfz _ _ (by first | (simp;done) | (simp;omega))];go_simp
  have r1_1:w1.cell? ⟨w.heap.size+1,1,none⟩=some (.int .i64 0):=by rw [hc _ _ (by first | (simp;done) | (simp;omega))];go_simp
  have z1_1:w1.frozen? ⟨w.heap.size+1,1,none⟩=false:=by rw [hfz _ _ (by first | (simp;done) | (simp;omega))];go_simp
  clear hb hc hfz B1
  go_wp2_with fail
  refine (mix_any _ _ _ _ _ _ _ hi hin hn (by omega) (by omega) (by omega) (by omega)).mono ?_
  rw [←HBx.out,←HBy.out]
  rintro e w2 ⟨rfl,hb⟩
  obtain ⟨hc,hfz⟩:=bcell hb
  have hz2:w1.heap.size<w2.heap.size:=by have:=hb.size;simp at this;omega
  have B2:Below w.heap.size w w2:=Below.trans HB1.out ((Below.alloc (Below.refl _ _) (Nat.le_refl _) _).trans (hb.mono (by simp)) |>.mono (by omega))
  have HB2:=hide B2
  have zx2:w.heap.size<w2.heap.size:=by omega
  have f2_5:w2.cell? ⟨w.heap.size,5,none⟩=some (.int .i64 x2):=by rw [hc _ _ (by first | (simp;done) | (simp;omega))];go_simp
  have f2_6:w2.cell? ⟨w.heap.size,6,none⟩=some (.int .i64 y2):=by rw [hc _ _ (by first | (simp;done) | (simp;omega))];go_simp
  have f2_7:w2.cell? ⟨w.heap.size,7,none⟩=some (.int .i64 x3):=by rw [hc _ _ (by first | (simp;done) | (simp;omega))];go_simp
  have f2_8:w2.cell? ⟨w.heap.size,8,none⟩=some (.int .i64 y3):=by rw [hc _ _ (by first | (simp;done) | (simp;omega))];go_simp
  have r2_0:w2.cell? ⟨w.heap.size+1,0,none⟩=some (.int .i64 0):=by rw [hc _ _ (by first | (simp;done) | (simp;omega))];go_simp
  have z2_0:w2.frozen? ⟨w.heap.size+1,0,none⟩=false:=by rw [hfz _ _ (by first | (simp;done) | (simp;omega))];go_simp
  have r2_1:w2.cell? ⟨w.heap.size+1,1,none⟩=some (.int .i64 0):=by rw [hc _ _ (by first | (simp;done) | (simp;omega))];go_simp
  have z2_1:w2.frozen? ⟨w.heap.size+1,1,none⟩=false:=by rw [hfz _ _ (by first | (simp;done) | (simp;omega))];go_simp
  have g2_Ax:w2.cell? ⟨w1.heap.size,0,none⟩=some (.int .i64 Ax):=by rw [hc _ _ (by first | (simp;done) | (simp;omega))];go_simp
  have g2_Ay:w2.cell? ⟨w1.heap.size,1,none⟩=some (.int .i64 Ay):=by rw [hc _ _ (by first | (simp;done) | (simp;omega))];go_simp
  have zy2:w.heap.size+1<w2.heap.size:=by omega
  clear hb hc hfz B2 r1_0 r1_1 z1_0 z1_1 f1_3 f1_4 f1_5 f1_6 f1_7 f1_8
  go_wp2_with fail
  refine (mix_any _ _ _ _ _ _ _ hi hin hn (by omega) (by omega) (by omega) (by omega)).mono ?_
  rw [←HCx.out,←HCy.out]
  rintro e w3 ⟨rfl,hb⟩
  obtain ⟨hc,hfz⟩:=bcell hb
  have hz3:w2.heap.size<w3.heap.size:=by have:=hb.size;simp at this;omega
  have B3:Below w.heap.size w w3:=Below.trans HB2.out ((Below.alloc (Below.refl _ _) (Nat.le_refl _) _).trans (hb.mono (by simp)) |>.mono (by omega))
  have HB3:=hide B3
  have zx3:w.heap.size<w3.heap.size:=by omega
  have r3_0:w3.cell? ⟨w.heap.size+1,0,none⟩=some (.int .i64 0):=by rw [hc _ _ (by first | (simp;done) | (simp;omega))];go_simp
  have z3_0:w3.frozen? ⟨w.heap.size+1,0,none⟩=false:=by rw [hfz _ _ (by first | (simp;done) | (simp;omega))];go_simp
  have r3_1:w3.cell? ⟨w.heap.size+1,1,none⟩=some (.int .i64 0):=by rw [hc _ _ (by first | (simp;done) | (simp;omega))];go_simp
  have z3_1:w3.frozen? ⟨w.heap.size+1,1,none⟩=false:=by rw [hfz _ _ (by first | (simp;done) | (simp;omega))];go_simp
  have g3_Ax:w3.cell? ⟨w1.heap.size,0,none⟩=some (.int .i64 Ax):=by rw [hc _ _ (by first | (simp;done) | (simp;omega))];go_simp
  have g3_Ay:w3.cell? ⟨w1.heap.size,1,none⟩=some (.int .i64 Ay):=by rw [hc _ _ (by first | (simp;done) | (simp;omega))];go_simp
  have g3_Bx:w3.cell? ⟨w2.heap.size,0,none⟩=some (.int .i64 Bx):=by rw [hc _ _ (by first | (simp;done) | (simp;omega))];go_simp
  have g3_By:w3.cell? ⟨w2.heap.size,1,none⟩=some (.int .i64 By):=by rw [hc _ _ (by first | (simp;done) | (simp;omega))];go_simp
  have zy3:w.heap.size+1<w3.heap.size:=by omega
  clear hb hc hfz B3 r2_0 r2_1 z2_0 z2_1 f2_5 f2_6 f2_7 f2_8 g2_Ax g2_Ay
  have t3_1:w1.heap.size<w3.heap.size:=by omega
  go_wp2_with fail
  refine (mix_any _ _ _ _ _ _ _ hi hin hn (by omega) (by omega) (by omega) (by omega)).mono ?_
  rw [←HUx.out,←HUy.out]
  rintro e w4 ⟨rfl,hb⟩
  obtain ⟨hc,hfz⟩:=bcell hb
  have hz4:w3.heap.size<w4.heap.size:=by have:=hb.size;simp at this;omega
  have B4:Below w.heap.size w w4:=Below.trans HB3.out ((Below.alloc (Below.refl _ _) (Nat.le_refl _) _).trans (hb.mono (by simp)) |>.mono (by omega))
  have HB4:=hide B4
  have zx4:w.heap.size<w4.heap.size:=by omega
  have r4_0:w4.cell? ⟨w.heap.size+1,0,none⟩=some (.int .i64 0):=by rw [hc _ _ (by first | (simp;done) | (simp;omega))];go_simp
  have z4_0:w4.frozen? ⟨w.heap.size+1,0,none⟩=false:=by rw [hfz _ _ (by first | (simp;done) | (simp;omega))];go_simp
  have r4_1:w4.cell? ⟨w.heap.size+1,1,none⟩=some (.int .i64 0):=by rw [hc _ _ (by first | (simp;done) | (simp;omega))];go_simp
  have z4_1:w4.frozen? ⟨w.heap.size+1,1,none⟩=false:=by rw [hfz _ _ (by first | (simp;done) | (simp;omega))];go_simp
  have g4_Bx:w4.cell? ⟨w2.heap.size,0,none⟩=some (.int .i64 Bx):=by rw [hc _ _ (by first | (simp;done) | (simp;omega))];go_simp
  have g4_By:w4.cell? ⟨w2.heap.size,1,none⟩=some (.int .i64 By):=by rw [hc _ _ (by first | (simp;done) | (simp;omega))];go_simp
  have g4_Cx:w4.cell? ⟨w3.heap.size,0,none⟩=some (.int .i64 Cx):=by rw [hc _ _ (by first | (simp;done) | (simp;omega))];go_simp
  have g4_Cy:w4.cell? ⟨w3.heap.size,1,none⟩=some (.int .i64 Cy):=by rw [hc _ _ (by first | (simp;done) | (simp;omega))];go_simp
  have zy4:w.heap.size+1<w4.heap.size:=by omega
  clear hb hc hfz B4 r3_0 r3_1 z3_0 z3_1 g3_Ax g3_Ay g3_Bx g3_By
  have t4_1:w1.heap.size<w4.heap.size:=by omega
  have t4_2:w2.heap.size<w4.heap.size:=by omega
  go_wp2_with fail
  refine (mix_any _ _ _ _ _ _ _ hi hin hn (by omega) (by omega) (by omega) (by omega)).mono ?_
  rw [←HVx.out,←HVy.out]
  rintro e w5 ⟨rfl,hb⟩
  obtain ⟨hc,hfz⟩:=bcell hb
  have hz5:w4.heap.size<w5.heap.size:=by have:=hb.size;simp at this;omega
  have B5:Below w.heap.size w w5:=Below.trans HB4.out ((Below.alloc (Below.refl _ _) (Nat.le_refl _) _).trans (hb.mono (by simp)) |>.mono (by omega))
  have HB5:=hide B5
  have zx5:w.heap.size<w5.heap.size:=by omega
  have r5_0:w5.cell? ⟨w.heap.size+1,0,none⟩=some (.int .i64 0):=by rw [hc _ _ (by first | (simp;done) | (simp;omega))];go_simp
  have z5_0:w5.frozen? ⟨w.heap.size+1,0,none⟩=false:=by rw [hfz _ _ (by first | (simp;done) | (simp;omega))];go_simp
  have r5_1:w5.cell? ⟨w.heap.size+1,1,none⟩=some (.int .i64 0):=by rw [hc _ _ (by first | (simp;done) | (simp;omega))];go_simp
  have z5_1:w5.frozen? ⟨w.heap.size+1,1,none⟩=false:=by rw [hfz _ _ (by first | (simp;done) | (simp;omega))];go_simp
  have g5_Ux:w5.cell? ⟨w4.heap.size,0,none⟩=some (.int .i64 Ux):=by rw [hc _ _ (by first | (simp;done) | (simp;omega))];go_simp
  have g5_Uy:w5.cell? ⟨w4.heap.size,1,none⟩=some (.int .i64 Uy):=by rw [hc _ _ (by first | (simp;done) | (simp;omega))];go_simp
  have zy5:w.heap.size+1<w5.heap.size:=by omega
  clear hb hc hfz B5 r4_0 r4_1 z4_0 z4_1 g4_Bx g4_By g4_Cx g4_Cy
  have t5_1:w1.heap.size<w5.heap.size:=by omega
  have t5_2:w2.heap.size<w5.heap.size:=by omega
  have t5_3:w3.heap.size<w5.heap.size:=by omega
  go_wp2_with fail
  refine (mix_any _ _ _ _ _ _ _ hi hin hn (by omega) (by omega) (by omega) (by omega)).mono ?_
  rw [←HSx.out,←HSy.out]
  rintro e w6 ⟨rfl,hb⟩
  obtain ⟨hc,hfz⟩:=bcell hb
  have hz6:w5.heap.size<w6.heap.size:=by have:=hb.size;simp at this;omega
  have B6:Below w.heap.size w w6:=Below.trans HB5.out ((Below.alloc (Below.refl _ _) (Nat.le_refl _) _).trans (hb.mono (by simp)) |>.mono (by omega))
  have HB6:=hide B6
  have zx6:w.heap.size<w6.heap.size:=by omega
  have r6_0:w6.cell? ⟨w.heap.size+1,0,none⟩=some (.int .i64 0):=by rw [hc _ _ (by first | (simp;done) | (simp;omega))];go_simp
  have z6_0:w6.frozen? ⟨w.heap.size+1,0,none⟩=false:=by rw [hfz _ _ (by first | (simp;done) | (simp;omega))];go_simp
  have r6_1:w6.cell? ⟨w.heap.size+1,1,none⟩=some (.int .i64 0):=by rw [hc _ _ (by first | (simp;done) | (simp;omega))];go_simp
  have z6_1:w6.frozen? ⟨w.heap.size+1,1,none⟩=false:=by rw [hfz _ _ (by first | (simp;done) | (simp;omega))];go_simp
  have zy6:w.heap.size+1<w6.heap.size:=by omega
  clear hb hc hfz B6 r5_0 r5_1 z5_0 z5_1 g5_Ux g5_Uy
  have t6_1:w1.heap.size<w6.heap.size:=by omega
  have t6_2:w2.heap.size<w6.heap.size:=by omega
  have t6_3:w3.heap.size<w6.heap.size:=by omega
  have t6_4:w4.heap.size<w6.heap.size:=by omega
  go_wp2_with fail
  refine (rounded_any _ _ _ _ (by omega) (by omega) (by omega) (by omega)).mono ?_
  rintro e w9 ⟨rfl,hb⟩
  obtain ⟨hc,hfz⟩:=bcell hb
  have hz9:w6.heap.size<w9.heap.size:=by have:=hb.size;simp at this;omega
  have zx9:w.heap.size<w9.heap.size:=by omega
  have zy9:w.heap.size+1<w9.heap.size:=by omega
  have B9:Below w.heap.size w w9:=Below.trans HB6.out ((Below.alloc (Below.refl _ _) (Nat.le_refl _) _).trans (hb.mono (by simp)) |>.mono (by omega))
  have s0:w9.cell? ⟨w.heap.size+1,0,none⟩=some (.int .i64 0):=by rw [hc _ _ (by first | (simp;done) | (simp;omega))];go_simp
  have q0:w9.frozen? ⟨w.heap.size+1,0,none⟩=false:=by rw [hfz _ _ (by first | (simp;done) | (simp;omega))];go_simp
  have s1:w9.cell? ⟨w.heap.size+1,1,none⟩=some (.int .i64 0):=by rw [hc _ _ (by first | (simp;done) | (simp;omega))];go_simp
  have q1:w9.frozen? ⟨w.heap.size+1,1,none⟩=false:=by rw [hfz _ _ (by first | (simp;done) | (simp;omega))];go_simp
  clear hb hc hfz r6_0 r6_1 z6_0 z6_1
  have HB9:=hide B9
  clear B9
  go_wp2
  refine bodyPost_ret (v:=.agg #[.int .i64 (Num.hu Sx (n*n*n)),.int .i64 (Num.hu Sy (n*n*n))]) (by simp [results,Tryz.results81,go_sem,s0,s1]) rfl ⟨rfl,?_⟩
  exact (HB9.out.setCell (Nat.le_succ _) _).setCell (Nat.le_succ _) _
end Go.Proofs.YtkhcjkmifddlbabGreatDoor
namespace Go.Proofs.YtkhcjkmifddlbabGreatDoor
namespace Num
theorem filter_end {A B:Nat→Bool} {j:Nat}:∀m,j≤m→(∀k,k<m→B k=decide (k<j))→(List.range m).filter (fun k=>A k && B k)=(List.range j).filter A:=by
  intro m
  induction m with
  | zero => intro h _; have : j = 0 := by omega
            subst this;rfl
  | succ m ih=>
    intro h hB
    by_cases e:j=m+1
    · subst e
      apply List.filter_congr
      intro k hk
      have:k<m+1:=by simpa using hk
      rw [hB k this];simp [this]
    · rw [List.range_succ,List.filter_append,ih (by omega) (fun k hk=>hB k (by omega))]
      have:B m=false:=by rw [hB m (by omega)];simp;omega
      simp [this]
def upK (k:Nat):Int:=64*((k:Int)-256)
def dnK (k:Nat):Int:=64*(256-(k:Int))
def upL (p:Int) (j:Nat):List Int:=((List.range j).filter fun k=>decide (p<upK k)).map upK
def dnL (p:Int) (j:Nat):List Int:=((List.range j).filter fun k=>decide (dnK k<p)).map dnK
def upR (p q:Int) (m:Nat):List Int:=((List.range m).filter fun k=>decide (p<upK k) && decide (upK k<q)).map upK
def dnR (p q:Int) (m:Nat):List Int:=((List.range m).filter fun k=>decide (dnK k<p) && decide (q<dnK k)).map dnK
def linesV (p q:Int):List Int:=upR p q 513++dnR p q 513
theorem upL_succ (p:Int) (j:Nat):upL p (j+1)=upL p j++if p<upK j then [upK j] else []:=by
  unfold upL
  rw [List.range_succ,List.filter_append,List.map_append]
  split <;> rename_i h <;> simp [h]
theorem dnL_succ (p:Int) (j:Nat):dnL p (j+1)=dnL p j++if dnK j<p then [dnK j] else []:=by
  unfold dnL
  rw [List.range_succ,List.filter_append,List.map_append]
  split <;> rename_i h <;> simp [h]
theorem upR_succ (p q:Int) (m:Nat):upR p q (m+1)=upR p q m++if p<upK m∧upK m<q then [upK m] else []:=by
  unfold upR
  rw [List.range_succ,List.filter_append,List.map_append]
  split <;> rename_i h
  · simp [h.1,h.2]
  · have:(decide (p<upK m) && decide (upK m<q))=false:=by simp;omega
    simp [this]
theorem dnR_succ (p q:Int) (m:Nat):dnR p q (m+1)=dnR p q m++if q<dnK m∧dnK m<p then [dnK m] else []:=by
  unfold dnR
  rw [List.range_succ,List.filter_append,List.map_append]
  split <;> rename_i h
  · simp [h.1,h.2]
  · have:(decide (dnK m<p) && decide (q<dnK m))=false:=by simp;omega
    simp [this]
theorem upL_start {p:Int} {j:Nat} (h:∀k,k<j→upK k≤p):upL p j=[]:=by
  unfold upL
  rw [List.map_eq_nil_iff,List.filter_eq_nil_iff]
  intro k hk
  have:=h k (by simpa using hk)
  simp;omega
theorem dnL_start {p:Int} {j:Nat} (h:∀k,k<j→p≤dnK k):dnL p j=[]:=by
  unfold dnL
  rw [List.map_eq_nil_iff,List.filter_eq_nil_iff]
  intro k hk
  have:=h k (by simpa using hk)
  simp;omega
theorem upR_none {p q:Int} (m:Nat) (h:q≤p):upR p q m=[]:=by
  unfold upR
  rw [List.map_eq_nil_iff,List.filter_eq_nil_iff]
  intro k _
  simp;omega
theorem dnR_none {p q:Int} (m:Nat) (h:p≤q):dnR p q m=[]:=by
  unfold dnR
  rw [List.map_eq_nil_iff,List.filter_eq_nil_iff]
  intro k _
  simp;omega
theorem lines_up {p q:Int} {j:Nat} (hpq:p<q) (hj:j≤513) (hq:∀k,k<j→upK k<q) (hq2:∀k,j≤k→k<513→q≤upK k):linesV p q=upL p j:=by
  unfold linesV
  rw [dnR_none _ (by omega),List.append_nil]
  unfold upR upL
  rw [filter_end (j:=j) 513 hj]
  intro k hk
  by_cases h:k<j
  · simp [h,hq k h]
  · have:=hq2 k (by omega) hk
    simp [h];omega
theorem lines_dn {p q:Int} {j:Nat} (hpq:q≤p) (hj:j≤513) (hq:∀k,k<j→q<dnK k) (hq2:∀k,j≤k→k<513→dnK k≤q):linesV p q=dnL p j:=by
  unfold linesV
  rw [upR_none _ (by omega),List.nil_append]
  unfold dnR dnL
  rw [filter_end (j:=j) 513 hj]
  intro k hk
  by_cases h:k<j
  · simp [h,hq k h]
  · have:=hq2 k (by omega) hk
    simp [h];omega
theorem upL_len (p:Int) (j:Nat):(upL p j).length≤j:=by
  unfold upL;rw [List.length_map];exact Nat.le_trans (List.length_filter_le _ _) (by simp)
theorem dnL_len (p:Int) (j:Nat):(dnL p j).length≤j:=by
  unfold dnL;rw [List.length_map];exact Nat.le_trans (List.length_filter_le _ _) (by simp)
theorem upR_len (p q:Int) (j:Nat):(upR p q j).length≤j:=by
  unfold upR;rw [List.length_map];exact Nat.le_trans (List.length_filter_le _ _) (by simp)
theorem dnR_len (p q:Int) (j:Nat):(dnR p q j).length≤j:=by
  unfold dnR;rw [List.length_map];exact Nat.le_trans (List.length_filter_le _ _) (by simp)
theorem linesV_len (p q:Int):(linesV p q).length≤1026:=by
  unfold linesV
  rw [List.length_append]
  have:=upR_len p q 513
  have:=dnR_len p q 513
  omega
theorem linesV_mem {p q v:Int} (h:v∈linesV p q):(p<v∧v<q)∨(q<v∧v<p):=by
  unfold linesV upR dnR at h
  simp only [List.mem_append,List.mem_map,List.mem_filter,Bool.and_eq_true,decide_eq_true_eq] at h
  rcases h with ⟨k,⟨_,h1,h2⟩,rfl⟩ | ⟨k,⟨_,h1,h2⟩,rfl⟩
  · exact .inl ⟨h1,h2⟩
  · exact .inr ⟨h2,h1⟩
theorem hu_add (a n d:Int) (hd:0<d):hu (a*d+n) d=a+hu n d:=by
  obtain ⟨h1,h2⟩:=hu_facts n d hd
  apply hu_of _ _ _ hd
  · have e:2*d*(a+hu n d)=2*(a*d)+2*d*hu n d:=by rw [Int.mul_add,Int.mul_assoc 2 d a,Int.mul_comm d a]
    omega
  · have e:2*d*(a+hu n d)=2*(a*d)+2*d*hu n d:=by rw [Int.mul_add,Int.mul_assoc 2 d a,Int.mul_comm d a]
    omega
theorem hu_between {n d B:Int} (hd:0<d) (h1:-(B*d)≤n) (h2:n≤B*d):-B≤hu n d∧hu n d≤B:=by
  obtain ⟨f1,f2⟩:=hu_facts n d hd
  constructor
  · rcases Int.lt_or_le (hu n d) (-B) with h | h
    · exfalso
      have:=Int.mul_le_mul_of_nonneg_left (show hu n d+1 ≤ -B by omega) (show 0≤2*d by omega)
      rw [Int.mul_add] at this
      have e:2*d * -B = -(2*(B*d)):=by rw [Int.mul_neg,Int.mul_assoc,Int.mul_comm d B]
      omega
    · exact h
  · rcases Int.lt_or_le B (hu n d) with h | h
    · exfalso
      have:=Int.mul_le_mul_of_nonneg_left (show B+1≤hu n d by omega) (show 0≤2*d by omega)
      rw [Int.mul_add] at this
      have e:2*d*B=2*(B*d):=by rw [Int.mul_assoc,Int.mul_comm d B]
      omega
    · exact h
def atV (a b p q n:Int):Int:=if q-p<0 then hu (-(a*(q-n)+b*(n-p))) (-(q-p)) else hu (a*(q-n)+b*(n-p)) (q-p)
theorem at_num (a b p q n:Int):a*(q-n)+b*(n-p)=a*(q-p)+(b-a)*(n-p):=by
  rw [Int.sub_mul,show q-p=(q-n)+(n-p) by omega,Int.mul_add];omega
theorem atV_eq {a b p q n:Int} (h:p≠q):atV a b p q n=a+if q-p<0 then hu (-((b-a)*(n-p))) (-(q-p)) else hu ((b-a)*(n-p)) (q-p):=by
  unfold atV
  rw [at_num]
  split
  · rename_i hd
    rw [show -(a*(q-p)+(b-a)*(n-p))=a * -(q-p) + -((b-a)*(n-p)) by rw [Int.mul_neg];omega]
    exact hu_add _ _ _ (by omega)
  · exact hu_add _ _ _ (by omega)
theorem mul_ge {a t B:Int} (h:-B≤a∧a≤B) (ht:0≤t):-(B*t)≤a*t∧a*t≤B*t:=by
  have h1:=Int.mul_le_mul_of_nonneg_right h.1 ht
  have h2:=Int.mul_le_mul_of_nonneg_right h.2 ht
  rw [Int.neg_mul] at h1
  exact ⟨h1,h2⟩
theorem atV_bd {a b p q n B:Int} (ha:-B≤a∧a≤B) (hb:-B≤b∧b≤B) (h:(p<n∧n<q)∨(q<n∧n<p)):-B≤atV a b p q n∧atV a b p q n≤B:=by
  unfold atV
  rcases h with h | h
  · rw [if_neg (by omega)]
    have h1:=mul_ge (t:=q-n) ha (by omega)
    have h2:=mul_ge (t:=n-p) hb (by omega)
    have e:B*(q-p)=B*(q-n)+B*(n-p):=by rw [←Int.mul_add];congr 1;omega
    exact hu_between (by omega) (by omega) (by omega)
  · rw [if_pos (by omega)]
    have h1:=mul_ge (t:=n-q) ha (by omega)
    have h2:=mul_ge (t:=p-n) hb (by omega)
    have e:B * -(q-p)=B*(n-q)+B*(p-n):=by rw [←Int.mul_add];congr 1;omega
    have e1:a*(q-n) = -(a*(n-q)):=by rw [←Int.mul_neg];congr 1;omega
    have e2:b*(n-p) = -(b*(p-n)):=by rw [←Int.mul_neg];congr 1;omega
    exact hu_between (by omega) (by omega) (by omega)
def rowsV (ax ay bx b2:Int):List (Int×Int):=(linesV ay b2).map fun y=>(atV ax bx ay b2 y,y)
def colsV (ax ay bx b2:Int):List (Int×Int):=(linesV ax bx).map fun x=>(x,atV ay b2 ax bx x)
def cutF:Int→Int→List (Int×Int)→List (Int×Int)
  | _,_,[]=>[]
  | x,y,t::r=>colsV x y t.1 t.2++t::cutF t.1 t.2 r
def cutsE (ax ay bx b2:Int):Int:=if (inB ax ay && inB bx b2)=false then 6 else 0
def cutsL (ax ay bx b2:Int):List (Int×Int):=if cutsE ax ay bx b2=0 then (ax,ay)::cutF ax ay (rowsV ax ay bx b2++[(bx,b2)]) else []
theorem cuts_ok {ax ay bx b2:Int} (h:cutsE ax ay bx b2=0):inB ax ay=true∧inB bx b2=true:=by
  unfold cutsE at h
  cases h1:inB ax ay <;> cases h2:inB bx b2 <;> simp [h1,h2] at h
  exact ⟨rfl,rfl⟩
theorem rowsV_len (ax ay bx b2:Int):(rowsV ax ay bx b2).length≤1026:=by unfold rowsV;rw [List.length_map];exact linesV_len _ _
theorem colsV_len (ax ay bx b2:Int):(colsV ax ay bx b2).length≤1026:=by unfold colsV;rw [List.length_map];exact linesV_len _ _
theorem rowsV_in {ax ay bx b2:Int} (ha:inB ax ay=true) (hb:inB bx b2=true):∀t∈rowsV ax ay bx b2,inB t.1 t.2=true:=by
  intro t ht
  unfold rowsV at ht
  rw [List.mem_map] at ht
  obtain ⟨y,hy,rfl⟩:=ht
  have h:=linesV_mem hy
  have a:=inB_yes ha
  have b:=inB_yes hb
  have:=atV_bd (n:=y) a.1 b.1 h
  have hy2:-16384≤y∧y≤16384:=by omega
  simp [inB,wi]
  omega
theorem cutF_len (r:List (Int×Int)):∀x y,(cutF x y r).length≤1027*r.length:=by
  induction r with
  | nil=>intro x y;simp [cutF]
  | cons t r ih=>
    intro x y
    simp only [cutF,List.length_append,List.length_cons]
    have:=ih t.1 t.2
    have:=colsV_len x y t.1 t.2
    omega
def lastS (x y:Int):List (Int×Int)→Int×Int
  | []=>(x,y)
  | t::r=>lastS t.1 t.2 r
theorem cutF_snoc (r:List (Int×Int)) (t:Int×Int):∀x y,cutF x y (r++[t])=cutF x y r++colsV (lastS x y r).1 (lastS x y r).2 t.1 t.2++[t]:=by
  induction r with
  | nil=>intro x y;simp [cutF,lastS]
  | cons u r ih=>intro x y;simp only [List.cons_append,cutF,lastS,ih,List.append_assoc,List.cons_append]
theorem lastS_snoc (r:List (Int×Int)) (t:Int×Int):∀x y,lastS x y (r++[t])=t:=by
  induction r with
  | nil=>intro x y;rfl
  | cons u r ih=>intro x y;simp only [List.cons_append,lastS,ih]
theorem lastS_in (r:List (Int×Int)):∀x y,inB x y=true→(∀t∈r,inB t.1 t.2=true)→inB (lastS x y r).1 (lastS x y r).2=true:=by
  induction r with
  | nil=>intro x y h _;exact h
  | cons u r ih=>intro x y _ hr;exact ih u.1 u.2 (hr u (by simp)) (fun t ht=>hr t (by simp [ht]))
end Num
end Go.Proofs.YtkhcjkmifddlbabGreatDoor
namespace Go.Proofs.YtkhcjkmifddlbabGreatDoor
open Go.RowKit Go.Deep
theorem info_int:(Tryz.prog.info? 3).map (fun i=>(i.zero,i.size,i.bytes))=some (some (.int .i64 0),1,8):=by kernel_rfl
def intC (l:List Int):List Value:=l.map (Value.int .i64)
theorem intC_snoc (l:List Int) (z:Int):intC (l++[z])=intC l++[.int .i64 z]:=by simp [intC]
theorem start_line {p:Int} (h:-16384≤p∧p≤16384):∃k:Nat,k≤512∧p-p.tmod 64=Num.upK k∧p-p.tmod 64=Num.dnK (512-k) ∧ -64<p.tmod 64∧p.tmod 64<64:=by
  obtain ⟨e,h1,h2,h3,h4⟩:=Num.tdiv_facts p 64 (by omega)
  refine ⟨(p.tdiv 64+256).toNat,by omega,?_,?_,h1,h2⟩
  · unfold Num.upK;omega
  · unfold Num.dnK;omega
set_option maxRecDepth 100000 in
theorem linesBetween_any (p q:Int) (w:World) (hp:-16384≤p∧p≤16384) (hq:-16384≤q∧q≤16384) :
    Calls Tryz.prog 165 #[.int .i64 p,.int .i64 q] w fun e w'=>∃v,e=.returned v∧Below w.heap.size w w'∧w'.ownsRow w.heap.size 3 1 v (Num.linesV p q).length (intC (Num.linesV p q)):=by
  obtain ⟨k0,hk0,hu,hd,t1,t2⟩:=start_line hp
  obtain ⟨n0,hn0⟩:∃n0,n0=p-p.tmod 64:=⟨_,rfl⟩
  obtain ⟨i0,hi0,hz0,hz1,hz2⟩:=info_parts info_int
  obtain ⟨L,hL⟩:∃L,L=Num.linesV p q:=⟨_,rfl⟩
  rw [←hL]
  have HL:=hide hL
  rw [←hn0] at hu hd
  have b1:-16500≤n0:=by omega
  have b2:n0≤16500:=by omega
  have b3:n0-64<p:=by omega
  have b4:p<n0+64:=by omega
  have HN:=hide hn0
  have HU:=hide hu
  have HD:=hide hd
  clear hL hn0 hu hd
  by_cases hpq:p<q
  · go_enter Tryz.func165,Tryz.ntmps165
    go_wp2_with fail
    rw [←HN.out]
    go_wp2_with fail
    go_loopw [5,6] (fun v t wr=>∃j:Nat,j≤513∧t=.int .i64 (Num.upK j)∧(∀k,k<j→Num.upK k<q)∧Below w.heap.size w wr∧wr.ownsRow w.heap.size 3 1 v (Num.upL p j).length (intC (Num.upL p j))) (fun _ t _=>(40000-intOf t).toNat)
    case atStart=>
      refine ⟨k0,by omega,by rw [HU.out],fun k hk=>?_,Below.refl _ _,?_⟩
      · have:=HU.out;unfold Num.upK at this ⊢;omega
      · rw [Num.upL_start (fun k hk=>by have:=HU.out;unfold Num.upK at this ⊢;omega)]
        exact World.ownsRow_nil _ _ _ _
    case round=>
      obtain ⟨v,rfl⟩:∃v,v=u5:=⟨_,rfl⟩
      obtain ⟨j,hj,rfl,hall,hb,hown⟩:=hrel
      have hsz:=hb.size
      have hlen:=Num.upL_len p j
      have hUj:Num.upK j=64*((j:Int)-256):=rfl
      have HSu:=hide (Num.upL_succ p j)
      have HAll:=hide hall
      have hUs:Num.upK (j+1)=Num.upK j+64:=by unfold Num.upK;omega
      have HUs:=hide hUs
      clear hall hUs
      by_cases hlt:Num.upK j<q
      · have hj2:j+1≤513:=by omega
        have HAll2:Hid (∀k,k<j+1→Num.upK k<q):=fun k hk=>by
          rcases (show k<j∨k=j by omega) with h | h
          · exact HAll.out k h
          · rw [h];exact hlt
        by_cases hgt:p<Num.upK j
        · have HE:Hid (Num.upL p (j+1)=Num.upL p j++[Num.upK j]):=by unfold Hid;rw [HSu.out,if_pos hgt]
          have u1:-100000≤Num.upK j:=by omega
          have u2:Num.upK j≤100000:=by omega
          obtain ⟨U,hU⟩:∃U,U=Num.upK j:=⟨_,rfl⟩
          obtain ⟨M,hM⟩:∃M,M=Num.upL p j:=⟨_,rfl⟩
          rw [←hU] at HE HUs hlt hgt u1 u2 ⊢
          rw [←hM] at HE hown hlen
          obtain ⟨ln,hln⟩:∃ln,ln=M.length:=⟨_,rfl⟩
          obtain ⟨xs,hxs⟩:∃xs,xs=intC M:=⟨_,rfl⟩
          rw [←hln,←hxs] at hown
          rw [←hln] at hlen
          have HLn:=hide hln
          have HXs:=hide hxs
          clear hU hM hln hxs hUj
          go_wp2_with (at_builtin;refine wpList_append_lies _ rfl _ _ 152 rfl w.heap.size 3 i0 (.int .i64 0) 1 8 Tryz.underlying152 hi0 hz0 hz1 hz2 rfl (by omega) v ln xs rfl (hown.alloc _) ⟨wr.heap.size,0,none⟩ 1 1 [.int .i64 U] rfl rfl ?e1 ?e2 (by omega) ?e3 ?e4 ?e5 (wr.heap.size+1) (by simp) ?_)
          try (case e1=>exact news_sp wr [.int .i64 U] _ _ rfl)
          case e2=>first | rfl | (intro u hu;simp at hu;subst hu;rfl)
          case e3=>unfold maxLen;omega
          case e4=>omega
          case e5=>first | omega | (simp;omega)
          intro g cap w2 hown2 hgrow hat hlt2
          have hb2:Below w.heap.size w w2:=(hb.alloc (by omega) _).grown hgrow (by simp;omega) (fun q hq=>(hown.lt q hq).1)
          have HO2:Hid (w2.ownsRow w.heap.size 3 1 (.slice (some ⟨g,0,none⟩) (ln+1) cap) (Num.upL p (j+1)).length (intC (Num.upL p (j+1)))):=by
            unfold Hid
            rw [HE.out,intC_snoc,←HXs.out,List.length_append,←HLn.out]
            exact hown2
          clear hown2 hgrow hat hown hb
          go_wp2
          go_roundw
          case rel=>exact ⟨j+1,hj2,by rw [HUs.out],HAll2.out,hb2,HO2.out⟩
          case measure=>simp [intOf];omega
        · have HE:Hid (Num.upL p (j+1)=Num.upL p j):=by unfold Hid;rw [HSu.out,if_neg hgt,List.append_nil]
          have u1:-100000≤Num.upK j:=by omega
          have u2:Num.upK j≤100000:=by omega
          obtain ⟨U,hU⟩:∃U,U=Num.upK j:=⟨_,rfl⟩
          rw [←hU] at HUs hlt hgt u1 u2 ⊢
          have HO:=hide hown
          clear hU hUj hown
          go_wp2
          go_roundw
          case rel=>exact ⟨j+1,hj2,by rw [HUs.out],HAll2.out,hb,by rw [HE.out];exact HO.out⟩
          case measure=>simp [intOf];omega
      · have HE:Hid (L=Num.upL p j):=by
          unfold Hid
          rw [HL.out]
          exact Num.lines_up hpq hj HAll.out (fun k h1 h2=>by unfold Num.upK at hlt ⊢;omega)
        have HO:=hide hown
        clear hown hUj
        go_wp2
        go_ret
        exact ⟨v,rfl,hb,by rw [HE.out];exact HO.out⟩
  · go_enter Tryz.func165,Tryz.ntmps165
    go_wp2_with fail
    rw [←HN.out]
    go_wp2_with fail
    go_loopw [5,6] (fun v t wr=>∃j:Nat,j≤513∧t=.int .i64 (Num.dnK j)∧(∀k,k<j→q<Num.dnK k)∧Below w.heap.size w wr∧wr.ownsRow w.heap.size 3 1 v (Num.dnL p j).length (intC (Num.dnL p j))) (fun _ t _=>(40000+intOf t).toNat)
    case atStart=>
      refine ⟨512-k0,by omega,by rw [HD.out],fun k hk=>?_,Below.refl _ _,?_⟩
      · have:=HD.out;unfold Num.dnK at this ⊢;omega
      · rw [Num.dnL_start (fun k hk=>by have:=HD.out;unfold Num.dnK at this ⊢;omega)]
        exact World.ownsRow_nil _ _ _ _
    case round=>
      obtain ⟨v,rfl⟩:∃v,v=u5:=⟨_,rfl⟩
      obtain ⟨j,hj,rfl,hall,hb,hown⟩:=hrel
      have hsz:=hb.size
      have hlen:=Num.dnL_len p j
      have hUj:Num.dnK j=64*(256-(j:Int)):=rfl
      have HSu:=hide (Num.dnL_succ p j)
      have HAll:=hide hall
      have hUs:Num.dnK (j+1)=Num.dnK j-64:=by unfold Num.dnK;omega
      have HUs:=hide hUs
      clear hall hUs
      by_cases hlt:q<Num.dnK j
      · have hj2:j+1≤513:=by omega
        have HAll2:Hid (∀k,k<j+1→q<Num.dnK k):=fun k hk=>by
          rcases (show k<j∨k=j by omega) with h | h
          · exact HAll.out k h
          · rw [h];exact hlt
        by_cases hgt:Num.dnK j<p
        · have HE:Hid (Num.dnL p (j+1)=Num.dnL p j++[Num.dnK j]):=by unfold Hid;rw [HSu.out,if_pos hgt]
          have u1:-100000≤Num.dnK j:=by omega
          have u2:Num.dnK j≤100000:=by omega
          obtain ⟨U,hU⟩:∃U,U=Num.dnK j:=⟨_,rfl⟩
          obtain ⟨M,hM⟩:∃M,M=Num.dnL p j:=⟨_,rfl⟩
          rw [←hU] at HE HUs hlt hgt u1 u2 ⊢
          rw [←hM] at HE hown hlen
          obtain ⟨ln,hln⟩:∃ln,ln=M.length:=⟨_,rfl⟩
          obtain ⟨xs,hxs⟩:∃xs,xs=intC M:=⟨_,rfl⟩
          rw [←hln,←hxs] at hown
          rw [←hln] at hlen
          have HLn:=hide hln
          have HXs:=hide hxs
          clear hU hM hln hxs hUj
          go_wp2_with (at_builtin;refine wpList_append_lies _ rfl _ _ 152 rfl w.heap.size 3 i0 (.int .i64 0) 1 8 Tryz.underlying152 hi0 hz0 hz1 hz2 rfl (by omega) v ln xs rfl (hown.alloc _) ⟨wr.heap.size,0,none⟩ 1 1 [.int .i64 U] rfl rfl ?f1 ?f2 (by omega) ?f3 ?f4 ?f5 (wr.heap.size+1) (by simp) ?_)
          try (case f1=>exact news_sp wr [.int .i64 U] _ _ rfl)
          case f2=>first | rfl | (intro u hu;simp at hu;subst hu;rfl)
          case f3=>unfold maxLen;omega
          case f4=>omega
          case f5=>first | omega | (simp;omega)
          intro g cap w2 hown2 hgrow hat hlt2
          have hb2:Below w.heap.size w w2:=(hb.alloc (by omega) _).grown hgrow (by simp;omega) (fun q hq=>(hown.lt q hq).1)
          have HO2:Hid (w2.ownsRow w.heap.size 3 1 (.slice (some ⟨g,0,none⟩) (ln+1) cap) (Num.dnL p (j+1)).length (intC (Num.dnL p (j+1)))):=by
            unfold Hid
            rw [HE.out,intC_snoc,←HXs.out,List.length_append,←HLn.out]
            exact hown2
          clear hown2 hgrow hat hown hb
          go_wp2
          go_roundw
          case rel=>exact ⟨j+1,hj2,by rw [HUs.out],HAll2.out,hb2,HO2.out⟩
          case measure=>simp [intOf];omega
        · have HE:Hid (Num.dnL p (j+1)=Num.dnL p j):=by unfold Hid;rw [HSu.out,if_neg hgt,List.append_nil]
          have u1:-100000≤Num.dnK j:=by omega
          have u2:Num.dnK j≤100000:=by omega
          obtain ⟨U,hU⟩:∃U,U=Num.dnK j:=⟨_,rfl⟩
          rw [←hU] at HUs hlt hgt u1 u2 ⊢
          have HO:=hide hown
          clear hU hUj hown
          go_wp2
          go_roundw
          case rel=>exact ⟨j+1,hj2,by rw [HUs.out],HAll2.out,hb,by rw [HE.out];exact HO.out⟩
          case measure=>simp [intOf];omega
      · have HE:Hid (L=Num.dnL p j):=by
          unfold Hid
          rw [HL.out]
          exact Num.lines_dn (by omega) hj HAll.out (fun k h1 h2=>by unfold Num.dnK at hlt ⊢;omega)
        have HO:=hide hown
        clear hown hUj
        go_wp2
        go_ret
        exact ⟨v,rfl,hb,by rw [HE.out];exact HO.out⟩
theorem meet_any (n p q a b:Int) (w:World) (hpq:p≠q) (hn:-16384≤n∧n≤16384) (hp:-16384≤p∧p≤16384) (hq:-16384≤q∧q≤16384) (ha:-16384≤a∧a≤16384) (hb:-16384≤b∧b≤16384) :
    Calls Tryz.prog 166 #[.int .i64 n,.int .i64 p,.int .i64 q,.int .i64 a,.int .i64 b] w fun e w'=>e=.returned (.int .i64 (Num.atV a b p q n))∧w'=w:=by
  have m1:=Num.mul_bd (b-a) (n-p) 32768 32768 (by omega) (by omega)
  have HE:=hide (Num.atV_eq (a:=a) (b:=b) (n:=n) hpq)
  by_cases hlt:q-p<0
  · have h1:=Num.hu_le (-((b-a)*(n-p))) (-(q-p)) 10000000000 (by omega) (by omega) (by omega) (by omega)
    go_enter Tryz.func166,Tryz.ntmps166
    go_wp2_with (go_at_call 158;refine (halfUp_any _ _ _ (by omega) (by omega) (by omega) (by omega)).mono ?_;rintro e w' ⟨rfl,rfl⟩)
    go_ret
    exact ⟨ret_int (by rw [HE.out,if_pos hlt]),rfl⟩
  · have h1:=Num.hu_le ((b-a)*(n-p)) (q-p) 10000000000 (by omega) (by omega) (by omega) (by omega)
    go_enter Tryz.func166,Tryz.ntmps166
    go_wp2_with (go_at_call 158;refine (halfUp_any _ _ _ (by omega) (by omega) (by omega) (by omega)).mono ?_;rintro e w' ⟨rfl,rfl⟩)
    go_ret
    exact ⟨ret_int (by rw [HE.out,if_neg (by omega)]),rfl⟩
theorem intC_at (l:List Int) (i:Nat) (hi:i<l.length):(intC l)[i]? = some (.int .i64 l[i]):=by simp [intC,hi]
theorem owns_int {w:World} {base b cap:Nat} {t:TypeId} {l:List Int} (h:w.ownsRow base t 1 (.slice (some ⟨b,0,none⟩) l.length cap) l.length (intC l)) (i:Nat) (hi:i<l.length):w.cell? ⟨b,i,none⟩=some (.int .i64 l[i]):=by
  rw [h.cellAt i (by omega),intC_at l i hi]
theorem atRows_at {ax ay bx b2:Int} {j:Nat} (hj:j<(Num.linesV ay b2).length):(Num.rowsV ax ay bx b2).take (j+1)=(Num.rowsV ax ay bx b2).take j++[(fun z=>(Num.atV ax bx ay b2 z,z)) (Num.linesV ay b2)[j]]:=by
  have hl:j<(Num.rowsV ax ay bx b2).length:=by unfold Num.rowsV;simpa using hj
  rw [List.take_succ_eq_append_getElem hl]
  simp [Num.rowsV]
set_option maxRecDepth 100000 in
theorem atRows_any (ax ay bx b2:Int) (w:World) (ha:(-16384≤ax∧ax≤16384) ∧ -16384≤ay∧ay≤16384) (hb:(-16384≤bx∧bx≤16384) ∧ -16384≤b2∧b2≤16384) :
    Calls Tryz.prog 132 #[.agg #[.int .i64 ax,.int .i64 ay],.agg #[.int .i64 bx,.int .i64 b2]] w fun e w'=>∃v,e=.returned v∧Below w.heap.size w w'∧w'.ownsRow w.heap.size 42 2 v (Num.rowsV ax ay bx b2).length ((Num.rowsV ax ay bx b2).flatMap spC)∧((Num.rowsV ax ay bx b2).length=0→v=.slice none 0 0):=by
  have hmem:∀z∈Num.linesV ay b2,(ay<z∧z<b2)∨(b2<z∧z<ay):=fun z hz=>Num.linesV_mem hz
  have hat0:∀j (hj:j<(Num.linesV ay b2).length),(Num.rowsV ax ay bx b2).take (j+1)=(Num.rowsV ax ay bx b2).take j++[(fun z=>(Num.atV ax bx ay b2 z,z)) (Num.linesV ay b2)[j]]:=fun j hj=>atRows_at hj
  have hll:(Num.rowsV ax ay bx b2).length=(Num.linesV ay b2).length:=by unfold Num.rowsV;simp
  have hle:=Num.linesV_len ay b2
  obtain ⟨i0,hi0,hz0,hz1,hz2⟩:=info_parts info_spot
  have HL:=hide (fun w=>linesBetween_any ay b2 w ha.2 hb.2)
  obtain ⟨L,hL⟩:∃L,L=Num.linesV ay b2:=⟨_,rfl⟩
  obtain ⟨R,hR⟩:∃R,R=Num.rowsV ax ay bx b2:=⟨_,rfl⟩
  rw [←hL] at HL hmem hll hle
  have hat1:∀j (hj:j<L.length),R.take (j+1)=R.take j++[(fun z=>(Num.atV ax bx ay b2 z,z)) L[j]]:=by rw [hR,hL];exact hat0
  rw [←hR] at hll ⊢
  have HAt:=hide hat1
  have HMem:=hide hmem
  clear hL hR hat0 hat1 hmem
  go_enter Tryz.func132,Tryz.ntmps132
  go_wp2_with fail
  refine (HL.out _).mono ?_
  rintro e w1 ⟨vL,rfl,hb1,hown1⟩
  have hs1:w.heap.size+1<w1.heap.size:=by have:=hb1.size;simp at this;omega
  have hB1:Below (w.heap.size+2) ((w.alloc (.cells #[.int .i64 ax,.int .i64 ay] 42)).alloc (.cells #[.int .i64 bx,.int .i64 b2] 42)) w1:=hb1.mono (by simp)
  obtain ⟨ao,capL,rfl,hao⟩:=owns_formN hown1
  have HO1:=hide hown1
  have HAo:=hide hao
  obtain ⟨m2,hm2⟩:∃m2,m2=L.length:=⟨_,rfl⟩
  rw [←hm2] at hle hll ⊢
  have HM2:=hide hm2
  have hbl:∀g2,ao=some ⟨g2,0,none⟩→w.heap.size+2≤g2∧g2<w1.heap.size:=fun g2 e=>by
    have:=hown1.lt g2 (by rw [e];rfl)
    simp at this;omega
  have HBl:=hide hbl
  clear hb1 hown1 hao hm2 hbl
  go_wp2_with fail
  go_loopw [5,15] (fun v t wr=>∃j:Nat,j≤m2∧t=.int .i64 j∧w1.heap.size≤wr.heap.size∧Below (w.heap.size+2) ((w.alloc (.cells #[.int .i64 ax,.int .i64 ay] 42)).alloc (.cells #[.int .i64 bx,.int .i64 b2] 42)) wr∧wr.ownsRow (w.heap.size+2) 42 2 v j ((R.take j).flatMap spC)∧(j=0→v=.slice none 0 0)∧∀g2,ao=some ⟨g2,0,none⟩→v.ownBlock≠some g2∧wr.heap[g2]? = w1.heap[g2]?) (fun _ t _=>m2-(intOf t).toNat)
  case atStart=>exact ⟨0,by omega,rfl,Nat.le_refl _,hB1,by simpa using World.ownsRow_nil _ _ _ _,fun _=>rfl,fun g2 _=>⟨by simp [Value.ownBlock],rfl⟩⟩
  case round=>
    obtain ⟨v,rfl⟩:∃v,v=u5:=⟨_,rfl⟩
    obtain ⟨j,hj,rfl,hsr,hB,hown,hnil,hne⟩:=hrel
    by_cases hlt:j<m2
    · have hjl:j<L.length:=by rw [←HM2.out];exact hlt
      obtain ⟨g2,rfl⟩:=HAo.out (by omega)
      obtain ⟨hne2,hblk⟩:=hne g2 rfl
      obtain ⟨gl1,gl2⟩:=HBl.out g2 rfl
      have hO2:=owns_of_block (w':=wr) HO1.out (fun b hbb=>by simp [Value.ownBlock] at hbb;subst hbb;exact hblk)
      have cz:=owns_int hO2 j hjl
      have hzm:=HMem.out _ (List.getElem_mem hjl)
      have HTk:=hide (HAt.out j hjl)
      obtain ⟨z,hz⟩:∃z,z=L[j]:=⟨_,rfl⟩
      rw [←hz] at cz hzm HTk
      clear hO2 hz
      have zb:-16384≤z∧z≤16384:=by omega
      have hpq:ay≠b2:=by omega
      have HC:=hide (fun w=>meet_any z ay b2 ax bx w hpq zb ha.2 hb.2 ha.1 hb.1)
      obtain ⟨m,hm⟩:∃m,m=Num.atV ax bx ay b2 z:=⟨_,rfl⟩
      rw [←hm] at HC
      have HTk2:Hid (R.take (j+1)=R.take j++[(m,z)]):=by unfold Hid;rw [HTk.out,hm]
      have hd1:decide ((j:Int)<(m2:Int))=true:=by simp;omega
      have sz0:w.heap.size<wr.heap.size:=by omega
      have sz1:w.heap.size+1<wr.heap.size:=by omega
      have a0:wr.cell? ⟨w.heap.size,0,none⟩=some (.int .i64 ax):=(hB.cell (p:=⟨w.heap.size,0,none⟩) (by simp)).trans (by go_simp)
      have a1:wr.cell? ⟨w.heap.size,1,none⟩=some (.int .i64 ay):=(hB.cell (p:=⟨w.heap.size,1,none⟩) (by simp)).trans (by go_simp)
      have e0:wr.cell? ⟨w.heap.size+1,0,none⟩=some (.int .i64 bx):=(hB.cell (p:=⟨w.heap.size+1,0,none⟩) (by simp)).trans (by go_simp)
      have e1:wr.cell? ⟨w.heap.size+1,1,none⟩=some (.int .i64 b2):=(hB.cell (p:=⟨w.heap.size+1,1,none⟩) (by simp)).trans (by go_simp)
      obtain ⟨xs,hxs⟩:∃xs,xs=(R.take j).flatMap spC:=⟨_,rfl⟩
      rw [←hxs] at hown
      have HX:=hide hxs
      have HNe:=hide hne2
      have HBk:=hide hblk
      clear hm hzm HTk hxs hne hne2 hblk hnil zb hpq
      go_wp2_with fail
      refine (HC.out _).mono ?_
      rintro e w' ⟨rfl,rfl⟩
      go_wp2_with (at_builtin;refine wpList_append_lies _ rfl _ _ 88 rfl (w.heap.size+2) 42 i0 (.agg #[.int .i64 0,.int .i64 0]) 2 16 Tryz.underlying88 hi0 hz0 hz1 hz2 rfl (by omega) v j xs rfl (hown.alloc _) ⟨w'.heap.size,0,none⟩ 1 1 [.int .i64 m,.int .i64 z] rfl rfl ?e1 ?e2 (by omega) ?e3 ?e4 ?e5 (w'.heap.size+1) (by simp) ?_)
      try (case e1=>exact news_sp w' [.int .i64 m,.int .i64 z] _ _ rfl)
      case e2=>first | exact one_two _ _ | exact ⟨rfl,rfl⟩
      case e3=>unfold maxLen;omega
      case e4=>omega
      case e5=>first | omega | (simp;omega)
      intro g cap w4 hown4 hgrow hat hlt4
      have hb4:Below (w.heap.size+2) ((w.alloc (.cells #[.int .i64 ax,.int .i64 ay] 42)).alloc (.cells #[.int .i64 bx,.int .i64 b2] 42)) w4:=(hB.alloc (by omega) _).grown hgrow (by simp;omega) (fun q hq=>(hown.lt q hq).1)
      have hs4:w1.heap.size≤w4.heap.size:=by have:=hgrow.size;rw [nblk_alloc] at this;omega
      have HO4:Hid (w4.ownsRow (w.heap.size+2) 42 2 (.slice (some ⟨g,0,none⟩) (j+1) cap) (j+1) ((R.take (j+1)).flatMap spC)):=by
        unfold Hid
        have:=push_sp (l:=R.take j) (l':=R.take (j+1)) (p:=(m,z)) (m:=j+1) (by rw [←HX.out];exact hown4) HTk2.out (by rw [List.length_take,hll];omega)
        rw [List.length_take,hll,Nat.min_eq_left (by omega)] at this
        exact this
      have HNe2:Hid ((Value.slice (some ⟨g,0,none⟩) (j+1) cap).ownBlock≠some g2):=by
        unfold Hid
        intro e
        simp [Value.ownBlock] at e
        rcases hat with hat | hat
        · exact HNe.out (by rw [hat,e])
        · omega
      have HBk2:Hid (w4.heap[g2]? = w1.heap[g2]?):=by
        unfold Hid
        rw [hgrow.block g2 (by rw [nblk_alloc];omega) (fun e=>HNe.out e.symm),blk_alloc_lt _ _ _ (by omega)]
        exact HBk.out
      clear hown4 hgrow hat hown hB a0 a1 e0 e1 cz
      go_wp2
      go_roundw
      case rel=>exact ⟨j+1,by omega,by go_num,hs4,hb4,HO4.out,by omega,fun g3 e3=>by simp at e3;subst e3;exact ⟨HNe2.out,HBk2.out⟩⟩
      case measure=>simp [intOf];omega
    · have e:j=m2:=by omega
      have hd0:decide ((j:Int)<(m2:Int))=false:=by simp;omega
      have HO:=hide hown
      have HB:=hide hB
      have HNil:=hide hnil
      clear hown hB hne hnil
      go_wp2
      go_ret
      refine ⟨v,rfl,Below.trans (by (repeat any_goals first | exact .refl _ _ | assumption | refine .drew ?_ | refine below_drewN ?_ _ | refine .setCell ?_ ?_ _ | refine .alloc ?_ ?_ _ | omega | (simp <;> omega))) (HB.out.mono (by omega)),?_,fun h=>HNil.out (by omega)⟩
      have h:=owns_mono (base':=w.heap.size) HO.out (by omega)
      rw [List.take_of_length_le (by omega)] at h
      rw [hll,←e]
      exact h
theorem atCols_at {ax ay bx b2:Int} {j:Nat} (hj:j<(Num.linesV ax bx).length):(Num.colsV ax ay bx b2).take (j+1)=(Num.colsV ax ay bx b2).take j++[(fun z=>(z,Num.atV ay b2 ax bx z)) (Num.linesV ax bx)[j]]:=by
  have hl:j<(Num.colsV ax ay bx b2).length:=by unfold Num.colsV;simpa using hj
  rw [List.take_succ_eq_append_getElem hl]
  simp [Num.colsV]
set_option maxRecDepth 100000 in
theorem atCols_any (ax ay bx b2:Int) (w:World) (ha:(-16384≤ax∧ax≤16384) ∧ -16384≤ay∧ay≤16384) (hb:(-16384≤bx∧bx≤16384) ∧ -16384≤b2∧b2≤16384) :
    Calls Tryz.prog 133 #[.agg #[.int .i64 ax,.int .i64 ay],.agg #[.int .i64 bx,.int .i64 b2]] w fun e w'=>∃v,e=.returned v∧Below w.heap.size w w'∧w'.ownsRow w.heap.size 42 2 v (Num.colsV ax ay bx b2).length ((Num.colsV ax ay bx b2).flatMap spC)∧((Num.colsV ax ay bx b2).length=0→v=.slice none 0 0):=by
  have hmem:∀z∈Num.linesV ax bx,(ax<z∧z<bx)∨(bx<z∧z<ax):=fun z hz=>Num.linesV_mem hz
  have hat0:∀j (hj:j<(Num.linesV ax bx).length),(Num.colsV ax ay bx b2).take (j+1)=(Num.colsV ax ay bx b2).take j++[(fun z=>(z,Num.atV ay b2 ax bx z)) (Num.linesV ax bx)[j]]:=fun j hj=>atCols_at hj
  have hll:(Num.colsV ax ay bx b2).length=(Num.linesV ax bx).length:=by unfold Num.colsV;simp
  have hle:=Num.linesV_len ax bx
  obtain ⟨i0,hi0,hz0,hz1,hz2⟩:=info_parts info_spot
  have HL:=hide (fun w=>linesBetween_any ax bx w ha.1 hb.1)
  obtain ⟨L,hL⟩:∃L,L=Num.linesV ax bx:=⟨_,rfl⟩
  obtain ⟨R,hR⟩:∃R,R=Num.colsV ax ay bx b2:=⟨_,rfl⟩
  rw [←hL] at HL hmem hll hle
  have hat1:∀j (hj:j<L.length),R.take (j+1)=R.take j++[(fun z=>(z,Num.atV ay b2 ax bx z)) L[j]]:=by rw [hR,hL];exact hat0
  rw [←hR] at hll ⊢
  have HAt:=hide hat1
  have HMem:=hide hmem
  clear hL hR hat0 hat1 hmem
  go_enter Tryz.func133,Tryz.ntmps133
  go_wp2_with fail
  refine (HL.out _).mono ?_
  rintro e w1 ⟨vL,rfl,hb1,hown1⟩
  have hs1:w.heap.size+1<w1.heap.size:=by have:=hb1.size;simp at this;omega
  have hB1:Below (w.heap.size+2) ((w.alloc (.cells #[.int .i64 ax,.int .i64 ay] 42)).alloc (.cells #[.int .i64 bx,.int .i64 b2] 42)) w1:=hb1.mono (by simp)
  obtain ⟨ao,capL,rfl,hao⟩:=owns_formN hown1
  have HO1:=hide hown1
  have HAo:=hide hao
  obtain ⟨m2,hm2⟩:∃m2,m2=L.length:=⟨_,rfl⟩
  rw [←hm2] at hle hll ⊢
  have HM2:=hide hm2
  have hbl:∀g2,ao=some ⟨g2,0,none⟩→w.heap.size+2≤g2∧g2<w1.heap.size:=fun g2 e=>by
    have:=hown1.lt g2 (by rw [e];rfl)
    simp at this;omega
  have HBl:=hide hbl
  clear hb1 hown1 hao hm2 hbl
  go_wp2_with fail
  go_loopw [5,15] (fun v t wr=>∃j:Nat,j≤m2∧t=.int .i64 j∧w1.heap.size≤wr.heap.size∧Below (w.heap.size+2) ((w.alloc (.cells #[.int .i64 ax,.int .i64 ay] 42)).alloc (.cells #[.int .i64 bx,.int .i64 b2] 42)) wr∧wr.ownsRow (w.heap.size+2) 42 2 v j ((R.take j).flatMap spC)∧(j=0→v=.slice none 0 0)∧∀g2,ao=some ⟨g2,0,none⟩→v.ownBlock≠some g2∧wr.heap[g2]? = w1.heap[g2]?) (fun _ t _=>m2-(intOf t).toNat)
  case atStart=>exact ⟨0,by omega,rfl,Nat.le_refl _,hB1,by simpa using World.ownsRow_nil _ _ _ _,fun _=>rfl,fun g2 _=>⟨by simp [Value.ownBlock],rfl⟩⟩
  case round=>
    obtain ⟨v,rfl⟩:∃v,v=u5:=⟨_,rfl⟩
    obtain ⟨j,hj,rfl,hsr,hB,hown,hnil,hne⟩:=hrel
    by_cases hlt:j<m2
    · have hjl:j<L.length:=by rw [←HM2.out];exact hlt
      obtain ⟨g2,rfl⟩:=HAo.out (by omega)
      obtain ⟨hne2,hblk⟩:=hne g2 rfl
      obtain ⟨gl1,gl2⟩:=HBl.out g2 rfl
      have hO2:=owns_of_block (w':=wr) HO1.out (fun b hbb=>by simp [Value.ownBlock] at hbb;subst hbb;exact hblk)
      have cz:=owns_int hO2 j hjl
      have hzm:=HMem.out _ (List.getElem_mem hjl)
      have HTk:=hide (HAt.out j hjl)
      obtain ⟨z,hz⟩:∃z,z=L[j]:=⟨_,rfl⟩
      rw [←hz] at cz hzm HTk
      clear hO2 hz
      have zb:-16384≤z∧z≤16384:=by omega
      have hpq:ax≠bx:=by omega
      have HC:=hide (fun w=>meet_any z ax bx ay b2 w hpq zb ha.1 hb.1 ha.2 hb.2)
      obtain ⟨m,hm⟩:∃m,m=Num.atV ay b2 ax bx z:=⟨_,rfl⟩
      rw [←hm] at HC
      have HTk2:Hid (R.take (j+1)=R.take j++[(z,m)]):=by unfold Hid;rw [HTk.out,hm]
      have hd1:decide ((j:Int)<(m2:Int))=true:=by simp;omega
      have sz0:w.heap.size<wr.heap.size:=by omega
      have sz1:w.heap.size+1<wr.heap.size:=by omega
      have a0:wr.cell? ⟨w.heap.size,0,none⟩=some (.int .i64 ax):=(hB.cell (p:=⟨w.heap.size,0,none⟩) (by simp)).trans (by go_simp)
      have a1:wr.cell? ⟨w.heap.size,1,none⟩=some (.int .i64 ay):=(hB.cell (p:=⟨w.heap.size,1,none⟩) (by simp)).trans (by go_simp)
      have e0:wr.cell? ⟨w.heap.size+1,0,none⟩=some (.int .i64 bx):=(hB.cell (p:=⟨w.heap.size+1,0,none⟩) (by simp)).trans (by go_simp)
      have e1:wr.cell? ⟨w.heap.size+1,1,none⟩=some (.int .i64 b2):=(hB.cell (p:=⟨w.heap.size+1,1,none⟩) (by simp)).trans (by go_simp)
      obtain ⟨xs,hxs⟩:∃xs,xs=(R.take j).flatMap spC:=⟨_,rfl⟩
      rw [←hxs] at hown
      have HX:=hide hxs
      have HNe:=hide hne2
      have HBk:=hide hblk
      clear hm hzm HTk hxs hne hne2 hblk hnil zb hpq
      go_wp2_with fail
      refine (HC.out _).mono ?_
      rintro e w' ⟨rfl,rfl⟩
      go_wp2_with (at_builtin;refine wpList_append_lies _ rfl _ _ 88 rfl (w.heap.size+2) 42 i0 (.agg #[.int .i64 0,.int .i64 0]) 2 16 Tryz.underlying88 hi0 hz0 hz1 hz2 rfl (by omega) v j xs rfl (hown.alloc _) ⟨w'.heap.size,0,none⟩ 1 1 [.int .i64 z,.int .i64 m] rfl rfl ?e1 ?e2 (by omega) ?e3 ?e4 ?e5 (w'.heap.size+1) (by simp) ?_)
      try (case e1=>exact news_sp w' [.int .i64 z,.int .i64 m] _ _ rfl)
      case e2=>first | exact one_two _ _ | exact ⟨rfl,rfl⟩
      case e3=>unfold maxLen;omega
      case e4=>omega
      case e5=>first | omega | (simp;omega)
      intro g cap w4 hown4 hgrow hat hlt4
      have hb4:Below (w.heap.size+2) ((w.alloc (.cells #[.int .i64 ax,.int .i64 ay] 42)).alloc (.cells #[.int .i64 bx,.int .i64 b2] 42)) w4:=(hB.alloc (by omega) _).grown hgrow (by simp;omega) (fun q hq=>(hown.lt q hq).1)
      have hs4:w1.heap.size≤w4.heap.size:=by have:=hgrow.size;rw [nblk_alloc] at this;omega
      have HO4:Hid (w4.ownsRow (w.heap.size+2) 42 2 (.slice (some ⟨g,0,none⟩) (j+1) cap) (j+1) ((R.take (j+1)).flatMap spC)):=by
        unfold Hid
        have:=push_sp (l:=R.take j) (l':=R.take (j+1)) (p:=(z,m)) (m:=j+1) (by rw [←HX.out];exact hown4) HTk2.out (by rw [List.length_take,hll];omega)
        rw [List.length_take,hll,Nat.min_eq_left (by omega)] at this
        exact this
      have HNe2:Hid ((Value.slice (some ⟨g,0,none⟩) (j+1) cap).ownBlock≠some g2):=by
        unfold Hid
        intro e
        simp [Value.ownBlock] at e
        rcases hat with hat | hat
        · exact HNe.out (by rw [hat,e])
        · omega
      have HBk2:Hid (w4.heap[g2]? = w1.heap[g2]?):=by
        unfold Hid
        rw [hgrow.block g2 (by rw [nblk_alloc];omega) (fun e=>HNe.out e.symm),blk_alloc_lt _ _ _ (by omega)]
        exact HBk.out
      clear hown4 hgrow hat hown hB a0 a1 e0 e1 cz
      go_wp2
      go_roundw
      case rel=>exact ⟨j+1,by omega,by go_num,hs4,hb4,HO4.out,by omega,fun g3 e3=>by simp at e3;subst e3;exact ⟨HNe2.out,HBk2.out⟩⟩
      case measure=>simp [intOf];omega
    · have e:j=m2:=by omega
      have hd0:decide ((j:Int)<(m2:Int))=false:=by simp;omega
      have HO:=hide hown
      have HB:=hide hB
      have HNil:=hide hnil
      clear hown hB hne hnil
      go_wp2
      go_ret
      refine ⟨v,rfl,Below.trans (by (repeat any_goals first | exact .refl _ _ | assumption | refine .drew ?_ | refine below_drewN ?_ _ | refine .setCell ?_ ?_ _ | refine .alloc ?_ ?_ _ | omega | (simp <;> omega))) (HB.out.mono (by omega)),?_,fun h=>HNil.out (by omega)⟩
      have h:=owns_mono (base':=w.heap.size) HO.out (by omega)
      rw [List.take_of_length_le (by omega)] at h
      rw [hll,←e]
      exact h
end Go.Proofs.YtkhcjkmifddlbabGreatDoor
