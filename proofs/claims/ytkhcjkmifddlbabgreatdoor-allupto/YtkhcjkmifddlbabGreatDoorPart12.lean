import Derived.Test.YtkhcjkmifddlbabGreatDoorPart11
import Derived.Test.YtkhcjkmifddlbabGreatDoorPart10
import Derived.Test.YtkhcjkmifddlbabGreatDoorPart2
import Derived.Test.YtkhcjkmifddlbabGreatDoorPart6
import Derived.Test.YtkhcjkmifddlbabGreatDoorPart7
set_option maxHeartbeats 8000000
namespace Go.Proofs.YtkhcjkmifddlbabGreatDoor
open Go.RowKit Go.Deep
theorem gr3_pix {w:World} {p:Nat} {t:TypeId} {a b:Int} {v:Value} (h:w.rowIs p t 3 (gr3 a b v)) (u:Value):(w.setCell ⟨p,2,none⟩ u).rowIs p t 3 (gr3 a b u):=by
  refine (h.set 2 _).congr fun q hq=>?_
  rcases (show q=0∨q=1∨q=2 by omega) with rfl | rfl | rfl <;> rfl
def histP (NN:Nat→Nat) (LL:Nat→Nat→List (Int×Int)) (sg:Nat→Int) (k i j:Nat):Int:=histA NN LL sg k (i:Int) (j:Int)
set_option maxRecDepth 100000 in
theorem refGray_any (rb W H k x y a b:Nat) (VR:Nat→Value) (VV:Nat→Nat→Value) (NN:Nat→Nat) (LL:Nat→Nat→List (Int×Int)) (sg:Nat→Int) (vR vS:Value) (w:World) (hR:Rcv w rb W H k VR VV NN LL sg vR vS) (hW:1≤W∧W≤64) (hH:1≤H∧H≤64)
    (ha:1≤a∧x+a≤W) (hb:1≤b∧y+b≤H) :
    Calls Tryz.prog 91 #[.pointer (some ⟨rb,0,none⟩),.int .i64 x,.int .i64 y,.int .i64 a,.int .i64 b] w fun e w'=>∃v,e=.returned (.tuple #[.agg #[.int .i64 a,.int .i64 b,v],.int .i64 0])∧Below w.heap.size w w'∧w'.ownsRow w.heap.size 5 1 v (a*b) (u8C (pixL (histP NN LL sg k) x y a (a*b))):=by
  obtain ⟨i0,hi0,hz0,hz1,hz2⟩:=info_parts info_u8
  have HR:=hide hR
  have c0:=hR.row.cell (i:=0) (by omega)
  have c1:=hR.row.cell (i:=1) (by omega)
  change w.cell? ⟨rb,0,none⟩=some (.int .i64 W) at c0
  change w.cell? ⟨rb,1,none⟩=some (.int .i64 H) at c1
  have hbl:=hR.row.lt
  obtain ⟨sb,hsb⟩:∃sb,sb=w.heap.size:=⟨_,rfl⟩
  obtain ⟨W1,hW1⟩:∃W1,W1=w.alloc (.cells #[.int .i64 0,.int .i64 0,.slice none 0 0] 47):=⟨_,rfl⟩
  obtain ⟨W2,hW2⟩:∃W2,W2=W1.alloc (.cells #[.int .i64 a,.int .i64 b,.slice none 0 0] 47):=⟨_,rfl⟩
  have hs1:W1.heap.size=sb+1:=by rw [hW1,hsb];simp
  have hs2:W2.heap.size=sb+2:=by rw [hW2];simp [hs1]
  have HB2:Hid (Below sb w W2):=by unfold Hid;rw [hW2,hW1,hsb];(repeat any_goals first | exact .refl _ _ | assumption | refine .drew ?_ | refine below_drewN ?_ _ | refine .setCell ?_ ?_ _ | refine .alloc ?_ ?_ _ | omega | (simp <;> omega))
  have HZ:Hid (W2.rowIs sb 47 3 (gr3 0 0 (.slice none 0 0))):=by unfold Hid;rw [hW2,hW1,hsb];exact (gr3_row 0 0 (.slice none 0 0) w 47).alloc _
  have HG:Hid (W2.rowIs (sb+1) 47 3 (gr3 a b (.slice none 0 0))):=by unfold Hid;rw [←hs1,hW2];exact gr3_row a b (.slice none 0 0) W1 47
  have HSb:Hid (sb=w.heap.size):=hsb
  have e1:¬(x:Int)<0:=by omega
  have e2:¬(y:Int)<0:=by omega
  have e3:¬(a:Int)<1:=by omega
  have e4:¬(b:Int)<1:=by omega
  have e5:¬(W:Int)≤(x:Int):=by omega
  have e6:¬(H:Int)≤(y:Int):=by omega
  have e7:¬(W:Int)-(x:Int)<(a:Int):=by omega
  have e8:¬(H:Int)-(y:Int)<(b:Int):=by omega
  clear hR
  go_enter Tryz.func91,Tryz.ntmps91
  go_wp2_with fail
  rw [←hW1,←hW2]
  try rw [←hsb]
  clear hW1 hW2 hsb c0 c1
  go_loopw [13] (fun t wr=>∃(j:Nat) (v:Value),j≤b∧t=.int .i64 j∧Below sb w wr∧sb+2≤wr.heap.size∧wr.rowIs sb 47 3 (gr3 0 0 (.slice none 0 0))∧wr.rowIs (sb+1) 47 3 (gr3 a b v)∧wr.ownsRow (sb+2) 5 1 v (j*a) (u8C (pixL (histP NN LL sg k) x y a (j*a)))) (fun t _=>b-(intOf t).toNat)
  case atStart=>exact ⟨0,.slice none 0 0,by omega,rfl,HB2.out,by omega,HZ.out,HG.out,by simp [pixL,u8C];exact World.ownsRow_nil _ _ _ _⟩
  case round=>
    obtain ⟨wo,rfl⟩:∃wo,wo=wr:=⟨_,rfl⟩
    obtain ⟨j,vo,hj,rfl,hbo,hso,hzo,hgo,howno⟩:=hrel
    by_cases hlt:j<b
    · have hd1:decide ((j:Int)<(b:Int))=true:=by simp;omega
      have hmj:j*a+a≤a*b:=by rw [Nat.mul_comm a b];exact Num.mul_lt_row hlt
      have hab:a*b≤64*64:=Nat.mul_le_mul (show a≤64 by omega) (show b≤64 by omega)
      obtain ⟨ja,hja⟩:∃ja,ja=j*a:=⟨_,rfl⟩
      rw [←hja] at howno hmj
      have HJA:=hide hja
      have HOo:=hide (And.intro hbo (And.intro hso (And.intro hzo (And.intro hgo howno))))
      clear howno hbo hja hso hzo hgo
      go_wp2_with fail
      go_loopw [14] (fun t wr=>∃(i:Nat) (v:Value),i≤a∧t=.int .i64 i∧Below sb w wr∧sb+2≤wr.heap.size∧wr.rowIs sb 47 3 (gr3 0 0 (.slice none 0 0))∧wr.rowIs (sb+1) 47 3 (gr3 a b v)∧wr.ownsRow (sb+2) 5 1 v (ja+i) (u8C (pixL (histP NN LL sg k) x y a (ja+i)))) (fun t _=>a-(intOf t).toNat)
      case atStart=>exact ⟨0,vo,by omega,rfl,HOo.out.1,HOo.out.2.1,HOo.out.2.2.1,HOo.out.2.2.2.1,HOo.out.2.2.2.2⟩
      case round=>
        obtain ⟨i,v,hi,rfl,hb1,hsw,hz1',hg1',hown⟩:=hrel
        have hsz:=hb1.size
        by_cases hli:i<a
        · have hdi:decide ((i:Int)<(a:Int))=true:=by simp;omega
          have HCall:=hide (refCArea_any rb W H k VR VV NN LL sg vR vS ((x+i:Nat):Int) ((y+j:Nat):Int) wr (HR.out.below (by rw [←HSb.out];exact hb1)) hW hH)
          have hin:(0:Int)≤((x+i:Nat):Int)∧((x+i:Nat):Int)<(W:Int)∧(0:Int)≤((y+j:Nat):Int)∧((y+j:Nat):Int)<(H:Int):=by omega
          have hN1:areaN W H (fun i j=>histA NN LL sg k (i:Int) (j:Int)) ((x+i:Nat):Int) ((y+j:Nat):Int)=histP NN LL sg k (x+i) (y+j):=by
            unfold areaN histP
            rw [if_pos hin,Int.toNat_natCast,Int.toNat_natCast]
          have hE1:areaE W H ((x+i:Nat):Int) ((y+j:Nat):Int)=0:=by unfold areaE;rw [if_pos hin]
          rw [hN1,hE1,show ((x+i:Nat):Int)=(x:Int)+(i:Int) by omega,show ((y+j:Nat):Int)=(y:Int)+(j:Int) by omega] at HCall
          have hbd:=histA_bd ((x+i:Nat):Int) ((y+j:Nat):Int) HR.out.fits HR.out.sgn k (Nat.le_refl _)
          have hk:=HR.out.most
          have b1:-9000000000000000000≤histP NN LL sg k (x+i) (y+j):=by unfold histP;omega
          have b2:histP NN LL sg k (x+i) (y+j)≤9000000000000000000:=by unfold histP;omega
          have HSu:=hide (pixL_succ (histP NN LL sg k) x y a (ja+i))
          have hmod:(ja+i) % a=i:=by rw [HJA.out,Nat.mul_comm j a,Nat.mul_add_mod,Nat.mod_eq_of_lt hli]
          have hdiv:(ja+i) / a=j:=by rw [HJA.out,Nat.mul_comm j a,Nat.mul_add_div (by omega),Nat.div_eq_of_lt hli,Nat.add_zero]
          rw [hmod,hdiv] at HSu
          obtain ⟨z,hz⟩:∃z,z=histP NN LL sg k (x+i) (y+j):=⟨_,rfl⟩
          rw [←hz] at HCall b1 b2 HSu
          obtain ⟨L,hL⟩:∃L,L=u8C (pixL (histP NN LL sg k) x y a (ja+i)):=⟨_,rfl⟩
          rw [←hL] at hown
          have HLs:Hid (u8C (pixL (histP NN LL sg k) x y a (ja+i+1))=L++[.int .u8 (byteV z)]):=by unfold Hid;rw [HSu.out,u8C_snoc,hL]
          have HOw:=hide (And.intro hz1' (And.intro hg1' hown))
          have HBw:=hide hb1
          clear hmod hdiv hz hL hown hb1 hz1' hg1' hN1 hE1 hin hbd HSu
          go_wp2_with fail
          refine HCall.out.mono ?_
          rintro e w2 ⟨rfl,hb2⟩
          have hs2:=hb2.size
          have hB2:Below sb w w2:=HBw.out.trans (hb2.mono (by rw [HSb.out];omega))
          have hown2:=owns_of_block HOw.out.2.2 (fun q hq=>hb2.block q (HOw.out.2.2.lt q hq).2)
          have hz2':=row_below HOw.out.1 hb2 HOw.out.1.lt
          have hg2':=row_below HOw.out.2.1 hb2 HOw.out.2.1.lt
          have k2:=(gr3_cells hg2').2.2
          have f2:=hg2'.frozen 2
          have hgl2:=hg2'.lt
          clear hb2 HOw HBw HCall
          go_wp2_with fail
          refine (refShade_any _ _ b1 b2).mono ?_
          rintro e w3 ⟨rfl,hw3⟩
          rw [hw3]
          clear hw3
          go_wp2_with (at_builtin;refine wpList_append_lies _ rfl _ _ 45 rfl (sb+2) 5 i0 (.int .u8 0) 1 1 Tryz.underlying45 hi0 hz0 hz1 hz2 rfl (by omega) v (ja+i) L rfl (hown2.alloc _) ⟨w2.heap.size,0,none⟩ 1 1 [.int .u8 (byteV z)] rfl rfl ?a1 ?a2 (by omega) ?a3 ?a4 ?a5 (w2.heap.size+1) (by simp) ?_)
          try (case a1=>exact news_new w2 [.int .u8 (byteV z)] _ _ rfl)
          case a2=>first | rfl | (intro u hu;simp at hu;subst hu;rfl)
          case a3=>unfold maxLen;omega
          case a4=>omega
          case a5=>first | omega | (simp;omega)
          intro g cap w4 hown4 hgrow hat hlt4
          have hnb:∀q,v.ownBlock=some q→sb+2≤q:=fun q hq=>(hown2.lt q hq).1
          have hb4:Below sb w w4:=(hB2.alloc (by rw [HSb.out];omega) _).grown hgrow (by simp;omega) (fun q hq=>by have:=hnb q hq;omega)
          have hk4:∀q,q<w2.heap.size→v.ownBlock≠some q→w4.heap[q]? = w2.heap[q]?:=fun q hq hv=>by rw [hgrow.block q (by rw [nblk_alloc];omega) (fun e=>hv e.symm),blk_alloc_lt _ _ _ hq]
          have hz4:=hz2'.of_block (hk4 sb hz2'.lt (fun e=>by have:=hnb _ e;omega))
          have hg4:=hg2'.of_block (hk4 (sb+1) hg2'.lt (fun e=>by have:=hnb _ e;omega))
          have hgge:sb+2≤g:=by
            rcases hat with h | h
            · exact hnb g h
            · omega
          have HG4:=hide (gr3_pix hg4 (.slice (some ⟨g,0,none⟩) (ja+i+1) cap))
          have HZ4:Hid ((w4.setCell ⟨sb+1,2,none⟩ (.slice (some ⟨g,0,none⟩) (ja+i+1) cap)).rowIs sb 47 3 (gr3 0 0 (.slice none 0 0))):=hz4.of_block (set_otherB (by omega))
          have HO4:Hid ((w4.setCell ⟨sb+1,2,none⟩ (.slice (some ⟨g,0,none⟩) (ja+i+1) cap)).ownsRow (sb+2) 5 1 (.slice (some ⟨g,0,none⟩) (ja+i+1) cap) (ja+(i+1)) (u8C (pixL (histP NN LL sg k) x y a (ja+(i+1))))):=by
            unfold Hid
            rw [←Nat.add_assoc,HLs.out]
            exact owns_of_block hown4 (fun q hq=>set_otherB (by simp [Value.ownBlock] at hq;omega))
          have HB4:Hid (Below sb w (w4.setCell ⟨sb+1,2,none⟩ (.slice (some ⟨g,0,none⟩) (ja+i+1) cap))):=hb4.setCell (p:=⟨sb+1,2,none⟩) (by simp) _
          have k4:=(gr3_cells hg4).2.2
          have f4:=hg4.frozen 2
          have hgl4:=hg4.lt
          clear hown4 hgrow hat hown2 hB2 hnb hb4 hk4 hz4 hg4 hz2' hg2' k2 f2
          go_wp2
          go_roundw
          case rel=>exact ⟨i+1,_,by omega,by go_num,HB4.out,by simp;omega,HZ4.out,HG4.out,HO4.out⟩
          case measure=>simp [intOf];omega
        · have e:i=a:=by omega
          have hdi:decide ((i:Int)<(a:Int))=false:=by simp;omega
          have HO:Hid (wr.ownsRow (sb+2) 5 1 v ((j+1)*a) (u8C (pixL (histP NN LL sg k) x y a ((j+1)*a)))):=by
            unfold Hid
            rw [e,HJA.out,←Nat.succ_mul] at hown
            exact hown
          have HB:=hide (And.intro hb1 (And.intro hsw (And.intro hz1' hg1')))
          clear hown hb1 hz1' hg1'
          go_wp2
          go_roundw
          case rel=>exact ⟨j+1,v,by omega,by go_num,HB.out.1,HB.out.2.1,HB.out.2.2.1,HB.out.2.2.2,HO.out⟩
          case measure=>simp [intOf];omega
    · have e:j=b:=by omega
      have hd0:decide ((j:Int)<(b:Int))=false:=by simp;omega
      have HO:Hid (wo.ownsRow (sb+2) 5 1 vo (a*b) (u8C (pixL (histP NN LL sg k) x y a (a*b)))):=by
        unfold Hid
        rw [e,Nat.mul_comm b a] at howno
        exact howno
      obtain ⟨z0,z1,z2⟩:=gr3_cells hzo
      obtain ⟨y0,y1,y2⟩:=gr3_cells hgo
      have f0:=hzo.frozen 0
      have f1:=hzo.frozen 1
      have f2:=hzo.frozen 2
      obtain ⟨ao,cap0,hv,_⟩:=owns_formN HO.out
      have HRr:=hide (gr3_set hzo a b vo)
      have HB:Hid (Below sb w (((wo.setCell ⟨sb,0,none⟩ (.int .i64 a)).setCell ⟨sb,1,none⟩ (.int .i64 b)).setCell ⟨sb,2,none⟩ vo)):=((hbo.setCell (p:=⟨sb,0,none⟩) (Nat.le_refl _) _).setCell (p:=⟨sb,1,none⟩) (Nat.le_refl _) _).setCell (p:=⟨sb,2,none⟩) (Nat.le_refl _) _
      have HOF:Hid ((((wo.setCell ⟨sb,0,none⟩ (.int .i64 a)).setCell ⟨sb,1,none⟩ (.int .i64 b)).setCell ⟨sb,2,none⟩ vo).ownsRow sb 5 1 vo (a*b) (u8C (pixL (histP NN LL sg k) x y a (a*b)))):=by
        refine owns_mono (owns_of_block HO.out (fun q hq=>?_)) (by omega)
        have hq1:=(HO.out.lt q hq).1
        have hne:q≠sb:=by omega
        rw [set_otherB hne,set_otherB hne,set_otherB hne]
      subst hv
      clear howno hbo hzo hgo HO
      go_wp2
      obtain ⟨wF,hwF⟩:∃wF,wF=((wo.setCell ⟨sb,0,none⟩ (.int .i64 a)).setCell ⟨sb,1,none⟩ (.int .i64 b)).setCell ⟨sb,2,none⟩ (.slice ao (a*b) cap0):=⟨_,rfl⟩
      rw [←hwF]
      rw [←hwF] at HRr HB HOF
      obtain ⟨g0,g1,g2⟩:=gr3_cells HRr.out
      exact bodyPost_ret (v:=.tuple #[.agg #[.int .i64 a,.int .i64 b,.slice ao (a*b) cap0],.int .i64 0]) (by simp [results,Tryz.results91,go_sem,g0,g1,g2]) rfl ⟨_,rfl,by rw [←HSb.out];exact HB.out,by rw [←HSb.out];exact HOF.out⟩
set_option maxRecDepth 100000 in
theorem refRender_any (W H:Int) (ad:Option Addr) (N cc:Nat) (A:Nat→Option Addr) (C n:Nat→Nat) (X Y K:Nat→Nat→Int) (a b c d x y:Int) (w:World)
    (hN:N≤4294967296) (hn:∀i,i<N→n i≤4294967296) (hS:Num.sumN n N≤1099511627776) (ho:OutAt w ad N A C n X Y K) :
    Calls Tryz.prog 45 #[.slice ad N cc,.agg #[.int .i64 a,.int .i64 b,.int .i64 c,.int .i64 d,.int .i64 x,.int .i64 y],.int .i64 W,.int .i64 H] w fun e w'=>∃rw rh v l,e=.returned (.tuple #[.agg #[.int .i64 rw,.int .i64 rh,v],.int .i64 (renE W H (traceE N n X Y K ⟨a,b,c,d,x,y⟩))])∧Below w.heap.size w w'∧w'.ownsRow w.heap.size 5 1 v (List.length l) (u8C l) ∧
      (renE W H (traceE N n X Y K ⟨a,b,c,d,x,y⟩)≠0→rw=0∧rh=0∧l=[])∧(renE W H (traceE N n X Y K ⟨a,b,c,d,x,y⟩)=0→rw=W∧rh=H∧l=pixL (renA (traceL n X Y K ⟨a,b,c,d,x,y⟩) N) 0 0 W.toNat (W.toNat*H.toNat)):=by
  obtain ⟨m,hm⟩:∃m:Num.Mp,m=⟨a,b,c,d,x,y⟩:=⟨_,rfl⟩
  obtain ⟨TE,hTE⟩:∃TE,TE=traceE N n X Y K m:=⟨_,rfl⟩
  obtain ⟨L,hL⟩:∃L,L=traceL n X Y K m:=⟨_,rfl⟩
  obtain ⟨W1,hW1⟩:∃W1,W1=(w.alloc (.cells #[.int .i64 a,.int .i64 b,.int .i64 c,.int .i64 d,.int .i64 x,.int .i64 y] 40)):=⟨_,rfl⟩
  obtain ⟨W2,hW2⟩:∃W2,W2=W1.alloc (.cells #[.int .i64 0,.int .i64 0,.slice none 0 0] 47):=⟨_,rfl⟩
  have hs1:W1.heap.size=w.heap.size+1:=by rw [hW1];simp
  have hs2:W2.heap.size=w.heap.size+2:=by rw [hW2];simp [hs1]
  have HB1:Hid (Below w.heap.size w W1):=by unfold Hid;rw [hW1];(repeat any_goals first | exact .refl _ _ | assumption | refine .drew ?_ | refine below_drewN ?_ _ | refine .setCell ?_ ?_ _ | refine .alloc ?_ ?_ _ | omega | (simp <;> omega))
  have HB2:Hid (Below w.heap.size w W2):=by unfold Hid;rw [hW2];exact HB1.out.alloc (by omega) _
  have HM:Hid (W2.rowIs w.heap.size 40 6 (mp6 a b c d x y)):=by
    unfold Hid;rw [hW2,hW1];exact (mp6_row a b c d x y w 40).alloc _
  have HZ:Hid (W2.rowIs (w.heap.size+1) 47 3 (gr3 0 0 (.slice none 0 0))):=by
    unfold Hid;rw [←hs1,hW2];exact gr3_row 0 0 (.slice none 0 0) W1 47
  have HO:=hide (ho.below HB2.out)
  have HN:=hide hn
  rw [←hm,←hTE,←hL]
  clear ho hn
  cases hnb:newB W H 0
  · have hre:renE W H TE=1:=by unfold renE;rw [if_pos hnb]
    have HCall:=hide (refNew_no W H 0 W2 hnb)
    rw [hre]
    obtain ⟨z0,z1,z2⟩:=gr3_cells HZ.out
    have f0:=HZ.out.frozen 0
    have f1:=HZ.out.frozen 1
    have f2:=HZ.out.frozen 2
    have hsl:w.heap.size+1<W2.heap.size:=by omega
    have HR:=hide (gr3_set HZ.out 0 0 (.slice none 0 0))
    clear hre hm hTE hL
    go_enter Tryz.func45,Tryz.ntmps45
    go_wp2_with fail
    rw [←hW1,←hW2]
    refine HCall.out.mono ?_
    rintro e w3 ⟨rfl,hw3⟩
    rw [hw3]
    clear hW1 hW2 hw3 HCall
    go_wp2
    obtain ⟨wF,hwF⟩:∃wF,wF=((W2.setCell ⟨w.heap.size+1,0,none⟩ (.int .i64 0)).setCell ⟨w.heap.size+1,1,none⟩ (.int .i64 0)).setCell ⟨w.heap.size+1,2,none⟩ (.slice none 0 0):=⟨_,rfl⟩
    have HBF:Hid (Below w.heap.size w wF):=by
      unfold Hid
      rw [hwF]
      have:=HB2.out
      (repeat any_goals first | exact .refl _ _ | assumption | refine .drew ?_ | refine below_drewN ?_ _ | refine .setCell ?_ ?_ _ | refine .alloc ?_ ?_ _ | omega | (simp <;> omega))
    rw [←hwF]
    rw [←hwF] at HR
    obtain ⟨g0,g1,g2⟩:=gr3_cells HR.out
    exact bodyPost_ret (v:=.tuple #[.agg #[.int .i64 0,.int .i64 0,.slice none 0 0],.int .i64 1]) (by simp [results,Tryz.results45,go_sem,g0,g1,g2]) rfl ⟨0,0,.slice none 0 0,[],rfl,HBF.out,World.ownsRow_nil _ _ _ _,fun _=>⟨rfl,rfl,rfl⟩,fun e=>by simp at e⟩
  · obtain ⟨hW,hH,_⟩:=newB_yes hnb
    obtain ⟨wn,hwn⟩:∃wn:Nat,(wn:Int)=W:=⟨W.toNat,by omega⟩
    obtain ⟨hn',hhn⟩:∃hn':Nat,(hn':Int)=H:=⟨H.toNat,by omega⟩
    subst hwn hhn
    have hre:renE (wn:Int) (hn':Int) TE=TE:=by unfold renE;rw [hnb];rfl
    rw [hre]
    have hw1:1≤wn∧wn≤64:=by omega
    have hh1:1≤hn'∧hn'≤64:=by omega
    have HNew:=hide (refNew_yes wn hn' 0 W2 hw1 hh1 (.inl rfl))
    obtain ⟨rb,hrb⟩:∃rb,rb=W2.heap.size:=⟨_,rfl⟩
    rw [←hrb] at HNew
    have hrb2:rb=w.heap.size+2:=by omega
    obtain ⟨W4,hW4⟩:∃W4,W4=W2.alloc (.cells #[.int .i64 (wn:Int),.int .i64 (hn':Int),.slice none 0 0,.slice none 0 0] 173):=⟨_,rfl⟩
    have hs4:W4.heap.size=w.heap.size+3:=by rw [hW4];simp [hs2]
    have hb24:Below W2.heap.size W2 W4:=by rw [hW4];exact (Below.refl _ _).alloc (Nat.le_refl _) _
    have hRc:Rcv W4 rb wn hn' 0 (fun _=>.slice none 0 0) (fun _ _=>.slice none 0 0) (fun _=>0) (fun _ _=>[]) (fun _=>1) (.slice none 0 0) (.slice none 0 0):=Rcv.start (by rw [hrb,hW4];exact rc4_alloc wn hn' (.slice none 0 0) (.slice none 0 0) W2 173)
    have hM4:=row_below HM.out hb24 (by omega)
    obtain ⟨d0,d1,d2,d3,d4,d5⟩:=mp6_cells hM4
    have hM4l:=hM4.lt
    have HTk:=hide (refTake_any rb wn hn' 0 _ _ _ _ _ _ _ ad N cc A C n X Y K a b c d x y 1 W4 hRc (.inl rfl) hN HN.out hS (HO.out.below hb24))
    rw [layE_zero,←hm,←hTE,←hL] at HTk
    have HZ4:=hide (row_below HZ.out hb24 (by omega))
    have HB4:Hid (Below w.heap.size w W4):=HB2.out.trans (hb24.mono (by omega))
    have HRb:=hide hrb2
    have hs4':w.heap.size+2<W4.heap.size:=by omega
    clear hre hnb hW hH hm hTE hL hM4 hb24 hRc HM HZ hrb hrb2 hs2 hs4 hs1
    go_enter Tryz.func45,Tryz.ntmps45
    go_wp2_with fail
    rw [←hW1,←hW2]
    refine HNew.out.mono ?_
    rintro e w3 ⟨rfl,hw3⟩
    rw [hw3,←hW4]
    clear hW1 hW2 hW4 hw3 HNew
    go_wp2_with fail
    refine HTk.out.mono ?_
    rintro e w5 ⟨rfl,hT5,hno,hyes⟩
    have hs5:=hT5.size
    have hrc:∀q,rcS rb (.slice none 0 0) (.slice none 0 0) q→w.heap.size+2≤q:=fun q hq=>by
      rcases hq with rfl | hq | hq
      · rw [HRb.out];exact Nat.le_refl _
      · simp [Value.ownBlock] at hq
      · simp [Value.ownBlock] at hq
    have HB5:Hid (Below w.heap.size w w5):=HB4.out.trans (hT5.below (B:=w.heap.size) (by omega) (fun q hq=>by have:=hrc q hq;omega))
    have hZ5:=hT5.row HZ4.out (fun e=>by have:=hrc _ e;omega)
    have hsl:w.heap.size+1<w5.heap.size:=hZ5.lt
    by_cases h0:TE=0
    · obtain ⟨v,V,vR',vS',hC5,_⟩:=hyes h0
      have HGr:=hide (refGray_any rb wn hn' (0+1) 0 0 wn hn' _ _ _ _ _ _ _ w5 hC5 hw1 hh1 ⟨by omega,by omega⟩ ⟨by omega,by omega⟩)
      have HZ5:=hide hZ5
      have HP:Hid (pixL (histP (fun q=>if q=0 then N else 0) (fun q=>if q=0 then L else fun _=>[]) (fun q=>if q=0 then (1:Int) else 1) (0+1)) 0 0 wn (wn*hn')=pixL (renA L N) 0 0 wn (wn*hn')):=by
        unfold Hid
        congr 1
        funext i j
        unfold renA histP histA
        simp [Num.sumZ]
      rw [HP.out,show (((0:Nat)):Int)=0 from rfl] at HGr
      have hte:(TE != 0)=false:=by simp [h0]
      clear hT5 hno hyes hC5 hZ5 HTk HP hrc
      go_wp2_with fail
      refine HGr.out.mono ?_
      rintro e w6 ⟨v6,rfl,hb6,hown⟩
      have hs6:=hb6.size
      have hZ6:=row_below HZ5.out hb6 (by omega)
      obtain ⟨z0,z1,z2⟩:=gr3_cells hZ6
      have f0:=hZ6.frozen 0
      have f1:=hZ6.frozen 1
      have f2:=hZ6.frozen 2
      have hsl6:w.heap.size+1<w6.heap.size:=by omega
      obtain ⟨ao,cap0,hv,_⟩:=owns_formN hown
      have HR:=hide ((gr3_set hZ6 wn hn' v6).alloc (.cells #[.int .i64 wn,.int .i64 hn',v6] 47))
      have hB:Below w.heap.size w w6:=HB5.out.trans (hb6.mono (by have:=HB5.out.size;omega))
      have HB:Hid (Below w.heap.size w ((((w6.setCell ⟨w.heap.size+1,0,none⟩ (.int .i64 wn)).setCell ⟨w.heap.size+1,1,none⟩ (.int .i64 hn')).setCell ⟨w.heap.size+1,2,none⟩ v6).alloc (.cells #[.int .i64 wn,.int .i64 hn',v6] 47))):=(((hB.setCell (p:=⟨w.heap.size+1,0,none⟩) (by simp) _).setCell (p:=⟨w.heap.size+1,1,none⟩) (by simp) _).setCell (p:=⟨w.heap.size+1,2,none⟩) (by simp) _).alloc (by simp;omega) _
      have HOF:Hid (((((w6.setCell ⟨w.heap.size+1,0,none⟩ (.int .i64 wn)).setCell ⟨w.heap.size+1,1,none⟩ (.int .i64 hn')).setCell ⟨w.heap.size+1,2,none⟩ v6).alloc (.cells #[.int .i64 wn,.int .i64 hn',v6] 47)).ownsRow w.heap.size 5 1 v6 (wn*hn') (u8C (pixL (renA L N) 0 0 wn (wn*hn')))):=by
        refine owns_mono (owns_of_block hown (fun q hq=>?_)) (by omega)
        have hq1:=hown.lt q hq
        have hne:q≠w.heap.size+1:=by omega
        rw [blk_alloc_lt _ _ _ (by simp;omega),set_otherB hne,set_otherB hne,set_otherB hne]
      subst hv
      clear hown hb6 hZ6 hB HGr
      go_wp2
      obtain ⟨wF,hwF⟩:∃wF,wF=(((w6.setCell ⟨w.heap.size+1,0,none⟩ (.int .i64 wn)).setCell ⟨w.heap.size+1,1,none⟩ (.int .i64 hn')).setCell ⟨w.heap.size+1,2,none⟩ (.slice ao (wn*hn') cap0)).alloc (.cells #[.int .i64 wn,.int .i64 hn',.slice ao (wn*hn') cap0] 47):=⟨_,rfl⟩
      rw [←hwF]
      rw [←hwF] at HR HB HOF
      obtain ⟨g0,g1,g2⟩:=gr3_cells HR.out
      have hpl:=pixL_len (renA L N) 0 0 wn (wn*hn')
      exact bodyPost_ret (v:=.tuple #[.agg #[.int .i64 wn,.int .i64 hn',.slice ao (wn*hn') cap0],.int .i64 0]) (by simp [results,Tryz.results45,go_sem,g0,g1,g2]) rfl ⟨wn,hn',_,pixL (renA L N) 0 0 wn (wn*hn'),by rw [h0],HB.out,by rw [hpl];exact HOF.out,fun e=>absurd h0 e,fun _=>⟨rfl,rfl,by simp⟩⟩
    · have hte:(TE != 0)=true:=by simp [h0]
      obtain ⟨z0,z1,z2⟩:=gr3_cells hZ5
      have f0:=hZ5.frozen 0
      have f1:=hZ5.frozen 1
      have f2:=hZ5.frozen 2
      have HR:=hide (gr3_set hZ5 0 0 (.slice none 0 0))
      clear hT5 hno hyes hZ5 HTk hrc
      go_wp2
      obtain ⟨wF,hwF⟩:∃wF,wF=((w5.setCell ⟨w.heap.size+1,0,none⟩ (.int .i64 0)).setCell ⟨w.heap.size+1,1,none⟩ (.int .i64 0)).setCell ⟨w.heap.size+1,2,none⟩ (.slice none 0 0):=⟨_,rfl⟩
      have HBF:Hid (Below w.heap.size w wF):=by
        unfold Hid
        rw [hwF]
        have:=HB5.out
        (repeat any_goals first | exact .refl _ _ | assumption | refine .drew ?_ | refine below_drewN ?_ _ | refine .setCell ?_ ?_ _ | refine .alloc ?_ ?_ _ | omega | (simp <;> omega))
      rw [←hwF]
      rw [←hwF] at HR
      obtain ⟨g0,g1,g2⟩:=gr3_cells HR.out
      exact bodyPost_ret (v:=.tuple #[.agg #[.int .i64 0,.int .i64 0,.slice none 0 0],.int .i64 TE]) (by simp [results,Tryz.results45,go_sem,g0,g1,g2]) rfl ⟨0,0,.slice none 0 0,[],rfl,HBF.out,World.ownsRow_nil _ _ _ _,fun _=>⟨rfl,rfl,rfl⟩,fun e=>absurd e h0⟩
theorem canvasTake_any (bk W H tk:Nat) (tt:TypeId) (A:Nat→Nat→Int) (st:Int) (S:Nat→Prop) (ad:Option Addr) (N cc:Nat) (AA:Nat→Option Addr) (C n:Nat→Nat) (X Y K:Nat→Nat→Int) (a b c d x y:Int) (w:World)
    (hC:Cnv w bk tt W H tk A (781440000000*tk) S st) (hW:1≤W∧W≤64) (hH:1≤H∧H≤64) (htk:tk≤100) (hN:N≤4294967296) (hn:∀i,i<N→n i≤4294967296) (ho:OutAt w ad N AA C n X Y K) :
    Calls Tryz.prog 149 #[.pointer (some ⟨bk,0,none⟩),.slice ad N cc,.agg #[.int .i64 a,.int .i64 b,.int .i64 c,.int .i64 d,.int .i64 x,.int .i64 y]] w fun e w'=>e=.returned (.int .i64 (layE (traceE N n X Y K ⟨a,b,c,d,x,y⟩) tk))∧Touch S w w' ∧
      (layE (traceE N n X Y K ⟨a,b,c,d,x,y⟩) tk≠0→Cnv w' bk tt W H tk A (781440000000*tk) S st) ∧
      (layE (traceE N n X Y K ⟨a,b,c,d,x,y⟩) tk=0→∃S',Cnv w' bk tt W H (tk+1) (fun i j=>A i j + -1*Num.areaV (traceL n X Y K ⟨a,b,c,d,x,y⟩) N i j) (781440000000*((tk+1:Nat):Int)) S' st∧∀q,S' q→S q∨w.heap.size≤q):=by
  have hB0:Hid (Below w.heap.size w (w.alloc (.cells #[.int .i64 a,.int .i64 b,.int .i64 c,.int .i64 d,.int .i64 x,.int .i64 y] 40))):=(Below.refl _ _).alloc (Nat.le_refl _) _
  have HCall:=hide (lay_any bk W H tk tt A st (-1) S ad N cc AA C n X Y K a b c d x y _ (hC.below hB0.out) hW hH htk (.inr rfl) hN hn (ho.below hB0.out))
  clear hC ho hn
  go_enter Tryz.func149,Tryz.ntmps149
  go_wp2_with fail
  refine HCall.out.mono ?_
  rintro e w1 ⟨rfl,hT,h1,h2⟩
  have HT:Hid (Touch S w w1):=((Touch.refl S w).of_below hB0.out).trans' hT (fun q e=>.inl e)
  have H1:=hide h1
  have H2:=hide h2
  clear hT h1 h2 HCall
  go_wp2
  go_ret
  refine ⟨rfl,HT.out,H1.out,fun e=>?_⟩
  obtain ⟨S',g1,g2⟩:=H2.out e
  exact ⟨S',g1,fun q hq=>by rcases g2 q hq with h | h;exact .inl h;exact .inr (by simp at h;omega)⟩
theorem glyphTake_any (bk W H tk:Nat) (tt:TypeId) (A:Nat→Nat→Int) (st:Int) (S:Nat→Prop) (ad:Option Addr) (N cc:Nat) (AA:Nat→Option Addr) (C n:Nat→Nat) (X Y K:Nat→Nat→Int) (a b c d x y:Int) (w:World)
    (hC:Cnv w bk tt W H tk A (781440000000*tk) S st) (hW:1≤W∧W≤64) (hH:1≤H∧H≤64) (htk:tk≤100) (hN:N≤4294967296) (hn:∀i,i<N→n i≤4294967296) (ho:OutAt w ad N AA C n X Y K) :
    Calls Tryz.prog 106 #[.pointer (some ⟨bk,0,none⟩),.slice ad N cc,.agg #[.int .i64 a,.int .i64 b,.int .i64 c,.int .i64 d,.int .i64 x,.int .i64 y]] w fun e w'=>e=.returned (.int .i64 (layE (traceE N n X Y K ⟨a,b,c,d,x,y⟩) tk))∧Touch S w w' ∧
      (layE (traceE N n X Y K ⟨a,b,c,d,x,y⟩) tk≠0→Cnv w' bk tt W H tk A (781440000000*tk) S st) ∧
      (layE (traceE N n X Y K ⟨a,b,c,d,x,y⟩) tk=0→∃S',Cnv w' bk tt W H (tk+1) (fun i j=>A i j + -1*Num.areaV (traceL n X Y K ⟨a,b,c,d,x,y⟩) N i j) (781440000000*((tk+1:Nat):Int)) S' st∧∀q,S' q→S q∨w.heap.size≤q):=by
  have hB0:Hid (Below w.heap.size w (w.alloc (.cells #[.int .i64 a,.int .i64 b,.int .i64 c,.int .i64 d,.int .i64 x,.int .i64 y] 40))):=(Below.refl _ _).alloc (Nat.le_refl _) _
  have HCall:=hide (canvasTake_any bk W H tk tt A st S ad N cc AA C n X Y K a b c d x y _ (hC.below hB0.out.drew) hW hH htk hN hn (ho.below hB0.out.drew))
  clear hC ho hn
  go_enter Tryz.func106,Tryz.ntmps106
  go_wp2_with fail
  go_region_with (go_at_call 149;refine HCall.out.mono ?_;rintro e w1 ⟨rfl,hT,h1,h2⟩)
  all_goals
    have HT:Hid (Touch S w w1):=((Touch.refl S w).of_below hB0.out.drew).trans' hT (fun q e=>.inl e)
    have H1:=hide h1
    have H2:=hide h2
    clear hT h1 h2
    go_wp2
    go_ret
    refine ⟨rfl,HT.out,H1.out,fun e=>?_⟩
    obtain ⟨S',g1,g2⟩:=H2.out e
    exact ⟨S',g1,fun q hq=>by rcases g2 q hq with h | h;exact .inl h;exact .inr (by simp at h;omega)⟩
theorem canvasTaken_any (b W H tk:Nat) (tt:TypeId) (A:Nat→Nat→Int) (P st:Int) (S:Nat→Prop) (w:World) (hC:Cnv w b tt W H tk A P S st) :
    Calls Tryz.prog 151 #[.pointer (some ⟨b,0,none⟩)] w fun e w'=>e=.returned (.int .i64 tk)∧w'=w:=by
  obtain ⟨c0,c1,c2,c3,hbl⟩:=hC.cells
  clear hC
  go_enter Tryz.func151,Tryz.ntmps151
  go_wp2
  go_ret
  exact ⟨rfl,rfl⟩
theorem glyphTaken_any (b W H tk:Nat) (tt:TypeId) (A:Nat→Nat→Int) (P st:Int) (S:Nat→Prop) (w:World) (hC:Cnv w b tt W H tk A P S st) :
    Calls Tryz.prog 109 #[.pointer (some ⟨b,0,none⟩)] w fun e w'=>e=.returned (.int .i64 tk)∧w'=w:=by
  have HCall:=hide (canvasTaken_any b W H tk tt A P st S w hC)
  clear hC
  go_enter Tryz.func109,Tryz.ntmps109
  go_wp2_with fail
  refine HCall.out.mono ?_
  rintro e w' ⟨rfl,hw'⟩
  rw [hw']
  clear hw'
  go_wp2
  go_ret
  exact ⟨rfl,rfl⟩
theorem canvasClear_any (b W H tk:Nat) (tt:TypeId) (A:Nat→Nat→Int) (P st:Int) (S:Nat→Prop) (w:World) (hC:Cnv w b tt W H tk A P S st) (hW:1≤W∧W≤64) (hH:1≤H∧H≤64) :
    Calls Tryz.prog 150 #[.pointer (some ⟨b,0,none⟩)] w fun e w'=>e=.returned (.tuple #[])∧Touch S w w'∧∃S',Cnv w' b tt W H 0 (fun _ _=>0) 0 S' st∧∀q,S' q→S q∨w.heap.size≤q:=by
  have hown:=hC.own
  have key:∀{w'},Touch (fun q=>q=b) w w'→Touch S w w':=fun h=>⟨h.os,h.tape,h.output,h.size,fun q hq hs=>h.block q hq (fun e=>hs (by rw [e];exact hown))⟩
  cases hC with
  | tab g T hR hT hbg hA hB hSb hSg hlt=>
    refine (clear_any b W H tk tt 0 W (some ⟨g,0,none⟩) none (W*H) (W*H) 0 0 w hR hW hH (.inl ⟨rfl,rfl,rfl,rfl⟩)).mono ?_
    rintro e w' ⟨he,h1,S',h2,h3⟩
    exact ⟨he,key h1,S',h2,fun q hq=>by rcases h3 q hq with h | h;exact .inl (by rw [h];exact hown);exact .inr h⟩
  | rws g V R hR hG hbg hA hM hSb hSg hlt=>
    refine (clear_any b W H tk tt 1 0 none (some ⟨g,0,none⟩) 0 0 H H w hR hW hH (.inr ⟨rfl,rfl,rfl,rfl,rfl⟩)).mono ?_
    rintro e w' ⟨he,h1,S',h2,h3⟩
    exact ⟨he,key h1,S',h2,fun q hq=>by rcases h3 q hq with h | h;exact .inl (by rw [h];exact hown);exact .inr h⟩
theorem glyphClear_any (b W H tk:Nat) (tt:TypeId) (A:Nat→Nat→Int) (P st:Int) (S:Nat→Prop) (w:World) (hC:Cnv w b tt W H tk A P S st) (hW:1≤W∧W≤64) (hH:1≤H∧H≤64) :
    Calls Tryz.prog 107 #[.pointer (some ⟨b,0,none⟩)] w fun e w'=>e=.returned (.tuple #[])∧Touch S w w'∧∃S',Cnv w' b tt W H 0 (fun _ _=>0) 0 S' st∧∀q,S' q→S q∨w.heap.size≤q:=by
  have HCall:=hide (canvasClear_any b W H tk tt A P st S w hC hW hH)
  have hbl:=hC.cells.2.2.2.2
  clear hC
  go_enter Tryz.func107,Tryz.ntmps107
  go_wp2_with fail
  refine HCall.out.mono ?_
  rintro e w' ⟨rfl,h1⟩
  have H1:=hide h1
  clear h1
  go_wp2
  go_end0
  exact ⟨rfl,H1.out⟩
def NewUsed (B0 h:Nat) (s s':HS):Prop:=∀q,Used h s' q→Used h s q∨B0≤q
theorem NewUsed.refl (B0 h:Nat) (s:HS):NewUsed B0 h s s:=fun _ u=>.inl u
theorem NewUsed.trans {B0 h:Nat} {s s1 s2:HS} (a:NewUsed B0 h s s1) (b:NewUsed B0 h s1 s2):NewUsed B0 h s s2:=fun q u=>(b q u).elim (a q) .inr
theorem NewUsed.mono {B0 B1 h:Nat} {s s':HS} (a:NewUsed B0 h s s') (hb:B1≤B0):NewUsed B1 h s s':=fun q u=>(a q u).imp id (Nat.le_trans hb)
theorem used_S {h:Nat} {s:HS} {n:Int} {v:Value} {t:List (Option Nat×Nat×Int)} {q:Nat} (u:Used h { s with n:=n,vS:=v,S:=t } q):Used h s q∨v.ownBlock=some q∨∃e∈t,e.1=some q:=by
  rcases u with u | u | u | u | u | u | u | u | u | u | u | u | u | u | u
  · exact .inl (.inl u)
  · exact .inl (.inr (.inl u))
  · exact .inl (.inr (.inr (.inl u)))
  · exact .inr (.inl u)
  · exact .inl (.inr (.inr (.inr (.inr (.inl u)))))
  · exact .inl (.inr (.inr (.inr (.inr (.inr (.inl u))))))
  · exact .inl (.inr (.inr (.inr (.inr (.inr (.inr (.inl u)))))))
  · exact .inr (.inr u)
  · exact .inl (.inr (.inr (.inr (.inr (.inr (.inr (.inr (.inr (.inl u)))))))))
  · exact .inl (.inr (.inr (.inr (.inr (.inr (.inr (.inr (.inr (.inr (.inl u))))))))))
  · exact .inl (.inr (.inr (.inr (.inr (.inr (.inr (.inr (.inr (.inr (.inr (.inl u)))))))))))
  · exact .inl (.inr (.inr (.inr (.inr (.inr (.inr (.inr (.inr (.inr (.inr (.inr (.inl u))))))))))))
  · exact .inl (.inr (.inr (.inr (.inr (.inr (.inr (.inr (.inr (.inr (.inr (.inr (.inr (.inl u)))))))))))))
  · exact .inl (.inr (.inr (.inr (.inr (.inr (.inr (.inr (.inr (.inr (.inr (.inr (.inr (.inr (.inl u))))))))))))))
  · exact .inl (.inr (.inr (.inr (.inr (.inr (.inr (.inr (.inr (.inr (.inr (.inr (.inr (.inr (.inr (u)))))))))))))))
theorem used_T {h:Nat} {s:HS} {n:Int} {v:Value} {t:List (Option Nat×Nat×Int)} {q:Nat} (u:Used h { s with n:=n,vT:=v,T:=t } q):Used h s q∨v.ownBlock=some q∨∃e∈t,e.1=some q:=by
  rcases u with u | u | u | u | u | u | u | u | u | u | u | u | u | u | u
  · exact .inl (.inl u)
  · exact .inl (.inr (.inl u))
  · exact .inl (.inr (.inr (.inl u)))
  · exact .inl (.inr (.inr (.inr (.inl u))))
  · exact .inl (.inr (.inr (.inr (.inr (.inl u)))))
  · exact .inl (.inr (.inr (.inr (.inr (.inr (.inl u))))))
  · exact .inl (.inr (.inr (.inr (.inr (.inr (.inr (.inl u)))))))
  · exact .inl (.inr (.inr (.inr (.inr (.inr (.inr (.inr (.inl u))))))))
  · exact .inr (.inl u)
  · exact .inl (.inr (.inr (.inr (.inr (.inr (.inr (.inr (.inr (.inr (.inl u))))))))))
  · exact .inr (.inr u)
  · exact .inl (.inr (.inr (.inr (.inr (.inr (.inr (.inr (.inr (.inr (.inr (.inr (.inl u))))))))))))
  · exact .inl (.inr (.inr (.inr (.inr (.inr (.inr (.inr (.inr (.inr (.inr (.inr (.inr (.inl u)))))))))))))
  · exact .inl (.inr (.inr (.inr (.inr (.inr (.inr (.inr (.inr (.inr (.inr (.inr (.inr (.inr (.inl u))))))))))))))
  · exact .inl (.inr (.inr (.inr (.inr (.inr (.inr (.inr (.inr (.inr (.inr (.inr (.inr (.inr (.inr (u)))))))))))))))
theorem used_R {h:Nat} {s:HS} {n:Int} {v:Value} {t:List (Option Nat×Nat×(Nat→Nat)×Int)} {q:Nat} (u:Used h { s with n:=n,vR:=v,R:=t } q):Used h s q∨v.ownBlock=some q∨(∃e∈t,e.1=some q)∨∃e∈t,∃i,i<e.2.1∧e.2.2.1 i=q:=by
  rcases u with u | u | u | u | u | u | u | u | u | u | u | u | u | u | u
  · exact .inl (.inl u)
  · exact .inl (.inr (.inl u))
  · exact .inl (.inr (.inr (.inl u)))
  · exact .inl (.inr (.inr (.inr (.inl u))))
  · exact .inl (.inr (.inr (.inr (.inr (.inl u)))))
  · exact .inl (.inr (.inr (.inr (.inr (.inr (.inl u))))))
  · exact .inl (.inr (.inr (.inr (.inr (.inr (.inr (.inl u)))))))
  · exact .inl (.inr (.inr (.inr (.inr (.inr (.inr (.inr (.inl u))))))))
  · exact .inl (.inr (.inr (.inr (.inr (.inr (.inr (.inr (.inr (.inl u)))))))))
  · exact .inr (.inl u)
  · exact .inl (.inr (.inr (.inr (.inr (.inr (.inr (.inr (.inr (.inr (.inr (.inl u)))))))))))
  · exact .inr (.inr (.inl u))
  · exact .inr (.inr (.inr u))
  · exact .inl (.inr (.inr (.inr (.inr (.inr (.inr (.inr (.inr (.inr (.inr (.inr (.inr (.inr (.inl u))))))))))))))
  · exact .inl (.inr (.inr (.inr (.inr (.inr (.inr (.inr (.inr (.inr (.inr (.inr (.inr (.inr (.inr (u)))))))))))))))
theorem used_vS {h:Nat} {s:HS} {q:Nat} (u:s.vS.ownBlock=some q):Used h s q:=.inr (.inr (.inr (.inl u)))
theorem used_vT {h:Nat} {s:HS} {q:Nat} (u:s.vT.ownBlock=some q):Used h s q:=.inr (.inr (.inr (.inr (.inr (.inr (.inr (.inr (.inl u))))))))
theorem used_vR {h:Nat} {s:HS} {q:Nat} (u:s.vR.ownBlock=some q):Used h s q:=.inr (.inr (.inr (.inr (.inr (.inr (.inr (.inr (.inr (.inl u)))))))))
theorem used_eS {h:Nat} {s:HS} {q:Nat} (u:∃e∈s.S,e.1=some q):Used h s q:=.inr (.inr (.inr (.inr (.inr (.inr (.inr (.inl u)))))))
theorem used_eT {h:Nat} {s:HS} {q:Nat} (u:∃e∈s.T,e.1=some q):Used h s q:=.inr (.inr (.inr (.inr (.inr (.inr (.inr (.inr (.inr (.inr (.inl u))))))))))
theorem used_eR {h:Nat} {s:HS} {q:Nat} (u:∃e∈s.R,e.1=some q):Used h s q:=.inr (.inr (.inr (.inr (.inr (.inr (.inr (.inr (.inr (.inr (.inr (.inl u)))))))))))
theorem used_iR {h:Nat} {s:HS} {q:Nat} (u:∃e∈s.R,∃i,i<e.2.1∧e.2.2.1 i=q):Used h s q:=.inr (.inr (.inr (.inr (.inr (.inr (.inr (.inr (.inr (.inr (.inr (.inr (.inl u))))))))))))
theorem used_vB {h:Nat} {s:HS} {b:Nat} (hb:s.vB.ownBlock=some b):Used h s b:=.inr (.inr (.inr (.inr (.inr (.inr (.inr (.inr (.inr (.inr (.inr (.inr (.inr (.inl hb)))))))))))))
theorem BytesKept.used {B0 h:Nat} {w:World} {s s':HS} {x:Value} (K:BytesKept w s s' x) (hB:B0≤w.heap.size) (hge:∀q,x.ownBlock=some q→B0≤q):NewUsed B0 h s s':=by
  intro q u
  obtain ⟨v1,v2,v3,v4,v5⟩:=K.vs
  unfold Used at u
  rw [v1,v2,v3,v4,v5,K.P,K.O,K.S,K.T,K.R] at u
  rcases u with u | u | u | u | u | u | u | u | u | u | u | u | u | u | ⟨e,he,u⟩
  · exact .inl (.inl u)
  · exact .inl (.inr (.inl u))
  · exact .inl (.inr (.inr (.inl u)))
  · exact .inl (.inr (.inr (.inr (.inl u))))
  · exact .inl (.inr (.inr (.inr (.inr (.inl u)))))
  · exact .inl (.inr (.inr (.inr (.inr (.inr (.inl u))))))
  · exact .inl (.inr (.inr (.inr (.inr (.inr (.inr (.inl u)))))))
  · exact .inl (.inr (.inr (.inr (.inr (.inr (.inr (.inr (.inl u))))))))
  · exact .inl (.inr (.inr (.inr (.inr (.inr (.inr (.inr (.inr (.inl u)))))))))
  · exact .inl (.inr (.inr (.inr (.inr (.inr (.inr (.inr (.inr (.inr (.inl u))))))))))
  · exact .inl (.inr (.inr (.inr (.inr (.inr (.inr (.inr (.inr (.inr (.inr (.inl u)))))))))))
  · exact .inl (.inr (.inr (.inr (.inr (.inr (.inr (.inr (.inr (.inr (.inr (.inr (.inl u))))))))))))
  · exact .inl (.inr (.inr (.inr (.inr (.inr (.inr (.inr (.inr (.inr (.inr (.inr (.inr (.inl u)))))))))))))
  · rcases K.vB with h1 | ⟨g,h1,h2⟩
    · exact .inl (used_vB (by rw [←h1];exact u))
    · rw [h1] at u;simp at u;subst u;exact .inr (by omega)
  · rcases K.B e he with h1 | h1
    · exact .inl (.inr (.inr (.inr (.inr (.inr (.inr (.inr (.inr (.inr (.inr (.inr (.inr (.inr (.inr ⟨e,h1,u⟩))))))))))))))
    · exact .inr (hge q (by rw [←h1];exact u))
structure HK (B0:Nat) (w:World) (h:Nat) (s:HS) (wi:World) (si:HS) (xs:List Value) (k:Int):Prop where
  inv:HeldInv wi h si
  n:si.n=s.n+k
  cs:si.cs=s.cs
  rs:si.rs=s.rs
  vB:si.vB.ownBlock=s.vB.ownBlock∨∃g,si.vB.ownBlock=some g∧w.heap.size≤g
  B:∀e∈si.B,e∈s.B∨∃x∈xs,e.1=x.ownBlock
  touch:Touch (Used h s) w wi
  bel:Below B0 w wi
  nu:NewUsed w.heap.size h s si
theorem HK.start {B0:Nat} {w:World} {h:Nat} {s:HS} (H:HeldInv w h s):HK B0 w h s w s [] 0:=
  ⟨H,by omega,rfl,rfl,.inl rfl,fun _ he=>.inl he,Touch.refl _ _,Below.refl _ _,NewUsed.refl _ _ _⟩
theorem HK.below {B0:Nat} {w:World} {h:Nat} {s:HS} {wi wj:World} {si:HS} {xs:List Value} {k:Int} (K:HK B0 w h s wi si xs k) (hB:B0≤w.heap.size) (hb:Below wi.heap.size wi wj):HK B0 w h s wj si xs k:=
  ⟨K.inv.below hb,K.n,K.cs,K.rs,K.vB,K.B,K.touch.of_below hb,K.bel.trans (hb.mono (Nat.le_trans hB K.touch.size)),K.nu⟩
theorem HK.step {B0:Nat} {w:World} {h:Nat} {s:HS} {wi wj:World} {si sj:HS} {xs:List Value} {x:Value} {k:Int} (K:HK B0 w h s wi si xs k) (hB:B0≤w.heap.size) (hh:B0≤h) (hge:∀q,x.ownBlock=some q→w.heap.size≤q)
    (hT:Touch (byteS h si x) wi wj) (hI:HeldInv wj h sj) (hK:BytesKept wi si sj x):HK B0 w h s wj sj (x::xs) (k+1):=by
  have hsz:=K.touch.size
  refine ⟨hI,by rw [hK.n,K.n];omega,hK.cs.trans K.cs,hK.rs.trans K.rs,?_,fun e he=>?_,?_,?_,K.nu.trans (hK.used hsz hge)⟩
  · rcases hK.vB with h1 | ⟨g,h1,h2⟩
    · rw [h1];exact K.vB
    · exact .inr ⟨g,h1,by omega⟩
  · rcases hK.B e he with h1 | h1
    · rcases K.B e h1 with h2 | ⟨y,hy,h2⟩
      · exact .inl h2
      · exact .inr ⟨y,by simp [hy],h2⟩
    · exact .inr ⟨x,by simp,h1⟩
  · refine K.touch.trans' hT (fun q hq=>?_)
    rcases hq with rfl | hq | hq
    · exact .inl (.inl rfl)
    · rcases K.vB with h1 | ⟨g,h1,h2⟩
      · exact .inl (used_vB (by rw [←h1];exact hq))
      · rw [h1] at hq;simp at hq;subst hq;exact .inr h2
    · exact .inr (hge q hq)
  · refine K.bel.trans (hT.below (by omega) (fun q hq=>?_))
    rcases hq with rfl | hq | hq
    · exact hh
    · have:=(K.inv.oB.lt q hq).1;omega
    · have:=hge q hq;omega
theorem HK.free {B0:Nat} {w:World} {h:Nat} {s:HS} {wi:World} {si:HS} {xs:List Value} {k:Int} (K:HK B0 w h s wi si xs k) (hu:s.UnderB w.heap.size) {q:Nat} (hq:w.heap.size≤q) (hne:∀x∈xs,x.ownBlock≠some q):∀e∈si.B,e.1≠some q:=fun e he e1=>by
  rcases K.B e he with h1 | ⟨x,hx,h1⟩
  · have:=hu e h1 q e1;omega
  · exact hne x hx (by rw [←h1];exact e1)
def hs0:HS:=⟨0,.slice none 0 0,.slice none 0 0,.slice none 0 0,.slice none 0 0,.slice none 0 0,.slice none 0 0,.slice none 0 0,.slice none 0 0,[],[],[],[],[],[]⟩
theorem held_start (w:World):HeldInv (w.alloc (.cells #[.slice none 0 0,.slice none 0 0,.int .i64 0,.slice none 0 0,.slice none 0 0,.slice none 0 0,.slice none 0 0,.slice none 0 0,.slice none 0 0] 37)) w.heap.size hs0:=by
  refine { wd:=?wd,oP:=World.ownsRow_nil _ _ _ _,oO:=World.ownsRow_nil _ _ _ _,oS:=World.ownsRow_nil _ _ _ _,oT:=World.ownsRow_nil _ _ _ _,oR:=World.ownsRow_nil _ _ _ _,eP:=(fun e h=>by cases h),eO:=(fun e h=>by cases h),eI:=(fun e h=>by cases h),eS:=(fun e h=>by cases h),eN:=(fun e h=>by cases h),eT:=(fun e h=>by cases h),eU:=(fun e h=>by cases h),eR:=(fun e h=>by cases h),eJ:=(fun e h=>by cases h),eM:=(fun e h=>by cases h),lo:=by simp [hs0],hi:=by simp [hs0],mP:=(fun e h=>by cases h),mO:=(fun e h=>by cases h),mS:=(fun e h=>by cases h),mT:=(fun e h=>by cases h),mR:=(fun e h=>by cases h),oB:=World.ownsRow_nil _ _ _ _,eB:=(fun e h=>by cases h),eV:=(fun e h=>by cases h),mB:=(fun e h=>by cases h) }
  case wd=>
    refine World.rowIs_alloc w _ _ (wc hs0) (fun q hq=>?_)
    have hq:q<9:=hq
    rcases (show q=0∨q=1∨q=2∨q=3∨q=4∨q=5∨q=6∨q=7∨q=8 by omega) with rfl | rfl | rfl | rfl | rfl | rfl | rfl | rfl | rfl <;> rfl
def rcF (rb k:Nat) (VR:Nat→Value) (VV:Nat→Nat→Value) (NN:Nat→Nat) (vR vS:Value) (q:Nat):Prop:=
  rcS rb vR vS q∨(∃i,i<k∧(VR i).ownBlock=some q)∨∃i,i<k∧∃r,r<NN i∧(VV i r).ownBlock=some q
section
variable {w w':World} {rb W H k:Nat} {VR:Nat→Value} {VV:Nat→Nat→Value} {NN:Nat→Nat} {LL:Nat→Nat→List (Int×Int)} {sg:Nat→Int} {vR vS:Value}
theorem Rcv.of_blocks (h:Rcv w rb W H k VR VV NN LL sg vR vS) (e:∀q,rcF rb k VR VV NN vR vS q→w'.heap[q]? = w.heap[q]?):Rcv w' rb W H k VR VV NN LL sg vR vS:=
  ⟨h.row.of_block (e rb (.inl (.inl rfl))),owns_of_block h.oR (fun b hb=>e b (.inl (.inr (.inl hb)))),
    fun q hq=>(h.rings q hq).of_blocks (fun b hb=>e b (.inr (.inl ⟨q,hq,hb⟩))) (fun r hr b hb=>e b (.inr (.inr ⟨q,hq,r,hr,hb⟩))),
    owns_of_block h.oS (fun b hb=>e b (.inl (.inr (.inr hb)))),h.fits,h.sgn,h.most⟩
theorem Rcv.touch {S':Nat→Prop} (h:Rcv w rb W H k VR VV NN LL sg vR vS) (t:Touch S' w w') (hlt:∀q,rcF rb k VR VV NN vR vS q→q<w.heap.size) (hd:∀q,rcF rb k VR VV NN vR vS q→¬S' q):Rcv w' rb W H k VR VV NN LL sg vR vS:=
  h.of_blocks fun q hq=>t.block q (hlt q hq) (hd q hq)
end
def CanP (w:World) (bk rb:Nat) (F:Nat→Prop):Prop:=
  ∃(W H tk:Nat) (A:Nat→Nat→Int) (S:Nat→Prop) (st:Int) (VR:Nat→Value) (VV:Nat→Nat→Value) (NN:Nat→Nat) (LL:Nat→Nat→List (Int×Int)) (sg:Nat→Int) (vR vS:Value),
    Cnv w bk 206 W H tk A (781440000000*tk) S st∧Rcv w rb W H tk VR VV NN LL sg vR vS∧(1≤W∧W≤64)∧(1≤H∧H≤64)∧(∀i j,i<W→j<H→A i j=histA NN LL sg tk i j) ∧
    (∀q,S q∨rcF rb tk VR VV NN vR vS q→F q)∧(∀q,S q→¬rcF rb tk VR VV NN vR vS q)∧∀q,F q→q<w.heap.size
theorem CanP.touch {w w':World} {bk rb:Nat} {F S':Nat→Prop} (h:CanP w bk rb F) (t:Touch S' w w') (hd:∀q,F q→¬S' q):CanP w' bk rb F:=by
  obtain ⟨W,H,tk,A,S,st,VR,VV,NN,LL,sg,vR,vS,hC,hR,hW,hH,hs,hF,hap,hlt⟩:=h
  exact ⟨W,H,tk,A,S,st,VR,VV,NN,LL,sg,vR,vS,hC.touch t (fun q hq=>hd q (hF q (.inl hq))),hR.touch t (fun q hq=>hlt q (hF q (.inr hq))) (fun q hq=>hd q (hF q (.inr hq))),hW,hH,hs,hF,hap,
    fun q hq=>Nat.lt_of_lt_of_le (hlt q hq) t.size⟩
theorem CanP.below {w w':World} {bk rb:Nat} {F:Nat→Prop} (h:CanP w bk rb F) (hb:Below w.heap.size w w'):CanP w' bk rb F:=
  h.touch (S':=fun _=>False) ((Touch.refl _ _).of_below hb) (fun _ _ e=>e)
structure Cans (w:World) (h:Nat) (s:HS) (K:Nat) (B R:Nat→Nat) (F:Nat→Nat→Prop):Prop where
  oC:w.ownsRow h 167 1 s.cs K ((List.range K).map fun k=>.pointer (some ⟨B k,0,none⟩))
  oR:w.ownsRow h 155 1 s.rs K ((List.range K).map fun k=>.pointer (some ⟨R k,0,none⟩))
  pair:∀k,k<K→CanP w (B k) (R k) (F k)
  apart:∀k l,k<K→l<K→k≠l→∀q,F k q→¬F l q
  free:∀k,k<K→∀q,F k q→¬Used h s q
  own:∀q,s.cs.ownBlock=some q∨s.rs.ownBlock=some q→¬Used h s q∧∀k,k<K→¬F k q
  lo:∀k,k<K→∀q,F k q→h≤q
theorem CanP.lt {w:World} {bk rb:Nat} {F:Nat→Prop} (h:CanP w bk rb F) {q:Nat} (hq:F q):q<w.heap.size:=by
  obtain ⟨_,_,_,_,_,_,_,_,_,_,_,_,_,_,_,_,_,_,_,_,hlt⟩:=h
  exact hlt q hq
theorem Cans.step {w w':World} {h:Nat} {s s':HS} {K:Nat} {B R:Nat→Nat} {F:Nat→Nat→Prop} (C:Cans w h s K B R F) (t:Touch (Used h s) w w') (u:NewUsed w.heap.size h s s') (hc:s'.cs=s.cs) (hr:s'.rs=s.rs):Cans w' h s' K B R F where
  oC:=by rw [hc];exact owns_of_block C.oC fun b hb=>t.block b (C.oC.lt b hb).2 (C.own b (.inl hb)).1
  oR:=by rw [hr];exact owns_of_block C.oR fun b hb=>t.block b (C.oR.lt b hb).2 (C.own b (.inr hb)).1
  pair k hk:=(C.pair k hk).touch t (C.free k hk)
  apart:=C.apart
  free k hk q hq hu:=by
    rcases u q hu with h1 | h1
    · exact C.free k hk q hq h1
    · have:=(C.pair k hk).lt hq;omega
  own q hq:=by
    rw [hc,hr] at hq
    refine ⟨fun hu=>?_,(C.own q hq).2⟩
    rcases u q hu with h1 | h1
    · exact (C.own q hq).1 h1
    · rcases hq with hq | hq
      · have:=(C.oC.lt q hq).2;omega
      · have:=(C.oR.lt q hq).2;omega
  lo:=C.lo
theorem Cans.one {w w':World} {h k:Nat} {s s':HS} {K:Nat} {B R:Nat→Nat} {F:Nat→Nat→Prop} {F':Nat→Prop} (C:Cans w h s K B R F) (H:HeldInv w h s) (hk:k<K) (t:Touch (fun q=>F k q∨Used h s q) w w') (u:NewUsed w.heap.size h s s') (hc:s'.cs=s.cs) (hr:s'.rs=s.rs)
    (hp:CanP w' (B k) (R k) F') (hn:∀q,F' q→F k q∨w.heap.size≤q) (hf:∀q,F' q→¬Used h s' q):Cans w' h s' K B R (fun l=>if l=k then F' else F l):=by
  have hhl:=H.wd.lt
  have hF:∀l,l<K→∀q,F l q→q<w.heap.size:=fun l hl q hq=>(C.pair l hl).lt hq
  have hown:∀q,s.cs.ownBlock=some q∨s.rs.ownBlock=some q→q<w.heap.size:=fun q hq=>by
    rcases hq with hq | hq
    · exact (C.oC.lt q hq).2
    · exact (C.oR.lt q hq).2
  have hno:∀q,s.cs.ownBlock=some q∨s.rs.ownBlock=some q→¬(F k q∨Used h s q):=fun q hq e=>by
    rcases e with e | e
    · exact (C.own q hq).2 k hk e
    · exact (C.own q hq).1 e
  refine ⟨?_,?_,fun l hl=>?_,fun l m hl hm hne q hq hq'=>?_,fun l hl q hq hu=>?_,fun q hq=>⟨fun hu=>?_,fun l hl hq'=>?_⟩,fun l hl q hq=>?_⟩
  · rw [hc];exact owns_of_block C.oC fun b hb=>t.block b (hown b (.inl hb)) (hno b (.inl hb))
  · rw [hr];exact owns_of_block C.oR fun b hb=>t.block b (hown b (.inr hb)) (hno b (.inr hb))
  · by_cases e:l=k
    · subst e;simp only [if_true];exact hp
    · simp only [e,if_false]
      refine (C.pair l hl).touch t (fun q hq e'=>?_)
      rcases e' with e' | e'
      · exact C.apart l k hl hk e q hq e'
      · exact C.free l hl q hq e'
  · by_cases e:l=k
    · have e2:m≠k:=fun h=>hne (e.trans h.symm)
      simp only [e,if_true] at hq
      simp only [e2,if_false] at hq'
      rcases hn q hq with h1 | h1
      · exact C.apart k m hk hm (fun h=>e2 h.symm) q h1 hq'
      · have:=hF m hm q hq';omega
    · simp only [e,if_false] at hq
      by_cases e2:m=k
      · simp only [e2,if_true] at hq'
        rcases hn q hq' with h1 | h1
        · exact C.apart l k hl hk e q hq h1
        · have:=hF l hl q hq;omega
      · simp only [e2,if_false] at hq'
        exact C.apart l m hl hm hne q hq hq'
  · by_cases e:l=k
    · simp only [e,if_true] at hq
      exact hf q hq hu
    · simp only [e,if_false] at hq
      rcases u q hu with h1 | h1
      · exact C.free l hl q hq h1
      · have:=hF l hl q hq;omega
  · rw [hc,hr] at hq
    rcases u q hu with h1 | h1
    · exact (C.own q hq).1 h1
    · have:=hown q hq;omega
  · rw [hc,hr] at hq
    by_cases e:l=k
    · simp only [e,if_true] at hq'
      rcases hn q hq' with h1 | h1
      · exact (C.own q hq).2 k hk h1
      · have:=hown q hq;omega
    · simp only [e,if_false] at hq'
      exact (C.own q hq).2 l hl hq'
  · by_cases e:l=k
    · simp only [e,if_true] at hq
      rcases hn q hq with h1 | h1
      · exact C.lo k hk q h1
      · omega
    · simp only [e,if_false] at hq
      exact C.lo l hl q hq
theorem Cans.below {w w':World} {h:Nat} {s:HS} {K:Nat} {B R:Nat→Nat} {F:Nat→Nat→Prop} (C:Cans w h s K B R F) (hb:Below w.heap.size w w'):Cans w' h s K B R F:=
  C.step ((Touch.refl _ _).of_below hb) (NewUsed.refl _ _ _) rfl rfl
end Go.Proofs.YtkhcjkmifddlbabGreatDoor
namespace Go.Proofs.YtkhcjkmifddlbabGreatDoor
open Go.RowKit
theorem glyphPlace_any (a b c d x y s t:Int) (w:World) :
    Calls Tryz.prog 32 #[.agg #[.int .i64 a,.int .i64 b,.int .i64 c,.int .i64 d,.int .i64 x,.int .i64 y],.agg #[.int .i64 s,.int .i64 t]] w fun e w'=>
      e=.returned (.tuple #[.agg #[.int .i64 (Num.placeV a b c d x y s t).1,.int .i64 (Num.placeV a b c d x y s t).2.1],.int .i64 (Num.placeV a b c d x y s t).2.2])∧Below w.heap.size w w':=by
  go_enter Tryz.func32,Tryz.ntmps32
  go_wp2_with fail
  refine (place_any _ _ _ _ _ _ _ _ _).mono ?_
  rintro e w1 ⟨rfl,hb⟩
  obtain ⟨hc,hfz⟩:=bcell hb
  have hz:w.heap.size+1+1<w1.heap.size:=by have:=hb.size;simp at this;omega
  have hb0:Below w.heap.size w w1:=Below.trans (by (repeat any_goals first | exact .refl _ _ | assumption | refine .drew ?_ | refine below_drewN ?_ _ | refine .setCell ?_ ?_ _ | refine .alloc ?_ ?_ _ | omega | (simp <;> omega))) (hb.mono (by simp;omega))
  clear hb
  go_wp2
  refine bodyPost_ret (v:=.tuple #[.agg #[.int .i64 (Num.placeV a b c d x y s t).1,.int .i64 (Num.placeV a b c d x y s t).2.1],.int .i64 (Num.placeV a b c d x y s t).2.2]) (by simp [results,Tryz.results32,go_sem,hc]) rfl ⟨rfl,?_⟩
  (repeat any_goals first | exact .refl _ _ | assumption | refine .drew ?_ | refine below_drewN ?_ _ | refine .setCell ?_ ?_ _ | refine .alloc ?_ ?_ _ | omega | (simp <;> omega))
theorem num_any (n:Int) (w:World) :
    Calls Tryz.prog 27 #[.int .i64 n] w fun e w'=>e=.returned (.int .i64 n)∧w'=w:=by
  go_enter Tryz.func27,Tryz.ntmps27
  go_wp2
  go_ret
  exact ⟨rfl,rfl⟩
theorem places_any (p:Value) (a b c d x y s t:Int) (w:World) :
    Calls Tryz.prog 9 #[p,.agg #[.int .i64 a,.int .i64 b,.int .i64 c,.int .i64 d,.int .i64 x,.int .i64 y],.agg #[.int .i64 s,.int .i64 t]] w fun e w'=>
      e=.returned (.bool true)∧Below w.heap.size w w':=by
  go_enter Tryz.func9,Tryz.ntmps9
  go_wp2_with fail
  refine (glyphPlace_any _ _ _ _ _ _ _ _ _).mono ?_
  rintro e w1 ⟨rfl,hb⟩
  obtain ⟨hc,hfz⟩:=bcell hb
  have hz:w.heap.size+1<w1.heap.size:=by have:=hb.size;simp at this;omega
  have hb0:Below w.heap.size w w1:=Below.trans (by (repeat any_goals first | exact .refl _ _ | assumption | refine .drew ?_ | refine below_drewN ?_ _ | refine .setCell ?_ ?_ _ | refine .alloc ?_ ?_ _ | omega | (simp <;> omega))) (hb.mono (by simp;omega))
  clear hb
  have hz0:w.heap.size<w1.heap.size:=by omega
  have c0:w1.cell? ⟨w.heap.size,0,none⟩=some (.int .i64 a):=by rw [hc _ _ (by simp;omega)];go_simp
  have c1:w1.cell? ⟨w.heap.size,1,none⟩=some (.int .i64 b):=by rw [hc _ _ (by simp;omega)];go_simp
  have c2:w1.cell? ⟨w.heap.size,2,none⟩=some (.int .i64 c):=by rw [hc _ _ (by simp;omega)];go_simp
  have c3:w1.cell? ⟨w.heap.size,3,none⟩=some (.int .i64 d):=by rw [hc _ _ (by simp;omega)];go_simp
  have c4:w1.cell? ⟨w.heap.size,4,none⟩=some (.int .i64 x):=by rw [hc _ _ (by simp;omega)];go_simp
  have c5:w1.cell? ⟨w.heap.size,5,none⟩=some (.int .i64 y):=by rw [hc _ _ (by simp;omega)];go_simp
  have e0:w1.cell? ⟨w.heap.size+1,0,none⟩=some (.int .i64 s):=by rw [hc _ _ (by simp)];go_simp
  have e1:w1.cell? ⟨w.heap.size+1,1,none⟩=some (.int .i64 t):=by rw [hc _ _ (by simp)];go_simp
  clear hc hfz
  obtain ⟨V,hV⟩:∃V,Num.placeV a b c d x y s t=V:=⟨_,rfl⟩
  rw [hV]
  have HV:=hide hV
  clear hV
  go_wp2_with fail
  refine (refPlace_any _ _ _ _ _ _ _ _ _).mono ?_
  rw [HV.out]
  rintro e w2 ⟨rfl,hb2⟩
  obtain ⟨hc2,hfz2⟩:=bcell hb2
  have hz2:w1.heap.size<w2.heap.size:=by have:=hb2.size;simp at this;omega
  have hb3:Below w.heap.size w w2:=Below.trans (by (repeat any_goals first | exact .refl _ _ | assumption | refine .drew ?_ | refine below_drewN ?_ _ | refine .setCell ?_ ?_ _ | refine .alloc ?_ ?_ _ | omega | (simp <;> omega))) (hb2.mono (by simp;omega))
  clear hb2 hb0
  go_wp2_with (go_at_call 27;refine (num_any _ _).mono ?_;rintro e w' ⟨rfl,rfl⟩)
  go_ret
  exact ⟨rfl,by (repeat any_goals first | exact .refl _ _ | assumption | refine .drew ?_ | refine below_drewN ?_ _ | refine .setCell ?_ ?_ _ | refine .alloc ?_ ?_ _ | omega | (simp <;> omega))⟩
end Go.Proofs.YtkhcjkmifddlbabGreatDoor
namespace Go.Proofs.YtkhcjkmifddlbabGreatDoor
open Go.RowKit Go.Deep
theorem Cans.at {w:World} {h:Nat} {s:HS} {K:Nat} {B R:Nat→Nat} {F:Nat→Nat→Prop} (C:Cans w h s K B R F) {k:Nat} (hk:k<K) :
    ∃g cap g' cap',s.cs=.slice (some ⟨g,0,none⟩) K cap∧s.rs=.slice (some ⟨g',0,none⟩) K cap'∧w.cell? ⟨g,k,none⟩=some (.pointer (some ⟨B k,0,none⟩))∧w.cell? ⟨g',k,none⟩=some (.pointer (some ⟨R k,0,none⟩))∧g<w.heap.size∧g'<w.heap.size:=by
  obtain ⟨ao,cap,e1,h1⟩:=owns_formN C.oC
  obtain ⟨ao',cap',e2,h2⟩:=owns_formN C.oR
  obtain ⟨g,rfl⟩:=h1 (by omega)
  obtain ⟨g',rfl⟩:=h2 (by omega)
  have c1:=C.oC
  have c2:=C.oR
  rw [e1] at c1
  rw [e2] at c2
  have d1:=c1.cellAt k (by omega)
  have d2:=c2.cellAt k (by omega)
  refine ⟨g,cap,g',cap',e1,e2,?_,?_,(c1.lt g rfl).2,(c2.lt g' rfl).2⟩
  · rw [d1];simp [hk]
  · rw [d2];simp [hk]
set_option maxRecDepth 100000 in
theorem counts_any (h k K:Nat) (s:HS) (B R:Nat→Nat) (F:Nat→Nat→Prop) (w:World) (H:HeldInv w h s) (C:Cans w h s K B R F) (hk:k<K) :
    Calls Tryz.prog 60 #[.pointer (some ⟨h,0,none⟩),.int .i64 k] w fun e w'=>e=.returned (.bool true)∧w'=w:=by
  obtain ⟨g,cap,g',cap',e1,e2,d1,d2,l1,l2⟩:=C.at hk
  have c0:w.cell? ⟨h,0,none⟩=some (.slice (some ⟨g,0,none⟩) K cap):=by rw [H.wd.cell (i:=0) (by omega),←e1];rfl
  have c1:w.cell? ⟨h,1,none⟩=some (.slice (some ⟨g',0,none⟩) K cap'):=by rw [H.wd.cell (i:=1) (by omega),←e2];rfl
  have hhl:=H.wd.lt
  obtain ⟨W,HH,tk,A,S,st,VR,VV,NN,LL,sg,vR,vS,hC,hR,hW,hH,hs,hF,hap,hlt⟩:=C.pair k hk
  have HT:=hide (glyphTaken_any (B k) W HH tk _ A _ st S w hC)
  obtain ⟨ao,cS,hvS,_⟩:=owns_formN hR.oS
  have r3:w.cell? ⟨R k,3,none⟩=some (.slice ao tk cS):=by rw [hR.row.cell (i:=3) (by omega),←hvS];rfl
  have hrl:=hR.row.lt
  have g0:(0:Int)≤(k:Int):=by omega
  have g1:(k:Int)<(K:Int):=by omega
  clear H C e1 e2 hC hR hW hH hs hF hap hlt hvS
  go_enter Tryz.func60,Tryz.ntmps60
  go_wp2_with (go_at_call 109;refine HT.out.mono ?_;rintro e w' ⟨rfl,hw'⟩;rw [hw'];clear hw')
  go_ret
  exact ⟨rfl,rfl⟩
set_option maxRecDepth 100000 in
theorem areas_any (h k K:Nat) (x y:Int) (s:HS) (B R:Nat→Nat) (F:Nat→Nat→Prop) (w:World) (H:HeldInv w h s) (C:Cans w h s K B R F) (hk:k<K) :
    Calls Tryz.prog 61 #[.pointer (some ⟨h,0,none⟩),.int .i64 k,.int .i64 x,.int .i64 y] w fun e w'=>e=.returned (.bool true)∧Below w.heap.size w w':=by
  obtain ⟨g,cap,g',cap',e1,e2,d1,d2,l1,l2⟩:=C.at hk
  have c0:w.cell? ⟨h,0,none⟩=some (.slice (some ⟨g,0,none⟩) K cap):=by rw [H.wd.cell (i:=0) (by omega),←e1];rfl
  have c1:w.cell? ⟨h,1,none⟩=some (.slice (some ⟨g',0,none⟩) K cap'):=by rw [H.wd.cell (i:=1) (by omega),←e2];rfl
  have hhl:=H.wd.lt
  obtain ⟨W,HH,tk,A,S,st,VR,VV,NN,LL,sg,vR,vS,hC,hR,hW,hH,hs,hF,hap,hlt⟩:=C.pair k hk
  have htk:=hR.most
  have HT:=hide (glyphArea_any (B k) W HH tk _ A _ st x y S w hC hW hH (by omega))
  have HRc:=hide hR
  have hA:areaN W HH (fun i j=>histA NN LL sg tk i j) x y=areaN W HH A x y:=by
    unfold areaN
    split
    · rename_i hin
      first | exact (hs _ _ (by omega) (by omega)).symm | (rw [hs _ _ (by omega) (by omega)];congr 1 <;> omega)
    · rfl
  have HA:=hide hA
  have HWH:=hide (And.intro hW hH)
  have g0:(0:Int)≤(k:Int):=by omega
  have g1:(k:Int)<(K:Int):=by omega
  obtain ⟨aN,haN⟩:∃a,a=areaN W HH A x y:=⟨_,rfl⟩
  obtain ⟨aE,haE⟩:∃a,a=areaE W HH x y:=⟨_,rfl⟩
  rw [←haN] at HA
  rw [←haN,←haE] at HT
  have HE:=hide haE
  clear H C e1 e2 hC hR hW hH hs hF hap hlt hA haN haE
  go_enter Tryz.func61,Tryz.ntmps61
  go_wp2_with fail
  refine HT.out.mono ?_
  rintro e w1 ⟨rfl,hb1⟩
  have q1:=(hb1.cell (p:=⟨h,1,none⟩) hhl).trans c1
  have q2:=(hb1.cell (p:=⟨g',k,none⟩) l2).trans d2
  have hs1:=hb1.size
  have hh1:h<w1.heap.size:=by omega
  have hg1:g'<w1.heap.size:=by omega
  have HB1:=hide hb1
  clear c0 c1 d1 d2 hb1
  go_wp2_with fail
  refine (refCArea_any (R k) W HH tk VR VV NN LL sg vR vS x y w1 (HRc.out.below HB1.out) HWH.out.1 HWH.out.2).mono ?_
  rw [HA.out,←HE.out]
  rintro e w2 ⟨rfl,hb2⟩
  have HB2:=hide (HB1.out.trans (hb2.mono hs1))
  clear hb2 q1 q2
  go_wp2_with (go_at_call 27;refine (num_any _ _).mono ?_;rintro e w' ⟨rfl,rfl⟩)
  go_ret
  exact ⟨rfl,HB2.out⟩
set_option maxRecDepth 100000 in
theorem refClear_any (rb W H k:Nat) (VR:Nat→Value) (VV:Nat→Nat→Value) (NN:Nat→Nat) (LL:Nat→Nat→List (Int×Int)) (sg:Nat→Int) (vR vS:Value) (w:World) (hR:Rcv w rb W H k VR VV NN LL sg vR vS) :
    Calls Tryz.prog 108 #[.pointer (some ⟨rb,0,none⟩)] w fun e w'=>e=.returned (.tuple #[])∧Touch (fun q=>q=rb) w w'∧Rcv w' rb W H 0 VR VV NN LL sg (.slice none 0 0) (.slice none 0 0):=by
  have c2:w.cell? ⟨rb,2,none⟩=some vR:=hR.row.cell (i:=2) (by omega)
  have c3:w.cell? ⟨rb,3,none⟩=some vS:=hR.row.cell (i:=3) (by omega)
  have z2:=hR.row.frozen 2
  have z3:=hR.row.frozen 3
  have hbl:=hR.row.lt
  have HF:=hide (Rcv.start (VR:=VR) (VV:=VV) (NN:=NN) (LL:=LL) (sg:=sg) (rc4_set3 (rc4_set2 hR.row (.slice none 0 0)) (.slice none 0 0)))
  have HT:Hid (Touch (fun q=>q=rb) w ((w.setCell ⟨rb,2,none⟩ (.slice none 0 0)).setCell ⟨rb,3,none⟩ (.slice none 0 0))):=((Touch.refl (fun q=>q=rb) w).setCell (p:=⟨rb,2,none⟩) (.inl rfl) _).setCell (p:=⟨rb,3,none⟩) (.inl rfl) _
  clear hR
  go_enter Tryz.func108,Tryz.ntmps108
  go_wp2
  go_end0
  exact ⟨rfl,HT.out,HF.out⟩
theorem Touch.wider {S S':Nat→Prop} {w w':World} (t:Touch S w w') (h:∀q,S q→S' q):Touch S' w w':=⟨t.os,t.tape,t.output,t.size,fun q hq hn=>t.block q hq (fun e=>hn (h q e))⟩
def grayB (W H:Nat) (x y a b:Int):Bool:=partB x a W && partB y b H
theorem grayB_yes {W H:Nat} {x y a b:Int} (h:grayB W H x y a b=true):∃x' y' a' b':Nat,x=x'∧y=y'∧a=a'∧b=b'∧(1≤a'∧x'+a'≤W)∧(1≤b'∧y'+b'≤H):=by
  simp [grayB,partB] at h
  exact ⟨x.toNat,y.toNat,a.toNat,b.toNat,by omega,by omega,by omega,by omega,⟨by omega,by omega⟩,⟨by omega,by omega⟩⟩
theorem grayB_no {W H:Nat} {x y a b:Int} (h:grayB W H x y a b=false):partB x a W=false∨(partB x a W=true∧partB y b H=false):=by
  cases h1:partB x a W
  · exact .inl rfl
  · simp [grayB,h1] at h
    exact .inr ⟨rfl,h⟩
set_option maxRecDepth 100000 in
theorem canvasGray_no (bk W H tk:Nat) (x y a b:Int) (tt:TypeId) (A:Nat→Nat→Int) (P st:Int) (S:Nat→Prop) (w:World) (hC:Cnv w bk tt W H tk A P S st) (hW:1≤W∧W≤64) (hH:1≤H∧H≤64) (h:grayB W H x y a b=false) :
    Calls Tryz.prog 136 #[.pointer (some ⟨bk,0,none⟩),.int .i64 x,.int .i64 y,.int .i64 a,.int .i64 b] w fun e w'=>e=.returned (.tuple #[.agg #[.int .i64 0,.int .i64 0,.slice none 0 0],.int .i64 6])∧Below w.heap.size w w':=by
  obtain ⟨k0,k1,k2,k3,hbl⟩:=hC.cells
  rcases grayB_no h with h1 | ⟨h1,h2⟩
  all_goals
    clear h hC
    go_enter Tryz.func136,Tryz.ntmps136
    go_wp2_with (go_at_call 169;refine (isPart_any _ _ _ _ (by omega)).mono ?_;rintro e w' ⟨rfl,rfl⟩)
    exact bodyPost_ret (v:=.tuple #[.agg #[.int .i64 0,.int .i64 0,.slice none 0 0],.int .i64 6]) (by simp [results,Tryz.results136,go_sem]) rfl ⟨rfl,by (repeat any_goals first | exact .refl _ _ | assumption | refine .drew ?_ | refine below_drewN ?_ _ | refine .setCell ?_ ?_ _ | refine .alloc ?_ ?_ _ | omega | (simp <;> omega))⟩
set_option maxRecDepth 100000 in
theorem glyphGray_no (bk W H tk:Nat) (x y a b:Int) (tt:TypeId) (A:Nat→Nat→Int) (P st:Int) (S:Nat→Prop) (w:World) (hC:Cnv w bk tt W H tk A P S st) (hW:1≤W∧W≤64) (hH:1≤H∧H≤64) (h:grayB W H x y a b=false) :
    Calls Tryz.prog 112 #[.pointer (some ⟨bk,0,none⟩),.int .i64 x,.int .i64 y,.int .i64 a,.int .i64 b] w fun e w'=>e=.returned (.tuple #[.agg #[.int .i64 0,.int .i64 0,.slice none 0 0],.int .i64 6])∧Below w.heap.size w w':=by
  have hB0:Hid (Below w.heap.size w (w.alloc (.cells #[.int .i64 0,.int .i64 0,.slice none 0 0] 47))):=(Below.refl _ _).alloc (Nat.le_refl _) _
  have HCall:=hide (canvasGray_no bk W H tk x y a b tt A P st S _ (hC.below hB0.out) hW hH h)
  have HZ:=hide (gr3_row 0 0 (.slice none 0 0) w 47)
  have hbl:=hC.cells.2.2.2.2
  clear hC h
  go_enter Tryz.func112,Tryz.ntmps112
  go_wp2_with fail
  refine HCall.out.mono ?_
  rintro e w1 ⟨rfl,hb1⟩
  have hs1:=hb1.size
  rw [nblk_alloc] at hs1
  have hZ2:=row_below HZ.out hb1 (by simp)
  obtain ⟨z0,z1,z2⟩:=gr3_cells hZ2
  have f0:=hZ2.frozen 0
  have f1:=hZ2.frozen 1
  have f2:=hZ2.frozen 2
  have hsl:w.heap.size<w1.heap.size:=by omega
  have HR:=hide (gr3_set hZ2 0 0 (.slice none 0 0))
  have hB:Below w.heap.size w w1:=hB0.out.trans (hb1.mono (by simp))
  have HB:Hid (Below w.heap.size w (((w1.setCell ⟨w.heap.size,0,none⟩ (.int .i64 0)).setCell ⟨w.heap.size,1,none⟩ (.int .i64 0)).setCell ⟨w.heap.size,2,none⟩ (.slice none 0 0))):=((hB.setCell (p:=⟨w.heap.size,0,none⟩) (Nat.le_refl _) _).setCell (p:=⟨w.heap.size,1,none⟩) (Nat.le_refl _) _).setCell (p:=⟨w.heap.size,2,none⟩) (Nat.le_refl _) _
  clear hb1 hZ2 hB HCall
  go_wp2
  obtain ⟨wF,hwF⟩:∃wF,wF=((w1.setCell ⟨w.heap.size,0,none⟩ (.int .i64 0)).setCell ⟨w.heap.size,1,none⟩ (.int .i64 0)).setCell ⟨w.heap.size,2,none⟩ (.slice none 0 0):=⟨_,rfl⟩
  rw [←hwF]
  rw [←hwF] at HR HB
  obtain ⟨g0,g1,g2⟩:=gr3_cells HR.out
  exact bodyPost_ret (v:=.tuple #[.agg #[.int .i64 0,.int .i64 0,.slice none 0 0],.int .i64 6]) (by simp [results,Tryz.results112,go_sem,g0,g1,g2]) rfl ⟨rfl,HB.out⟩
theorem grayR {W H:Nat} {x y a b:Int} (h:grayB W H x y a b=false) :
    x<0∨(¬x<0∧(y<0∨(¬y<0∧(a<1∨(¬a<1∧(b<1∨(¬b<1∧((W:Int)≤x∨(¬(W:Int)≤x∧((H:Int)≤y∨(¬(H:Int)≤y∧((W:Int)-x<a∨(¬(W:Int)-x<a∧(H:Int)-y<b))))))))))))):=by
  simp [grayB,partB] at h
  omega
set_option maxRecDepth 100000 in
theorem refGray_no (rb W H k:Nat) (x y a b:Int) (VR:Nat→Value) (VV:Nat→Nat→Value) (NN:Nat→Nat) (LL:Nat→Nat→List (Int×Int)) (sg:Nat→Int) (vR vS:Value) (w:World) (hR:Rcv w rb W H k VR VV NN LL sg vR vS) (hW:1≤W∧W≤64) (hH:1≤H∧H≤64) (h:grayB W H x y a b=false) :
    Calls Tryz.prog 91 #[.pointer (some ⟨rb,0,none⟩),.int .i64 x,.int .i64 y,.int .i64 a,.int .i64 b] w fun e w'=>e=.returned (.tuple #[.agg #[.int .i64 0,.int .i64 0,.slice none 0 0],.int .i64 6])∧Below w.heap.size w w':=by
  have c0:=hR.row.cell (i:=0) (by omega)
  have c1:=hR.row.cell (i:=1) (by omega)
  change w.cell? ⟨rb,0,none⟩=some (.int .i64 W) at c0
  change w.cell? ⟨rb,1,none⟩=some (.int .i64 H) at c1
  have hbl:=hR.row.lt
  rcases grayR h with e1 | ⟨e1,e2 | ⟨e2,e3 | ⟨e3,e4 | ⟨e4,e5 | ⟨e5,e6 | ⟨e6,e7 | ⟨e7,e8⟩⟩⟩⟩⟩⟩⟩
  all_goals
    clear h hR
    go_enter Tryz.func91,Tryz.ntmps91
    go_wp2
    exact bodyPost_ret (v:=.tuple #[.agg #[.int .i64 0,.int .i64 0,.slice none 0 0],.int .i64 6]) (by simp [results,Tryz.results91,go_sem]) rfl ⟨rfl,by (repeat any_goals first | exact .refl _ _ | assumption | refine .drew ?_ | refine below_drewN ?_ _ | refine .setCell ?_ ?_ _ | refine .alloc ?_ ?_ _ | omega | (simp <;> omega))⟩
set_option maxRecDepth 100000 in
theorem clears_any (h k K:Nat) (s:HS) (B R:Nat→Nat) (F:Nat→Nat→Prop) (w:World) (H:HeldInv w h s) (C:Cans w h s K B R F) (hk:k<K) :
    Calls Tryz.prog 59 #[.pointer (some ⟨h,0,none⟩),.int .i64 k] w fun e w'=>e=.returned (.bool true)∧Below h w w'∧HeldInv w' h s∧∃F',Cans w' h s K B R F':=by
  obtain ⟨g,cap,g',cap',e1,e2,d1,d2,l1,l2⟩:=C.at hk
  have c0:w.cell? ⟨h,0,none⟩=some (.slice (some ⟨g,0,none⟩) K cap):=by rw [H.wd.cell (i:=0) (by omega),←e1];rfl
  have c1:w.cell? ⟨h,1,none⟩=some (.slice (some ⟨g',0,none⟩) K cap'):=by rw [H.wd.cell (i:=1) (by omega),←e2];rfl
  have hhl:=H.wd.lt
  obtain ⟨W,HH,tk,A,S,st,VR,VV,NN,LL,sg,vR,vS,hC,hR,hW,hH,hs,hF,hap,hlt⟩:=C.pair k hk
  have hSk:∀q,S q→F k q:=fun q hq=>hF q (.inl hq)
  have hg':¬S g':=fun e=>(C.own g' (.inr (by rw [e2];rfl))).2 k hk (hSk _ e)
  have hh':¬S h:=fun e=>C.free k hk h (hSk _ e) (.inl rfl)
  have HCl:=hide (glyphClear_any (B k) W HH tk _ A _ st S w hC hW hH)
  have g0:(0:Int)≤(k:Int):=by omega
  have g1:(k:Int)<(K:Int):=by omega
  have HC:=hide C
  have HH0:=hide H
  have HRc:=hide hR
  have HF:=hide (And.intro hF (And.intro hap hlt))
  have HWH:=hide (And.intro hW hH)
  clear H C e1 e2 hC hR hs hF hap hlt hW hH
  go_enter Tryz.func59,Tryz.ntmps59
  go_wp2_with fail
  refine HCl.out.mono ?_
  rintro e w1 ⟨rfl,hT1,S1,hC1,hS1⟩
  have hs1:=hT1.size
  have q1:w1.cell? ⟨h,1,none⟩=some (.slice (some ⟨g',0,none⟩) K cap'):=(World.cell?_of_block (w:=w) (hT1.block h hhl hh')).trans c1
  have q2:w1.cell? ⟨g',k,none⟩=some (.pointer (some ⟨R k,0,none⟩)):=(World.cell?_of_block (w:=w) (hT1.block g' l2 hg')).trans d2
  have hh1:h<w1.heap.size:=by omega
  have hg1:g'<w1.heap.size:=by omega
  have hR1:=HRc.out.touch hT1 (fun q hq=>HF.out.2.2 q (HF.out.1 q (.inr hq))) (fun q hq e=>HF.out.2.1 q e hq)
  have HClr:=hide (refClear_any (R k) W HH tk VR VV NN LL sg vR vS w1 hR1)
  have hrl:=hR1.row.lt
  have HT1:=hide hT1
  have HC1:=hide (And.intro hC1 hS1)
  clear c0 c1 d1 d2 hT1 hR1 hC1 hS1 HCl
  go_wp2_with fail
  refine HClr.out.mono ?_
  rintro e w2 ⟨rfl,hT2,hR2⟩
  have HT2:=hide hT2
  have HR2:=hide hR2
  clear hT2 hR2 q1 q2 HClr
  go_wp2
  go_ret
  obtain ⟨hF,hap,hlt⟩:=HF.out
  obtain ⟨hC1,hS1⟩:=HC1.out
  have hs2:=HT2.out.size
  have hrF:F k (R k):=hF _ (.inr (.inl (.inl rfl)))
  have hrk:=hlt _ hrF
  have hrS:¬S (R k):=fun e=>hap _ e (.inl (.inl rfl))
  have hT0:Touch (F k) w w2:=by
    have t1:Touch (F k) w w1:=HT1.out.wider hSk
    exact t1.trans' HT2.out (fun q hq=>by subst hq;exact .inl hrF)
  have hT:Touch (fun q=>F k q∨Used h s q) w w2:=hT0.wider fun _ hq=>.inl hq
  have hI2:HeldInv w2 h s:=HH0.out.of_blocks fun q hq=>by
    have hql:=HH0.out.used_lt hq
    have hqF:¬F k q:=fun e=>HC.out.free k hk q e hq
    rw [HT2.out.block q (by omega) (fun e=>hqF (by rw [e];exact hrF)),HT1.out.block q hql (fun e=>hqF (hSk q e))]
  refine ⟨rfl,hT0.below (by omega) (HC.out.lo k hk),hI2,_,HC.out.one (F':=fun q=>F k q∨(w.heap.size≤q∧q<w2.heap.size)) HH0.out hk hT (NewUsed.refl _ _ _) rfl rfl ?_ (fun q hq=>?_) (fun q hq hu=>?_)⟩
  · refine ⟨W,HH,0,fun _ _=>0,S1,st,VR,VV,NN,LL,sg,_,_,?_,HR2.out,HWH.out.1,HWH.out.2,fun i j _ _=>rfl,fun q hq=>?_,fun q hq hr=>?_,fun q hq=>?_⟩
    · exact (hC1.mono (fun _ _ _ _=>rfl) (by simp)).touch HT2.out (fun q hq e=>by
        rcases hS1 q hq with h1 | h1
        · subst e;exact hrS h1
        · omega)
    · rcases hq with hq | hq
      · rcases hS1 q hq with h1 | h1
        · exact .inl (hSk q h1)
        · exact .inr ⟨h1,by have:=hC1.lt hq;omega⟩
      · rcases hq with (rfl | hq | hq) | ⟨i,hi,_⟩ | ⟨i,hi,_⟩
        · exact .inl hrF
        · simp [Value.ownBlock] at hq
        · simp [Value.ownBlock] at hq
        · omega
        · omega
    · rcases hr with (rfl | hr | hr) | ⟨i,hi,_⟩ | ⟨i,hi,_⟩
      · rcases hS1 _ hq with h1 | h1
        · exact hrS h1
        · omega
      · simp [Value.ownBlock] at hr
      · simp [Value.ownBlock] at hr
      · omega
      · omega
    · rcases hq with hq | hq
      · have:=hlt q hq;omega
      · exact hq.2
  · rcases hq with hq | hq
    · exact .inl hq
    · exact .inr hq.1
  · rcases hq with hq | hq
    · exact HC.out.free k hk q hq hu
    · have:=HH0.out.used_lt hu;omega
theorem samePoints_any (a a':Option Addr) (n c c':Nat) (X Y K:Nat→Int) (w:World) (hn:n≤4294967296) (hr:RingAt w a n X Y K) (hr':RingAt w a' n X Y K) :
    Calls Tryz.prog 69 #[.slice a n c,.slice a' n c'] w fun e w'=>e=.returned (.bool true)∧∃nd,w'=w.drewN nd:=by
  have HR:=hide hr
  have HR':=hide hr'
  clear hr hr'
  go_enter Tryz.func69,Tryz.ntmps69
  go_wp2_with fail
  go_loopw [5] (fun i wr=>∃k nd:Nat,k≤n∧i=.int .i64 k∧wr=w.drewN nd) (fun i _=>n-(intOf i).toNat)
  case atStart=>exact ⟨0,0,by omega,rfl,rfl⟩
  case round=>
    obtain ⟨k,nd,hk,rfl,rfl⟩:=hrel
    by_cases hlt:k<n
    · rcases HR.out with h | ⟨b,off,rfl,hc⟩
      · omega
      rcases HR'.out with h | ⟨b',off',rfl,hc'⟩
      · omega
      obtain ⟨c0,c1,c2⟩:=hc k hlt
      obtain ⟨d0,d1,d2⟩:=hc' k hlt
      clear hc hc'
      have g0:(0:Int)≤(k:Int):=by omega
      have g1:(k:Int)<(n:Int):=by omega
      go_wp2
      go_quiet (fail)
      go_wp2
      go_roundw
      case rel=>exact ⟨k+1,nd+nq,by omega,by go_num,rfl⟩
      case measure=>simp [intOf];omega
    · go_wp2
      go_ret
      exact ⟨rfl,nd,rfl⟩
theorem ink_exact (w:World) :
    Calls Tryz.prog 65 #[] w fun e w'=>e=.returned (.agg #[.int .i64 1099511627776,.int .i64 (-7),.int .i64 9])∧w'=w.alloc (.cells #[.int .i64 1099511627776,.int .i64 (-7),.int .i64 9] 129):=by
  go_enter Tryz.func65,Tryz.ntmps65
  go_wp2
  exact bodyPost_ret (v:=.agg #[.int .i64 1099511627776,.int .i64 (-7),.int .i64 9]) (by simp [results,Tryz.results65,go_sem]) rfl ⟨rfl,rfl⟩
theorem lent_any (a:Option Addr) (N c base ob:Nat) (A:Nat→Option Addr) (C n B:Nat→Nat) (X Y K:Nat→Nat→Int) (w:World) (hN:N≤4294967295) (hn:∀i,i<N→n i≤4294967295)
    (hl:Lent w base ob N B n X Y K) (ho:OutAt w a N A C n X Y K) :
    Calls Tryz.prog 25 #[.slice (some ⟨ob,0,none⟩) N (N+2),.slice a N c] w fun e w'=>e=.returned (.bool true)∧Below w.heap.size w w':=by
  have HN:=hide hn
  have HO:=hide ho
  have HL:=hide hl
  clear hn ho hl
  go_enter Tryz.func25,Tryz.ntmps25
  go_wp2_with fail
  go_loopw [6] (fun i wr=>∃k:Nat,k≤N+2∧i=.int .i64 k∧Below w.heap.size w wr) (fun i _=>N+2-(intOf i).toNat)
  case atStart=>exact ⟨0,by omega,rfl,Below.refl _ _⟩
  case round=>
    obtain ⟨wo,rfl⟩:∃wo,wo=wr:=⟨wr,rfl⟩
    obtain ⟨i,hi,rfl,hb⟩:=hrel
    have hsz:=hb.size
    by_cases hlt:i<N+2
    · have hd1:decide ((i:Int)<(N:Int)+2)=true:=by simp;omega
      have HL2:=hide (HL.out.below hb)
      have oi:=HL2.out.outer.cell (i:=i) hlt
      by_cases hiN:i<N
      · have hln:ln N n i=n i:=by unfold ln;rw [if_pos hiN]
        have HO2:=hide (HO.out.below hb)
        rcases HO2.out.1 with h | ⟨b,off,rfl,hc⟩
        · omega
        have ci:=hc i hiN
        clear hc
        have hni:=HN.out i hiN
        have HLN:=hide hln
        rw [hln] at oi
        clear hln
        have g0:(0:Int)≤(i:Int):=by omega
        have g1:(i:Int)<(N:Int):=by omega
        have g2:(i:Int)<(N:Int)+2:=by omega
        go_wp2_with fail
        have R1:=hide (HL2.out.out.2 i hiN)
        have R2:=hide (HO2.out.2 i hiN)
        go_region_held3 (fun w'=>w'.cell? ⟨ob,i,none⟩=some (.slice (some ⟨B i,0,none⟩) (n i) (n i+2))∧w'.cell? ⟨b,off+i,none⟩=some (.slice (A i) (n i) (C i))) (go_keep) ((go_at_call 69;refine (samePoints_any _ _ _ _ _ (X i) (Y i) (K i) _ (by omega) (by exact R1.out.below (by (repeat any_goals first | exact .refl _ _ | assumption | refine .drew ?_ | refine below_drewN ?_ _ | refine .setCell ?_ ?_ _ | refine .alloc ?_ ?_ _ | omega | (simp <;> omega)))) (by exact R2.out.below (by (repeat any_goals first | exact .refl _ _ | assumption | refine .drew ?_ | refine below_drewN ?_ _ | refine .setCell ?_ ?_ _ | refine .alloc ?_ ?_ _ | omega | (simp <;> omega))))).mono ?_;rintro e w' ⟨rfl,nd,rfl⟩))
        go_wp2_with fail
        go_loopw [10] (fun q wr=>∃k:Nat,n i≤k∧k≤n i+2∧q=.int .i64 k∧Below w.heap.size w wr) (fun q _=>n i+2-(intOf q).toNat)
        case atStart=>exact ⟨n i,by omega,by omega,rfl,by (repeat any_goals first | exact .refl _ _ | assumption | refine .drew ?_ | refine below_drewN ?_ _ | refine .setCell ?_ ?_ _ | refine .alloc ?_ ?_ _ | omega | (simp <;> omega))⟩
        case round=>
          obtain ⟨k,hk0,hk,rfl,hbr⟩:=hrel
          have hszr:=hbr.size
          by_cases hk2:k<n i+2
          · have hd2:decide ((k:Int)<((n i:Int)+2))=true:=by simp;omega
            obtain ⟨q0,q1,q2⟩:=row_cells ((HL.out.below hbr).inner i hlt) k (by rw [HLN.out];omega)
            have hnl:¬k<ln N n i:=by rw [HLN.out];omega
            simp only [lx,ly,lk,if_neg hnl] at q0 q1 q2
            have g3:(0:Int)≤(k:Int):=by omega
            have g4:(k:Int)<(n i:Int)+2:=by omega
            clear hnl
            go_wp2_with fail
            go_region_held3 (fun w'=>w'.cell? ⟨B i,k*3,none⟩=some (.int .i64 1099511627776)∧w'.cell? ⟨B i,k*3+1,none⟩=some (.int .i64 (-7))∧w'.cell? ⟨B i,k*3+2,none⟩=some (.int .i64 9)) (go_keep) ((go_at_call 65;refine (ink_exact _).mono ?_;rintro e w' ⟨rfl,rfl⟩))
            all_goals
              go_wp2
              go_roundw
              case rel=>exact ⟨k+1,by omega,by omega,by go_num,by (repeat any_goals first | exact .refl _ _ | assumption | refine .drew ?_ | refine below_drewN ?_ _ | refine .setCell ?_ ?_ _ | refine .alloc ?_ ?_ _ | omega | (simp <;> omega))⟩
              case measure=>simp [intOf];omega
          · go_wp2
            go_roundw
            case rel=>exact ⟨i+1,by omega,by go_num,by (repeat any_goals first | exact .refl _ _ | assumption | refine .drew ?_ | refine below_drewN ?_ _ | refine .setCell ?_ ?_ _ | refine .alloc ?_ ?_ _ | omega | (simp <;> omega))⟩
            case measure=>simp [intOf];omega
      · have hln:ln N n i=0:=by unfold ln;rw [if_neg hiN]
        have HLN:=hide hln
        rw [hln] at oi
        clear hln
        have hd3:decide ((i:Int)<(N:Int))=false:=by simp;omega
        go_wp2_with fail
        go_loopw [10] (fun q wr=>∃k:Nat,0≤k∧k≤2∧q=.int .i64 k∧Below w.heap.size w wr) (fun q _=>2-(intOf q).toNat)
        case atStart=>exact ⟨0,by omega,by omega,rfl,by (repeat any_goals first | exact .refl _ _ | assumption | refine .drew ?_ | refine below_drewN ?_ _ | refine .setCell ?_ ?_ _ | refine .alloc ?_ ?_ _ | omega | (simp <;> omega))⟩
        case round=>
          obtain ⟨k,hk0,hk,rfl,hbr⟩:=hrel
          have hszr:=hbr.size
          by_cases hk2:k<2
          · have hd2:decide ((k:Int)<(2))=true:=by simp;omega
            obtain ⟨q0,q1,q2⟩:=row_cells ((HL.out.below hbr).inner i hlt) k (by rw [HLN.out];omega)
            have hnl:¬k<ln N n i:=by rw [HLN.out];omega
            simp only [lx,ly,lk,if_neg hnl] at q0 q1 q2
            have g3:(0:Int)≤(k:Int):=by omega
            have g4:(k:Int)<2:=by omega
            clear hnl
            go_wp2_with fail
            go_region_held3 (fun w'=>w'.cell? ⟨B i,k*3,none⟩=some (.int .i64 1099511627776)∧w'.cell? ⟨B i,k*3+1,none⟩=some (.int .i64 (-7))∧w'.cell? ⟨B i,k*3+2,none⟩=some (.int .i64 9)) (go_keep) ((go_at_call 65;refine (ink_exact _).mono ?_;rintro e w' ⟨rfl,rfl⟩))
            all_goals
              go_wp2
              go_roundw
              case rel=>exact ⟨k+1,by omega,by omega,by go_num,by (repeat any_goals first | exact .refl _ _ | assumption | refine .drew ?_ | refine below_drewN ?_ _ | refine .setCell ?_ ?_ _ | refine .alloc ?_ ?_ _ | omega | (simp <;> omega))⟩
              case measure=>simp [intOf];omega
          · go_wp2
            go_roundw
            case rel=>exact ⟨i+1,by omega,by go_num,by (repeat any_goals first | exact .refl _ _ | assumption | refine .drew ?_ | refine below_drewN ?_ _ | refine .setCell ?_ ?_ _ | refine .alloc ?_ ?_ _ | omega | (simp <;> omega))⟩
            case measure=>simp [intOf];omega
    · go_wp2
      go_ret
      exact ⟨rfl,hb⟩
end Go.Proofs.YtkhcjkmifddlbabGreatDoor
