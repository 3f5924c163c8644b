import Derived.Test.YtkhcjkmifddlbabGreatDoorPart1
import Derived.Test.YtkhcjkmifddlbabGreatDoorPart5
import Derived.BigRegion
import Derived.Deep.AppendLies
import Derived.Test.YtkhcjkmifddlbabGreatDoorPart2
set_option maxHeartbeats 8000000
namespace Go.Proofs.YtkhcjkmifddlbabGreatDoor
open Go.RowKit
theorem mayStand_any (a k b:Int) (w:World) :
    Calls Tryz.prog 154 #[.int .i64 a,.int .i64 k,.int .i64 b] w fun e w'=>e=.returned (.bool (Num.mayB a k b))∧w'=w:=by
  go_enter Tryz.func154,Tryz.ntmps154
  go_wp2
  all_goals
    go_ret
    refine ⟨ret_bool ?_,rfl⟩
    simp_all [Num.mayB]
theorem firstFar_any (a:Option Addr) (n c:Nat) (X Y K:Nat→Int) (w:World) (hn:n≤4294967296) (hr:RingAt w a n X Y K) :
    Calls Tryz.prog 115 #[.slice a n c] w fun e w'=>e=.returned (.int .i64 (Num.farI X Y n))∧Below w.heap.size w w':=by
  go_enter Tryz.func115,Tryz.ntmps115
  go_wp2
  go_loopw [7] (fun i wr=>∃k:Nat,k≤n∧i=.int .i64 k∧Below w.heap.size w wr∧∀j,j<k→Num.farB X Y j=false) (fun i _=>n-(intOf i).toNat)
  case atStart=>exact ⟨0,by omega,rfl,Below.refl _ _,by omega⟩
  case round=>
    obtain ⟨k,hk,rfl,hb,hno⟩:=hrel
    have hsz:=hb.size
    have HN:=hide hno
    clear hno
    by_cases hlt:k<n
    · rcases hr.below hb with h | ⟨b,off,rfl,hc⟩
      · omega
      · obtain ⟨c0,c1,c2⟩:=hc k hlt
        clear hc hr
        cases hx:Num.wi (X k) 4096
        · have hf:Num.farB X Y k=true:=by simp [Num.farB,hx]
          have HF:=hide hf
          clear hf
          go_wp2_with (go_at_call 120;refine (within_any _ _ _ (by omega) (by omega)).mono ?_;rintro e w' ⟨rfl,rfl⟩)
          go_ret
          exact ⟨ret_int (Num.firstI_hit _ _ _ hlt HF.out HN.out).symm,by (repeat any_goals first | exact .refl _ _ | assumption | refine .drew ?_ | refine below_drewN ?_ _ | refine .setCell ?_ ?_ _ | refine .alloc ?_ ?_ _ | omega | (simp <;> omega))⟩
        · cases hy:Num.wi (Y k) 4096
          · have hf:Num.farB X Y k=true:=by simp [Num.farB,hy]
            have HF:=hide hf
            clear hf
            go_wp2_with (go_at_call 120;refine (within_any _ _ _ (by omega) (by omega)).mono ?_;rintro e w' ⟨rfl,rfl⟩)
            go_ret
            exact ⟨ret_int (Num.firstI_hit _ _ _ hlt HF.out HN.out).symm,by (repeat any_goals first | exact .refl _ _ | assumption | refine .drew ?_ | refine below_drewN ?_ _ | refine .setCell ?_ ?_ _ | refine .alloc ?_ ?_ _ | omega | (simp <;> omega))⟩
          · have hf:Num.farB X Y k=false:=by simp [Num.farB,hx,hy]
            have HF:=hide hf
            clear hf
            go_wp2_with (go_at_call 120;refine (within_any _ _ _ (by omega) (by omega)).mono ?_;rintro e w' ⟨rfl,rfl⟩)
            go_roundw
            case rel=>
              refine ⟨k+1,by omega,by go_num,by (repeat any_goals first | exact .refl _ _ | assumption | refine .drew ?_ | refine below_drewN ?_ _ | refine .setCell ?_ ?_ _ | refine .alloc ?_ ?_ _ | omega | (simp <;> omega)),fun j hj=>?_⟩
              by_cases ej:j=k
              · subst ej;exact HF.out
              · exact HN.out j (by omega)
            case measure=>simp [intOf];omega
    · go_wp2
      go_ret
      have e:k=n:=by omega
      subst e
      exact ⟨ret_int (Num.firstI_none _ _ HN.out).symm,hb⟩
theorem shapeFault_any (a:Option Addr) (n c:Nat) (X Y K:Nat→Int) (w:World) (hn:n≤4294967296) (hr:RingAt w a n X Y K) :
    Calls Tryz.prog 114 #[.slice a n c] w fun e w'=>e=.returned (.int .i64 (Num.shapeI K n))∧Below w.heap.size w w':=by
  by_cases h2:n<2
  · have e:Num.shapeI K n=n:=by unfold Num.shapeI;rw [if_pos h2]
    rw [e]
    clear e
    go_enter Tryz.func114,Tryz.ntmps114
    go_wp2_with fail
    go_ret
    exact ⟨rfl,Below.refl _ _⟩
  · have e:Num.shapeI K n=Num.firstI (Num.badB K n) n:=by unfold Num.shapeI;rw [if_neg h2]
    rw [e]
    clear e
    rcases hr with h | ⟨b,off,rfl,hc⟩
    · omega
    obtain ⟨c0,c1,c2⟩:=hc (n-1) (by omega)
    have hlt0:b<w.heap.size:=World.block_lt_of_cell? w _ c0
    have HC:=hide hc
    clear hc
    go_enter Tryz.func114,Tryz.ntmps114
    go_wp2_with fail
    go_loopw [20] (fun i wr=>∃k:Nat,k≤n∧i=.int .i64 k∧Below w.heap.size w wr∧w.heap.size<wr.heap.size∧(∃px py,wr.cell? ⟨w.heap.size,0,none⟩=some (.int .i64 px)∧wr.cell? ⟨w.heap.size,1,none⟩=some (.int .i64 py))∧wr.cell? ⟨w.heap.size,2,none⟩=some (.int .i64 (Num.prevK K n k))∧wr.frozen? ⟨w.heap.size,0,none⟩=false∧wr.frozen? ⟨w.heap.size,1,none⟩=false∧wr.frozen? ⟨w.heap.size,2,none⟩=false∧∀j,j<k→Num.badB K n j=false) (fun i _=>n-(intOf i).toNat)
    case atStart=>
      refine ⟨0,by omega,rfl,by (repeat any_goals first | exact .refl _ _ | assumption | refine .drew ?_ | refine below_drewN ?_ _ | refine .setCell ?_ ?_ _ | refine .alloc ?_ ?_ _ | omega | (simp <;> omega)),by simp,⟨X (n-1),Y (n-1),?_,?_⟩,?_,?_,?_,?_,by omega⟩
      all_goals (first | (go_simp;done) | (simp [Num.prevK];done))
    case round=>
      obtain ⟨k,hk,rfl,hb,hsz,⟨px,py,q0,q1⟩,q2,z0,z1,z2,hno⟩:=hrel
      have HN:=hide hno
      clear hno
      by_cases hlt:k<n
      · have hc:∀k,k<n→wr.cell? ⟨b,off+k*3,none⟩=some (.int .i64 (X k))∧wr.cell? ⟨b,off+k*3+1,none⟩=some (.int .i64 (Y k))∧wr.cell? ⟨b,off+k*3+2,none⟩=some (.int .i64 (K k)):=by
          intro k hk
          obtain ⟨c0,c1,c2⟩:=HC.out k hk
          exact ⟨(hb.cell (p:=⟨b,_,none⟩) hlt0).trans c0,(hb.cell (p:=⟨b,_,none⟩) hlt0).trans c1,(hb.cell (p:=⟨b,_,none⟩) hlt0).trans c2⟩
        obtain ⟨d0,d1,d2⟩:=hc k hlt
        obtain ⟨e0,e1,e2⟩:=hc 0 (by omega)
        simp only [Nat.zero_mul,Nat.add_zero] at e0 e1 e2
        have hpn:Num.prevK K n (k+1)=K k:=by simp [Num.prevK]
        have HP:=hide hpn
        have hbw:b<wr.heap.size:=by omega
        clear hpn
        by_cases hl2:k+1<n
        · obtain ⟨f0,f1,f2⟩:=hc (k+1) hl2
          clear hc c0 c1 c2
          have hnx:Num.nextK K n k=K (k+1):=by unfold Num.nextK;rw [if_pos hl2]
          have hbad:Num.badB K n k = !Num.mayB (Num.prevK K n k) (K k) (K (k+1)):=by unfold Num.badB;rw [hnx]
          have HBad:=hide hbad
          clear hbad hnx
          go_wp2_with fail
          refine (mayStand_any _ _ _ _).mono ?_
          rintro e w' ⟨rfl,rfl⟩
          cases hm:Num.mayB (Num.prevK K n k) (K k) (K (k+1))
          · go_wp2
            go_ret
            exact ⟨ret_int (Num.firstI_hit _ _ _ hlt (by rw [HBad.out,hm];rfl) HN.out).symm,by (repeat any_goals first | exact .refl _ _ | assumption | refine .drew ?_ | refine below_drewN ?_ _ | refine .setCell ?_ ?_ _ | refine .alloc ?_ ?_ _ | omega | (simp <;> omega))⟩
          · go_wp2
            go_roundw
            case rel=>
              refine ⟨k+1,by omega,by go_num,by (repeat any_goals first | exact .refl _ _ | assumption | refine .drew ?_ | refine below_drewN ?_ _ | refine .setCell ?_ ?_ _ | refine .alloc ?_ ?_ _ | omega | (simp <;> omega)),by simp;omega,⟨X k,Y k,?_,?_⟩,?_,?_,?_,?_,fun j hj=>?_⟩
              case refine_7=>
                by_cases ej:j=k
                · subst ej;rw [HBad.out,hm];rfl
                · exact HN.out j (by omega)
              all_goals (try rw [HP.out])
              all_goals go_simp
            case measure=>simp [intOf];omega
        · clear hc c0 c1 c2
          have hnx:Num.nextK K n k=K 0:=by unfold Num.nextK;rw [if_neg hl2]
          have hbad:Num.badB K n k = !Num.mayB (Num.prevK K n k) (K k) (K 0):=by unfold Num.badB;rw [hnx]
          have HBad:=hide hbad
          clear hbad hnx
          go_wp2_with fail
          refine (mayStand_any _ _ _ _).mono ?_
          rintro e w' ⟨rfl,rfl⟩
          cases hm:Num.mayB (Num.prevK K n k) (K k) (K 0)
          · go_wp2
            go_ret
            exact ⟨ret_int (Num.firstI_hit _ _ _ hlt (by rw [HBad.out,hm];rfl) HN.out).symm,by (repeat any_goals first | exact .refl _ _ | assumption | refine .drew ?_ | refine below_drewN ?_ _ | refine .setCell ?_ ?_ _ | refine .alloc ?_ ?_ _ | omega | (simp <;> omega))⟩
          · go_wp2
            go_roundw
            case rel=>
              refine ⟨k+1,by omega,by go_num,by (repeat any_goals first | exact .refl _ _ | assumption | refine .drew ?_ | refine below_drewN ?_ _ | refine .setCell ?_ ?_ _ | refine .alloc ?_ ?_ _ | omega | (simp <;> omega)),by simp;omega,⟨X k,Y k,?_,?_⟩,?_,?_,?_,?_,fun j hj=>?_⟩
              case refine_7=>
                by_cases ej:j=k
                · subst ej;rw [HBad.out,hm];rfl
                · exact HN.out j (by omega)
              all_goals (try rw [HP.out])
              all_goals go_simp
            case measure=>simp [intOf];omega
      · go_wp2
        go_ret
        have e:k=n:=by omega
        subst e
        exact ⟨ret_int (Num.firstI_none _ _ HN.out).symm,hb⟩
end Go.Proofs.YtkhcjkmifddlbabGreatDoor
namespace Go.Proofs.YtkhcjkmifddlbabGreatDoor
open Go.RowKit
theorem many_of_sum {N:Nat} {n:Nat→Nat} {k:Nat} (hk:k≤N) (h:200<Num.sumN n k):Num.manyB N n=true:=by
  have:=Num.sumN_mono n hk
  simp [Num.manyB];omega
theorem tooMany_any (a:Option Addr) (N c:Nat) (A:Nat→Option Addr) (C n:Nat→Nat) (X Y K:Nat→Nat→Int) (w:World) (hN:N≤4294967296) (hn:∀i,i<N→n i≤4294967296) (ho:OutAt w a N A C n X Y K) :
    Calls Tryz.prog 113 #[.slice a N c] w fun e w'=>e=.returned (.bool (Num.manyB N n))∧w'=w:=by
  have hout:=ho.1
  clear ho
  by_cases h16:16<N
  · have e:Num.manyB N n=true:=by simp [Num.manyB,h16]
    rw [e]
    clear e hn
    go_enter Tryz.func113,Tryz.ntmps113
    go_wp2_with fail
    go_ret
    exact ⟨rfl,rfl⟩
  · have h16':N≤16:=by omega
    have HN:=hide hn
    clear hn
    go_enter Tryz.func113,Tryz.ntmps113
    go_wp2_with fail
    go_loop [3,11] (fun l i=>∃k:Nat,k≤N∧i=.int .i64 k∧l=.int .i64 (200-(Num.sumN n k:Int))∧Num.sumN n k≤200) (fun _ i=>N-(intOf i).toNat)
    case atStart=>exact ⟨0,by omega,rfl,by simp [Num.sumN],by simp [Num.sumN]⟩
    case round=>
      obtain ⟨k,hk,rfl,rfl,hs⟩:=hrel
      by_cases hlt:k<N
      · rcases hout with h | ⟨b,off,rfl,hc⟩
        · omega
        have ci:=hc k hlt
        have hnk:=HN.out k hlt
        clear hc
        have hsum:Num.sumN n (k+1)=Num.sumN n k+n k:=rfl
        have HS:=hide hsum
        clear hsum
        by_cases hov:200-(Num.sumN n k:Int)<(n k:Int)
        · go_wp2
          go_ret
          exact ⟨ret_bool (many_of_sum (k:=k+1) (by omega) (by have:=HS.out;omega)).symm,rfl⟩
        · go_wp2
          go_round
          case rel=>exact ⟨k+1,by omega,by go_num,by rw [HS.out];go_num,by rw [HS.out];omega⟩
          case measure=>simp [intOf];omega
      · go_wp2
        go_ret
        have e:k=N:=by omega
        subst e
        exact ⟨ret_bool (by simp [Num.manyB];omega),rfl⟩
theorem check_any (a:Option Addr) (N c:Nat) (A:Nat→Option Addr) (C n:Nat→Nat) (X Y K:Nat→Nat→Int) (w:World) (hN:N≤4294967296) (hn:∀i,i<N→n i≤4294967296) (ho:OutAt w a N A C n X Y K) :
    Calls Tryz.prog 66 #[.slice a N c] w fun e w'=>
      e=.returned (.tuple #[.int .i64 (Num.chkV N n X Y K).1,.int .i64 (Num.chkV N n X Y K).2.1,.int .i64 (Num.chkV N n X Y K).2.2])∧Below w.heap.size w w':=by
  have HN:=hide hn
  have HO:=hide ho
  clear hn ho
  cases hm:Num.manyB N n
  · go_enter Tryz.func66,Tryz.ntmps66
    go_wp2_with fail
    refine (tooMany_any _ _ _ A C n X Y K _ hN HN.out HO.out).mono ?_
    rintro e w' ⟨rfl,hw⟩
    rw [hm,hw]
    clear hw
    go_wp2_with fail
    go_loopw [15] (fun i wr=>∃k:Nat,k≤N∧i=.int .i64 k∧Below w.heap.size w wr∧∀j,j<k→Num.shapeAt n K j=false) (fun i _=>N-(intOf i).toNat)
    case atStart=>exact ⟨0,by omega,rfl,Below.refl _ _,by omega⟩
    case round=>
      obtain ⟨k,hk,rfl,hb,hno⟩:=hrel
      have hsz:=hb.size
      have HNo:=hide hno
      clear hno
      have HO2:=hide (HO.out.below hb)
      by_cases hlt:k<N
      · rcases HO2.out.1 with h | ⟨b,off,rfl,hc⟩
        · omega
        have ci:=hc k hlt
        clear hc
        go_wp2_with fail
        refine (shapeFault_any _ _ _ _ _ _ _ (HN.out k hlt) (HO2.out.2 k hlt)).mono ?_
        rintro e w1 ⟨rfl,hb1⟩
        have hb2:Below w.heap.size w w1:=hb.trans (hb1.mono hsz)
        clear hb1
        cases hs:Num.shapeAt n K k
        · have hs':Num.shapeI (K k) (n k) = -1:=by simpa [Num.shapeAt] using hs
          rw [hs']
          have HS:=hide hs
          clear hs hs'
          go_wp2
          go_roundw
          case rel=>
            refine ⟨k+1,by omega,by go_num,hb2,fun j hj=>?_⟩
            by_cases ej:j=k
            · subst ej;exact HS.out
            · exact HNo.out j (by omega)
          case measure=>simp [intOf];omega
        · have hs':(Num.shapeI (K k) (n k) != -1)=true:=by simpa [Num.shapeAt] using hs
          have hv:=Num.chk_shape N n X Y K hm k hlt hs HNo.out
          have HV:=hide hv
          clear hs hv
          go_wp2
          go_ret3
          rw [HV.out]
          exact ⟨rfl,hb2⟩
      · have e:k=N:=by omega
        subst e
        go_wp2_with fail
        go_loopw [29] (fun i wr'=>∃j:Nat,j≤k∧i=.int .i64 j∧Below w.heap.size w wr'∧∀q,q<j→Num.farAt n X Y q=false) (fun i _=>k-(intOf i).toNat)
        case atStart=>exact ⟨0,by omega,rfl,hb,by omega⟩
        case round=>
          obtain ⟨j,hj,rfl,hb',hno'⟩:=hrel
          have hsz':=hb'.size
          have HNo':=hide hno'
          clear hno'
          have HO3:=hide (HO.out.below hb')
          by_cases hlt':j<k
          · rcases HO3.out.1 with h | ⟨b,off,rfl,hc⟩
            · omega
            have ci:=hc j hlt'
            clear hc
            go_wp2_with fail
            refine (firstFar_any _ _ _ _ _ _ _ (HN.out j hlt') (HO3.out.2 j hlt')).mono ?_
            rintro e w1 ⟨rfl,hb1⟩
            have hb2:Below w.heap.size w w1:=hb'.trans (hb1.mono hsz')
            clear hb1
            cases hs:Num.farAt n X Y j
            · have hs':Num.farI (X j) (Y j) (n j) = -1:=by simpa [Num.farAt] using hs
              rw [hs']
              have HS:=hide hs
              clear hs hs'
              go_wp2
              go_roundw
              case rel=>
                refine ⟨j+1,by omega,by go_num,hb2,fun q hq=>?_⟩
                by_cases ej:q=j
                · subst ej;exact HS.out
                · exact HNo'.out q (by omega)
              case measure=>simp [intOf];omega
            · have hs':(Num.farI (X j) (Y j) (n j) != -1)=true:=by simpa [Num.farAt] using hs
              have hv:=Num.chk_far k n X Y K hm HNo.out j hlt' hs HNo'.out
              have HV:=hide hv
              clear hs hv
              go_wp2
              go_ret3
              rw [HV.out]
              exact ⟨rfl,hb2⟩
          · have e:j=k:=by omega
            subst e
            go_wp2
            go_ret3
            rw [Num.chk_ok j n X Y K hm HNo.out HNo'.out]
            exact ⟨rfl,hb'⟩
  · rw [Num.chk_many N n X Y K hm]
    go_enter Tryz.func66,Tryz.ntmps66
    go_wp2_with fail
    refine (tooMany_any _ _ _ A C n X Y K _ hN HN.out HO.out).mono ?_
    rintro e w' ⟨rfl,hw⟩
    rw [hm,hw]
    clear hw
    go_wp2
    go_ret3
    exact ⟨rfl,Below.refl _ _⟩
theorem glyphCheck_any (a:Option Addr) (N c:Nat) (A:Nat→Option Addr) (C n:Nat→Nat) (X Y K:Nat→Nat→Int) (w:World) (hN:N≤4294967296) (hn:∀i,i<N→n i≤4294967296) (ho:OutAt w a N A C n X Y K) :
    Calls Tryz.prog 23 #[.slice a N c] w fun e w'=>
      e=.returned (.tuple #[.int .i64 (Num.chkV N n X Y K).1,.int .i64 (Num.chkV N n X Y K).2.1,.int .i64 (Num.chkV N n X Y K).2.2])∧Below w.heap.size w w':=by
  have HN:=hide hn
  have HO:=hide ho
  clear hn ho
  go_enter Tryz.func23,Tryz.ntmps23
  go_wp2_with fail
  refine (check_any _ _ _ A C n X Y K _ hN HN.out HO.out).mono ?_
  rintro e w1 ⟨rfl,hb⟩
  go_wp2
  go_ret3
  exact ⟨rfl,hb⟩
end Go.Proofs.YtkhcjkmifddlbabGreatDoor
namespace Go.Proofs.YtkhcjkmifddlbabGreatDoor
open Go.RowKit
theorem at_any (a:Option Addr) (n c:Nat) (X Y K:Nat→Int) (i:Int) (w:World) (h0:0≤i) (h1:i≤1099511627776) (hp:0<n) (hn:n≤4294967296) (hr:RingAt w a n X Y K) :
    Calls Tryz.prog 155 #[.slice a n c,.int .i64 i] w fun e w'=>e=.returned (.agg #[.int .i64 (X (i.toNat % n)),.int .i64 (Y (i.toNat % n)),.int .i64 (K (i.toNat % n))])∧Below w.heap.size w w':=by
  obtain ⟨j,rfl⟩:=Int.eq_ofNat_of_zero_le h0
  rw [Int.toNat_natCast]
  rcases hr with h | ⟨b,off,rfl,hc⟩
  · omega
  have hlt:j % n<n:=Nat.mod_lt _ hp
  obtain ⟨c0,c1,c2⟩:=hc (j % n) hlt
  have hbw:b<w.heap.size:=World.block_lt_of_cell? w _ c0
  clear hc
  obtain ⟨m,hm⟩:∃m,m=j % n:=⟨_,rfl⟩
  rw [←hm] at c0 c1 c2 hlt ⊢
  have e:(j:Int) % (n:Int)=(m:Int):=by rw [hm];simp
  clear hm
  have hn0:¬(n:Int)=0:=by omega
  have g1:(m:Int)<(n:Int):=by omega
  go_enter Tryz.func155,Tryz.ntmps155
  go_wp2
  refine bodyPost_ret (v:=.agg #[.int .i64 (X m),.int .i64 (Y m),.int .i64 (K m)]) (by simp [results,Tryz.results155,go_sem]) rfl ⟨rfl,?_⟩
  (repeat any_goals first | exact .refl _ _ | assumption | refine .drew ?_ | refine below_drewN ?_ _ | refine .setCell ?_ ?_ _ | refine .alloc ?_ ?_ _ | omega | (simp <;> omega))
theorem refMayStand_any (a:Option Addr) (n c:Nat) (X Y K:Nat→Int) (i:Nat) (w:World) (hi:i<n) (hn:n≤4294967296) (hr:RingAt w a n X Y K) :
    Calls Tryz.prog 116 #[.slice a n c,.int .i64 i] w fun e w'=>e=.returned (.bool (!Num.badB K n i))∧Below w.heap.size w w':=by
  have hbad:(!Num.badB K n i)=Num.mayB (K ((i+n-1) % n)) (K i) (K ((i+1) % n)):=by
    rw [Num.prevK_mod K n i hi,Num.nextK_mod K n i hi];simp [Num.badB]
  rw [hbad]
  clear hbad
  have HR:=hide hr
  clear hr
  rcases HR.out with h | ⟨b,off,rfl,hc⟩
  · omega
  obtain ⟨_,_,c2⟩:=hc i hi
  have hbw:b<w.heap.size:=World.block_lt_of_cell? w _ c2
  clear hc
  have g1:(i:Int)<(n:Int):=by omega
  by_cases h2:K i=2
  · rw [h2] at c2 ⊢
    go_enter Tryz.func116,Tryz.ntmps116
    go_wp2_with fail
    refine (at_any _ _ _ X Y K _ _ (by omega) (by omega) (by omega) hn HR.out).mono ?_
    rw [show ((i:Int)+(n:Int)-1).toNat=i+n-1 by omega]
    rintro e w1 ⟨rfl,hb⟩
    have HR1:=hide (HR.out.below hb)
    have hz:w.heap.size≤w1.heap.size:=hb.size
    go_wp2_with fail
    refine (at_any _ _ _ X Y K _ _ (by omega) (by omega) (by omega) hn (HR1.out.below (by (repeat any_goals first | exact .refl _ _ | assumption | refine .drew ?_ | refine below_drewN ?_ _ | refine .setCell ?_ ?_ _ | refine .alloc ?_ ?_ _ | omega | (simp <;> omega))))).mono ?_
    rw [show ((i:Int)+1).toNat=i+1 by omega]
    rintro e w2 ⟨rfl,hb2⟩
    obtain ⟨hc2,hfz2⟩:=bcell hb2
    have hz2:w1.heap.size<w2.heap.size:=by have:=hb2.size;simp at this;omega
    have q2:w2.cell? ⟨w1.heap.size,2,none⟩=some (.int .i64 (K ((i+n-1) % n))):=by rw [hc2 _ _ (by simp)];go_simp
    have hb3:Below w.heap.size w w2:=Below.trans (by (repeat any_goals first | exact .refl _ _ | assumption | refine .drew ?_ | refine below_drewN ?_ _ | refine .setCell ?_ ?_ _ | refine .alloc ?_ ?_ _ | omega | (simp <;> omega))) (hb2.mono (by simp;omega))
    clear hb2 hc2 hfz2
    go_wp2
    all_goals
      go_ret
      refine ⟨ret_bool ?_,by (repeat any_goals first | exact .refl _ _ | assumption | refine .drew ?_ | refine below_drewN ?_ _ | refine .setCell ?_ ?_ _ | refine .alloc ?_ ?_ _ | omega | (simp <;> omega))⟩
      simp_all [Num.mayB]
  · have hne:(K i != 2)=true:=by simpa using h2
    have e:Num.mayB (K ((i+n-1) % n)) (K i) (K ((i+1) % n))=(K i == 0 || K i == 1):=by simp [Num.mayB,h2]
    rw [e]
    clear e
    go_enter Tryz.func116,Tryz.ntmps116
    go_wp2
    all_goals
      go_ret
      refine ⟨ret_bool ?_,by (repeat any_goals first | exact .refl _ _ | assumption | refine .drew ?_ | refine below_drewN ?_ _ | refine .setCell ?_ ?_ _ | refine .alloc ?_ ?_ _ | omega | (simp <;> omega))⟩
      simp_all
theorem refFar_any (x y k:Int) (w:World) :
    Calls Tryz.prog 68 #[.agg #[.int .i64 x,.int .i64 y,.int .i64 k]] w fun e w'=>e=.returned (.bool (!(Num.wi x 4096 && Num.wi y 4096)))∧Below w.heap.size w w':=by
  go_enter Tryz.func68,Tryz.ntmps68
  go_wp2
  all_goals
    go_ret
    refine ⟨ret_bool ?_,by (repeat any_goals first | exact .refl _ _ | assumption | refine .drew ?_ | refine below_drewN ?_ _ | refine .setCell ?_ ?_ _ | refine .alloc ?_ ?_ _ | omega | (simp <;> omega))⟩
    rw [Bool.eq_iff_iff]
    simp [Num.wi]
    omega
theorem refShape_any (a:Option Addr) (n c:Nat) (X Y K:Nat→Int) (w:World) (hn:n≤4294967296) (hr:RingAt w a n X Y K) :
    Calls Tryz.prog 67 #[.slice a n c] w fun e w'=>e=.returned (.int .i64 (Num.shapeI K n))∧Below w.heap.size w w':=by
  have HR:=hide hr
  clear hr
  by_cases h2:n<2
  · have e:Num.shapeI K n=n:=by unfold Num.shapeI;rw [if_pos h2]
    rw [e]
    clear e
    go_enter Tryz.func67,Tryz.ntmps67
    go_wp2_with fail
    go_ret
    exact ⟨rfl,Below.refl _ _⟩
  · have e:Num.shapeI K n=Num.firstI (Num.badB K n) n:=by unfold Num.shapeI;rw [if_neg h2]
    rw [e]
    clear e
    go_enter Tryz.func67,Tryz.ntmps67
    go_wp2_with fail
    go_loopw [3] (fun i wr=>∃k:Nat,k≤n∧i=.int .i64 k∧Below w.heap.size w wr∧∀j,j<k→Num.badB K n j=false) (fun i _=>n-(intOf i).toNat)
    case atStart=>exact ⟨0,by omega,rfl,Below.refl _ _,by omega⟩
    case round=>
      obtain ⟨k,hk,rfl,hb,hno⟩:=hrel
      have hsz:=hb.size
      have HN:=hide hno
      clear hno
      by_cases hlt:k<n
      · go_wp2_with fail
        refine (refMayStand_any _ _ _ _ _ _ k _ hlt hn (HR.out.below hb)).mono ?_
        rintro e w1 ⟨rfl,hb1⟩
        have hb2:Below w.heap.size w w1:=hb.trans (hb1.mono hsz)
        clear hb1
        cases hs:Num.badB K n k
        · have HS:=hide hs
          clear hs
          go_wp2
          go_roundw
          case rel=>
            refine ⟨k+1,by omega,by go_num,hb2,fun j hj=>?_⟩
            by_cases ej:j=k
            · subst ej;exact HS.out
            · exact HN.out j (by omega)
          case measure=>simp [intOf];omega
        · have HS:=hide hs
          clear hs
          go_wp2
          go_ret
          exact ⟨ret_int (Num.firstI_hit _ _ _ hlt HS.out HN.out).symm,hb2⟩
      · have e:k=n:=by omega
        subst e
        go_wp2
        go_ret
        exact ⟨ret_int (Num.firstI_none _ _ HN.out).symm,hb⟩
end Go.Proofs.YtkhcjkmifddlbabGreatDoor
namespace Go.Proofs.YtkhcjkmifddlbabGreatDoor
open Go.RowKit
def thereB (K:Nat→Int) (n t:Nat):Bool:=if t % 2=0 then true else (K (t / 2 % n) == 1 && K ((t / 2+1) % n) == 1)
theorem stp_there {X Y K:Nat→Int} {n t:Nat}:Num.stp X Y K n t=if thereB K n t=true then some (Num.stv X Y K n t) else none:=by
  unfold Num.stp thereB Num.stv
  by_cases h:t % 2=0
  · simp [h]
  · simp only [if_neg h]
    by_cases h2:K (t / 2 % n)=1∧K ((t / 2+1) % n)=1
    · rw [if_pos h2,if_pos (by simp [h2])]
    · rw [if_neg h2,if_neg (by simpa using h2)]
set_option maxRecDepth 100000 in
theorem stop_any (a:Option Addr) (n c t:Nat) (X Y K:Nat→Int) (w:World) (hp:0<n) (hn:n≤2097152) (ht:t≤16777216) (hX:∀i,i<n → -4096≤X i∧X i≤4096) (hY:∀i,i<n → -4096≤Y i∧Y i≤4096) (hr:RingAt w a n X Y K) :
    Calls Tryz.prog 157 #[.slice a n c,.int .i64 t] w fun e w'=>e=.returned (.tuple #[.agg #[.int .i64 (Num.stv X Y K n t).1,.int .i64 (Num.stv X Y K n t).2.1],.int .i64 (Num.stv X Y K n t).2.2,.bool (thereB K n t)])∧Below w.heap.size w w':=by
  have HR:=hide hr
  have i1:t / 2 % n<n:=Nat.mod_lt _ hp
  have i2:(t / 2+1) % n<n:=Nat.mod_lt _ hp
  obtain ⟨bX,bX'⟩:=hX _ i1
  obtain ⟨bY,bY'⟩:=hY _ i1
  obtain ⟨cX,cX'⟩:=hX _ i2
  obtain ⟨cY,cY'⟩:=hY _ i2
  clear hr hX hY
  by_cases hev:t % 2=0
  · have e1:Num.stv X Y K n t=(2*X (t / 2 % n),2*Y (t / 2 % n),K (t / 2 % n)):=by unfold Num.stv;rw [if_pos hev]
    have e2:thereB K n t=true:=by unfold thereB;rw [if_pos hev]
    rw [e1,e2]
    clear e1 e2
    obtain ⟨p0,h0⟩:∃p0,p0=X (t / 2 % n):=⟨_,rfl⟩
    obtain ⟨p1,h1⟩:∃p1,p1=Y (t / 2 % n):=⟨_,rfl⟩
    obtain ⟨p2,h2⟩:∃p2,p2=K (t / 2 % n):=⟨_,rfl⟩
    rw [←h0,←h1,←h2]
    rw [←h0] at bX bX'
    rw [←h1] at bY bY'
    have H0:=hide h0
    have H1:=hide h1
    have H2:=hide h2
    clear h0 h1 h2
    have hev1:((t:Int) % 2 == 0)=true:=by simp;omega
    go_enter Tryz.func157,Tryz.ntmps157
    go_wp2_with fail
    refine (at_any _ _ _ X Y K _ _ (by omega) (by omega) hp (by omega) (HR.out.below (by (repeat any_goals first | exact .refl _ _ | assumption | refine .drew ?_ | refine below_drewN ?_ _ | refine .setCell ?_ ?_ _ | refine .alloc ?_ ?_ _ | omega | (simp <;> omega))))).mono ?_
    rw [show ((t:Int) / 2).toNat=t / 2 by omega]
    rw [←H0.out,←H1.out,←H2.out]
    rintro e w1 ⟨rfl,hb⟩
    obtain ⟨hc,hfz⟩:=bcell hb
    have q0:w1.cell? ⟨w.heap.size,0,none⟩=some (.int .i64 0):=by rw [hc _ _ (by simp)];go_simp
    have q1:w1.cell? ⟨w.heap.size,1,none⟩=some (.int .i64 0):=by rw [hc _ _ (by simp)];go_simp
    have z0:w1.frozen? ⟨w.heap.size,0,none⟩=false:=by rw [hfz _ _ (by simp)];go_simp
    have z1:w1.frozen? ⟨w.heap.size,1,none⟩=false:=by rw [hfz _ _ (by simp)];go_simp
    have hz:w.heap.size<w1.heap.size:=by have:=hb.size;simp at this;omega
    have hb0:Below w.heap.size w w1:=Below.trans (by (repeat any_goals first | exact .refl _ _ | assumption | refine .drew ?_ | refine below_drewN ?_ _ | refine .setCell ?_ ?_ _ | refine .alloc ?_ ?_ _ | omega | (simp <;> omega))) (hb.mono (by simp))
    have HB:=hide hb0
    clear hb hc hfz hb0
    have m1:=wrap_ok (2*p0) (by omega) (by omega)
    have m2:=wrap_ok (2*p1) (by omega) (by omega)
    go_wp2_with fail
    go_region
    go_wp2
    have:=HB.out
    refine bodyPost_ret (v:=.tuple #[.agg #[.int .i64 (2*p0),.int .i64 (2*p1)],.int .i64 p2,.bool true]) (by simp [results,Tryz.results157,go_sem,q0,q1,hz]) rfl ⟨rfl,?_⟩
    (repeat any_goals first | exact .refl _ _ | assumption | refine .drew ?_ | refine below_drewN ?_ _ | refine .setCell ?_ ?_ _ | refine .alloc ?_ ?_ _ | omega | (simp <;> omega))
  · have e1:Num.stv X Y K n t=(X (t / 2 % n)+X ((t / 2+1) % n),Y (t / 2 % n)+Y ((t / 2+1) % n),0):=by unfold Num.stv;rw [if_neg hev]
    have e2:thereB K n t=(K (t / 2 % n) == 1 && K ((t / 2+1) % n) == 1):=by unfold thereB;rw [if_neg hev]
    rw [e1,e2]
    clear e1 e2
    obtain ⟨p0,h0⟩:∃p0,p0=X (t / 2 % n):=⟨_,rfl⟩
    obtain ⟨p1,h1⟩:∃p1,p1=Y (t / 2 % n):=⟨_,rfl⟩
    obtain ⟨p2,h2⟩:∃p2,p2=K (t / 2 % n):=⟨_,rfl⟩
    rw [←h0,←h1,←h2]
    rw [←h0] at bX bX'
    rw [←h1] at bY bY'
    have H0:=hide h0
    have H1:=hide h1
    have H2:=hide h2
    clear h0 h1 h2
    obtain ⟨r0,h0⟩:∃r0,r0=X ((t / 2+1) % n):=⟨_,rfl⟩
    obtain ⟨r1,h1⟩:∃r1,r1=Y ((t / 2+1) % n):=⟨_,rfl⟩
    obtain ⟨r2,h2⟩:∃r2,r2=K ((t / 2+1) % n):=⟨_,rfl⟩
    rw [←h0,←h1,←h2]
    rw [←h0] at cX cX'
    rw [←h1] at cY cY'
    have G0:=hide h0
    have G1:=hide h1
    have G2:=hide h2
    clear h0 h1 h2
    have hev1:((t:Int) % 2 == 0)=false:=by simp;omega
    go_enter Tryz.func157,Tryz.ntmps157
    go_wp2_with fail
    refine (at_any _ _ _ X Y K _ _ (by omega) (by omega) hp (by omega) (HR.out.below (by (repeat any_goals first | exact .refl _ _ | assumption | refine .drew ?_ | refine below_drewN ?_ _ | refine .setCell ?_ ?_ _ | refine .alloc ?_ ?_ _ | omega | (simp <;> omega))))).mono ?_
    rw [show ((t:Int) / 2).toNat=t / 2 by omega]
    rw [←H0.out,←H1.out,←H2.out]
    rintro e w1 ⟨rfl,hb⟩
    obtain ⟨hc,hfz⟩:=bcell hb
    have q0:w1.cell? ⟨w.heap.size,0,none⟩=some (.int .i64 0):=by rw [hc _ _ (by simp)];go_simp
    have q1:w1.cell? ⟨w.heap.size,1,none⟩=some (.int .i64 0):=by rw [hc _ _ (by simp)];go_simp
    have z0:w1.frozen? ⟨w.heap.size,0,none⟩=false:=by rw [hfz _ _ (by simp)];go_simp
    have z1:w1.frozen? ⟨w.heap.size,1,none⟩=false:=by rw [hfz _ _ (by simp)];go_simp
    have hz:w.heap.size<w1.heap.size:=by have:=hb.size;simp at this;omega
    have hb0:Below w.heap.size w w1:=Below.trans (by (repeat any_goals first | exact .refl _ _ | assumption | refine .drew ?_ | refine below_drewN ?_ _ | refine .setCell ?_ ?_ _ | refine .alloc ?_ ?_ _ | omega | (simp <;> omega))) (hb.mono (by simp))
    have HB:=hide hb0
    clear hb hc hfz hb0
    go_wp2_with fail
    refine (at_any _ _ _ X Y K _ _ (by omega) (by omega) hp (by omega) (HR.out.below (by have:=HB.out;(repeat any_goals first | exact .refl _ _ | assumption | refine .drew ?_ | refine below_drewN ?_ _ | refine .setCell ?_ ?_ _ | refine .alloc ?_ ?_ _ | omega | (simp <;> omega))))).mono ?_
    rw [show ((t:Int) / 2+1).toNat=t / 2+1 by omega]
    rw [←G0.out,←G1.out,←G2.out]
    rintro e w2 ⟨rfl,hb⟩
    obtain ⟨hc,hfz⟩:=bcell hb
    have o0:w2.cell? ⟨w.heap.size,0,none⟩=some (.int .i64 0):=by rw [hc _ _ (by simp;omega)];go_simp
    have o1:w2.cell? ⟨w.heap.size,1,none⟩=some (.int .i64 0):=by rw [hc _ _ (by simp;omega)];go_simp
    have y0:w2.frozen? ⟨w.heap.size,0,none⟩=false:=by rw [hfz _ _ (by simp;omega)];go_simp
    have y1:w2.frozen? ⟨w.heap.size,1,none⟩=false:=by rw [hfz _ _ (by simp;omega)];go_simp
    have d0:w2.cell? ⟨w1.heap.size,0,none⟩=some (.int .i64 p0):=by rw [hc _ _ (by simp)];go_simp
    have d1:w2.cell? ⟨w1.heap.size,1,none⟩=some (.int .i64 p1):=by rw [hc _ _ (by simp)];go_simp
    have d2:w2.cell? ⟨w1.heap.size,2,none⟩=some (.int .i64 p2):=by rw [hc _ _ (by simp)];go_simp
    have hz2:w1.heap.size<w2.heap.size:=by have:=hb.size;simp at this;omega
    have hz3:w.heap.size<w2.heap.size:=by omega
    have hb0:Below w.heap.size w w2:=Below.trans (by have:=HB.out;(repeat any_goals first | exact .refl _ _ | assumption | refine .drew ?_ | refine below_drewN ?_ _ | refine .setCell ?_ ?_ _ | refine .alloc ?_ ?_ _ | omega | (simp <;> omega))) (hb.mono (by simp;omega))
    have HB2:=hide hb0
    clear hb hc hfz hb0 q0 q1 z0 z1 HB
    have m1:=wrap_ok (p0+r0) (by omega) (by omega)
    have m2:=wrap_ok (p1+r1) (by omega) (by omega)
    have fin:∀(bb:Bool),(p2 == 1 && r2 == 1)=bb→True:=fun _ _=>trivial
    clear fin
    cases hk:(p2 == 1)
    · go_wp2_with fail
      go_region
      go_wp2
      have:=HB2.out
      refine bodyPost_ret (v:=.tuple #[.agg #[.int .i64 (p0+r0),.int .i64 (p1+r1)],.int .i64 0,.bool false]) (by simp [results,Tryz.results157,go_sem,o0,o1,hz3]) rfl ⟨by simp [hk],?_⟩
      (repeat any_goals first | exact .refl _ _ | assumption | refine .drew ?_ | refine below_drewN ?_ _ | refine .setCell ?_ ?_ _ | refine .alloc ?_ ?_ _ | omega | (simp <;> omega))
    · cases hk2:(r2 == 1)
      · go_wp2_with fail
        go_region
        go_wp2
        have:=HB2.out
        refine bodyPost_ret (v:=.tuple #[.agg #[.int .i64 (p0+r0),.int .i64 (p1+r1)],.int .i64 0,.bool false]) (by simp [results,Tryz.results157,go_sem,o0,o1,hz3]) rfl ⟨by simp [hk,hk2],?_⟩
        (repeat any_goals first | exact .refl _ _ | assumption | refine .drew ?_ | refine below_drewN ?_ _ | refine .setCell ?_ ?_ _ | refine .alloc ?_ ?_ _ | omega | (simp <;> omega))
      · go_wp2_with fail
        go_region
        go_wp2
        have:=HB2.out
        refine bodyPost_ret (v:=.tuple #[.agg #[.int .i64 (p0+r0),.int .i64 (p1+r1)],.int .i64 0,.bool true]) (by simp [results,Tryz.results157,go_sem,o0,o1,hz3]) rfl ⟨by simp [hk,hk2],?_⟩
        (repeat any_goals first | exact .refl _ _ | assumption | refine .drew ?_ | refine below_drewN ?_ _ | refine .setCell ?_ ?_ _ | refine .alloc ?_ ?_ _ | omega | (simp <;> omega))
end Go.Proofs.YtkhcjkmifddlbabGreatDoor
namespace Go.Proofs.YtkhcjkmifddlbabGreatDoor
open Go.RowKit Go.Deep
theorem info_ptslice:(Tryz.prog.info? 125).map (fun i=>(i.zero,i.size,i.bytes))=some (some (.slice none 0 0),1,24):=by kernel_rfl
theorem info_pt:(Tryz.prog.info? 129).map (fun i=>(i.zero,i.size,i.bytes))=some (some (.agg #[.int .i64 0,.int .i64 0,.int .i64 0]),3,24):=by kernel_rfl
theorem mk_outer (N:Nat) (hN:N≤4294967296) (w:World):(Instr.makeSlice 38 (.int .i64 ((N:Int)+2)) (.int .i64 ((N:Int)+2))).run Tryz.prog w=.ok (.slice (some ⟨w.heap.size,0,none⟩) (N+2) (N+2)) (w.alloc (.cells (madeCells #[.slice none 0 0] (N+2)) 125)):=by
  obtain ⟨i,hi,hz0,hz1,hz2⟩:=info_parts info_ptslice
  have h:=run_make (P:=Tryz.prog) w 38 125 i _ Tryz.underlying38 hi hz0 .i64 .i64 ((N:Int)+2) ((N:Int)+2) (by omega) (Int.le_refl _) (by rw [hz2];omega) (by omega)
  rw [hz1,show ((N:Int)+2).toNat=N+2 by omega] at h
  simpa [Value.cells] using h
theorem mk_inner (N:Nat) (hN:N≤4294967296) (w:World):(Instr.makeSlice 125 (.int .i64 ((N:Int)+2)) (.int .i64 ((N:Int)+2))).run Tryz.prog w=.ok (.slice (some ⟨w.heap.size,0,none⟩) (N+2) (N+2)) (w.alloc (.cells (madeCells #[.int .i64 0,.int .i64 0,.int .i64 0] ((N+2)*3)) 129)):=by
  obtain ⟨i,hi,hz0,hz1,hz2⟩:=info_parts info_pt
  have h:=run_make (P:=Tryz.prog) w 125 129 i _ Tryz.underlying125 hi hz0 .i64 .i64 ((N:Int)+2) ((N:Int)+2) (by omega) (Int.le_refl _) (by rw [hz2];omega) (by omega)
  rw [hz1,show ((N:Int)+2).toNat=N+2 by omega] at h
  simpa [Value.cells] using h
theorem ink_any (w:World) :
    Calls Tryz.prog 65 #[] w fun e w'=>e=.returned (.agg #[.int .i64 1099511627776,.int .i64 (-7),.int .i64 9])∧Below w.heap.size w w':=by
  go_enter Tryz.func65,Tryz.ntmps65
  go_wp2
  refine bodyPost_ret (v:=.agg #[.int .i64 1099511627776,.int .i64 (-7),.int .i64 9]) (by simp [results,Tryz.results65,go_sem]) rfl ⟨rfl,?_⟩
  (repeat any_goals first | exact .refl _ _ | assumption | refine .drew ?_ | refine below_drewN ?_ _ | refine .setCell ?_ ?_ _ | refine .alloc ?_ ?_ _ | omega | (simp <;> omega))
theorem mk_two (w:World):(Instr.makeSlice 125 (.int .i64 2) (.int .i64 2)).run Tryz.prog w=.ok (.slice (some ⟨w.heap.size,0,none⟩) 2 2) (w.alloc (.cells (madeCells #[.int .i64 0,.int .i64 0,.int .i64 0] 6) 129)):=by
  simpa using mk_inner 0 (by omega) w
def filled (l k:Nat) (X Y K:Nat→Int) (q:Nat):Value:=pc (fun j=>if j<k then lx l X j else 0) (fun j=>if j<k then ly l Y j else 0) (fun j=>if j<k then lk l K j else 0) q
theorem filled_step {w:World} {b m l j:Nat} {t:TypeId} {X Y K:Nat→Int} (h:w.rowIs b t (m*3) (filled l j X Y K)) {x y z:Int} (hx:x=lx l X j) (hy:y=ly l Y j) (hz:z=lk l K j) :
    (((w.setCell ⟨b,j*3,none⟩ (.int .i64 x)).setCell ⟨b,j*3+1,none⟩ (.int .i64 y)).setCell ⟨b,j*3+2,none⟩ (.int .i64 z)).rowIs b t (m*3) (filled l (j+1) X Y K):=by
  refine (row_setPt (X:=fun i=>if i<j then lx l X i else 0) (Y:=fun i=>if i<j then ly l Y i else 0) (K:=fun i=>if i<j then lk l K i else 0) h j x y z).congr fun q hq=>?_
  unfold filled
  refine pc_congr (m:=m) (fun i _=>?_) q hq
  by_cases e:i=j
  · subst e;simp [hx,hy,hz]
  · by_cases e2:i<j
    · simp [e,e2,show i<j+1 by omega]
    · simp [e,e2,show ¬i<j+1 by omega]
theorem filled_start (w:World) (l:Nat) (t:TypeId) (X Y K:Nat→Int):(w.alloc (.cells (madeCells #[.int .i64 0,.int .i64 0,.int .i64 0] ((l+2)*3)) t)).rowIs w.heap.size t ((l+2)*3) (filled l 0 X Y K):=by
  refine (row_made3 w (l+2) t).congr fun q hq=>?_
  unfold filled
  exact pc_congr (m:=l+2) (fun i _=>by simp) q hq
theorem filled_done {w:World} {b l:Nat} {t:TypeId} {X Y K:Nat→Int} (h:w.rowIs b t ((l+2)*3) (filled l (l+2) X Y K)):w.rowIs b t ((l+2)*3) (pc (lx l X) (ly l Y) (lk l K)):=by
  refine h.congr fun q hq=>?_
  unfold filled
  exact pc_congr (m:=l+2) (fun i hi=>by simp [hi]) q hq
theorem lend_step {S N k l:Nat} {n B:Nat→Nat} {X Y K:Nat→Nat→Int} {wo wr:World} (hk:k<N+2) (hl:ln N n k=l)
    (hrow:wo.rowIs S 125 (N+2) (fun i=>if i<k then .slice (some ⟨B i,0,none⟩) (ln N n i) (ln N n i+2) else .slice none 0 0))
    (h3:(∀i,i<k→S≤B i)∧(∀i j,i<k→j<k→B i=B j→i=j)∧(∀i,i<k→wo.rowIs (B i) 129 ((ln N n i+2)*3) (pc (lx (ln N n i) (X i)) (ly (ln N n i) (Y i)) (lk (ln N n i) (K i)))))
    (hbq:Below wo.heap.size wo wr) (hq:wr.rowIs wo.heap.size 129 ((l+2)*3) (pc (lx l (X k)) (ly l (Y k)) (lk l (K k)))) :
    ∃B':Nat→Nat,(wr.setCell ⟨S,k,none⟩ (.slice (some ⟨wo.heap.size,0,none⟩) l (l+2))).rowIs S 125 (N+2) (fun i=>if i<k+1 then .slice (some ⟨B' i,0,none⟩) (ln N n i) (ln N n i+2) else .slice none 0 0) ∧
      (∀i,i<k+1→S≤B' i)∧(∀i j,i<k+1→j<k+1→B' i=B' j→i=j) ∧
      (∀i,i<k+1→(wr.setCell ⟨S,k,none⟩ (.slice (some ⟨wo.heap.size,0,none⟩) l (l+2))).rowIs (B' i) 129 ((ln N n i+2)*3) (pc (lx (ln N n i) (X i)) (ly (ln N n i) (Y i)) (lk (ln N n i) (K i)))):=by
  obtain ⟨hge,hinj,hin⟩:=h3
  have hS:=hrow.lt
  refine ⟨fun i=>if i=k then wo.heap.size else B i,?_,?_,?_,?_⟩
  · refine ((row_below hrow hbq hS).set k _).congr fun i hi=>?_
    by_cases e:i=k
    · subst e;simp [hl]
    · by_cases e2:i<k
      · simp [e,e2,show i<k+1 by omega]
      · simp [e,e2,show ¬i<k+1 by omega]
  · intro i hi
    by_cases e:i=k
    · simp [e];omega
    · simp [e];exact hge i (by omega)
  · intro i j hi hj
    by_cases e:i=k <;> by_cases e':j=k
    · intro;omega
    · simp [e,e'];intro h;have:=(hin j (by omega)).lt;omega
    · simp [e,e'];intro h;have:=(hin i (by omega)).lt;omega
    · simp [e,e'];exact hinj i j (by omega) (by omega)
  · intro i hi
    by_cases e:i=k
    · subst e
      simp only [if_pos,hl]
      exact hq.setOther (by simp;omega) _
    · simp only [if_neg e]
      have h:=hin i (by omega)
      exact (row_below h hbq h.lt).setOther (by simpa using row_ne h hrow (by decide)) _
theorem lend_any (a:Option Addr) (N c:Nat) (A:Nat→Option Addr) (C n:Nat→Nat) (X Y K:Nat→Nat→Int) (w:World) (hN:N≤4294967295) (hn:∀i,i<N→n i≤4294967295) (ho:OutAt w a N A C n X Y K) :
    Calls Tryz.prog 22 #[.slice a N c] w fun e w'=>e=.returned (.slice (some ⟨w.heap.size,0,none⟩) N (N+2))∧Below w.heap.size w w'∧∃B,Lent w' w.heap.size w.heap.size N B n X Y K:=by
  have HN:=hide hn
  have HO:=hide ho
  clear hn ho
  have hmk:=mk_outer N (by omega)
  go_enter Tryz.func22,Tryz.ntmps22
  go_wp2_with fail
  go_loopw [4] (fun i wr=>∃k:Nat,k≤N+2∧i=.int .i64 k∧Below w.heap.size w wr∧∃B:Nat→Nat,wr.rowIs w.heap.size 125 (N+2) (fun i=>if i<k then .slice (some ⟨B i,0,none⟩) (ln N n i) (ln N n i+2) else .slice none 0 0) ∧
      (∀i,i<k→w.heap.size≤B i)∧(∀i j,i<k→j<k→B i=B j→i=j)∧(∀i,i<k→wr.rowIs (B i) 129 ((ln N n i+2)*3) (pc (lx (ln N n i) (X i)) (ly (ln N n i) (Y i)) (lk (ln N n i) (K i))))) (fun i _=>N+2-(intOf i).toNat)
  case atStart=>
    refine ⟨0,by omega,rfl,by (repeat any_goals first | exact .refl _ _ | assumption | refine .drew ?_ | refine below_drewN ?_ _ | refine .setCell ?_ ?_ _ | refine .alloc ?_ ?_ _ | omega | (simp <;> omega)),fun _=>0,?_,by omega,by omega,by omega⟩
    exact (World.rowIs_made w (.slice none 0 0) (N+2) 125).congr (fun i _=>by simp)
  case round=>
    obtain ⟨wo,rfl⟩:∃wo,wo=wr:=⟨wr,rfl⟩
    obtain ⟨k,hk,rfl,hb,B,hrow,hge,hinj,hin⟩:=hrel
    have HB:=hide (And.intro hge (And.intro hinj hin))
    clear hge hinj hin
    have hsz:=hb.size
    have hsz2:w.heap.size<wo.heap.size:=hrow.lt
    by_cases hlt:k<N+2
    · have HO2:=hide (HO.out.below hb)
      have hd1:decide ((k:Int)<(N:Int)+2)=true:=by simp;omega
      by_cases hkN:k<N
      · rcases HO2.out.1 with h | ⟨b,off,rfl,hc⟩
        · omega
        have ci:=hc k hkN
        have hbl:b<wo.heap.size:=World.block_lt_of_cell? wo _ ci
        clear hc
        have hnk:=HN.out k hkN
        have hmi:=mk_inner (n k) (by omega)
        have hln:ln N n k=n k:=by unfold ln;rw [if_pos hkN]
        go_wp2_with fail
        go_loopw [7] (fun i wr=>∃j:Nat,j≤n k+2∧i=.int .i64 j∧wo.heap.size<wr.heap.size∧Below wo.heap.size wo wr∧wr.rowIs wo.heap.size 129 ((n k+2)*3) (filled (n k) j (X k) (Y k) (K k))) (fun i _=>n k+2-(intOf i).toNat)
        case atStart=>exact ⟨0,by omega,rfl,by simp,by (repeat any_goals first | exact .refl _ _ | assumption | refine .drew ?_ | refine below_drewN ?_ _ | refine .setCell ?_ ?_ _ | refine .alloc ?_ ?_ _ | omega | (simp <;> omega)),filled_start _ _ _ _ _ _⟩
        case round=>
          obtain ⟨j,hj,rfl,hsq,hbq,hrq⟩:=hrel
          have z0:=hrq.frozen (j*3)
          have z1:=hrq.frozen (j*3+1)
          have z2:=hrq.frozen (j*3+2)
          by_cases hj2:j<n k+2
          · obtain ⟨q0,q1,q2⟩:=row_cells (X:=fun i=>if i<j then lx (n k) (X k) i else 0) (Y:=fun i=>if i<j then ly (n k) (Y k) i else 0) (K:=fun i=>if i<j then lk (n k) (K k) i else 0) hrq j hj2
            have HQ:=hide hrq
            clear hrq
            have hd2:decide ((j:Int)<(n k:Int)+2)=true:=by simp;omega
            have ci2:wr.cell? ⟨b,off+k,none⟩=some (.slice (A k) (n k) (C k)):=(hbq.cell (p:=⟨b,_,none⟩) hbl).trans ci
            by_cases hjn:j<n k
            · rcases HO2.out.2 k hkN with h | ⟨b2,off2,ha,hc2⟩
              · omega
              rw [ha] at ci2
              obtain ⟨d0,d1,d2⟩:=hc2 j hjn
              have hbl2:b2<wo.heap.size:=World.block_lt_of_cell? wo _ d0
              have d0':=(hbq.cell (p:=⟨b2,_,none⟩) hbl2).trans d0
              have d1':=(hbq.cell (p:=⟨b2,_,none⟩) hbl2).trans d1
              have d2':=(hbq.cell (p:=⟨b2,_,none⟩) hbl2).trans d2
              clear hc2 ha d0 d1 d2
              go_wp2
              go_roundw
              case rel=>exact ⟨j+1,by omega,by go_num,by simpa using hsq,by (repeat any_goals first | exact .refl _ _ | assumption | refine .drew ?_ | refine below_drewN ?_ _ | refine .setCell ?_ ?_ _ | refine .alloc ?_ ?_ _ | omega | (simp <;> omega)),filled_step HQ.out (by simp [lx,hjn]) (by simp [ly,hjn]) (by simp [lk,hjn])⟩
              case measure=>simp [intOf];omega
            · go_wp2_with fail
              refine (ink_any _).mono ?_
              rintro e w1 ⟨rfl,hb1⟩
              obtain ⟨hc1,hf1⟩:=bcell hb1
              have hsz1:=hb1.size
              have g0:=(hc1 wo.heap.size (j*3) (by omega)).trans q0
              have g1:=(hc1 wo.heap.size (j*3+1) (by omega)).trans q1
              have g2:=(hc1 wo.heap.size (j*3+2) (by omega)).trans q2
              have y0:=(hf1 wo.heap.size (j*3) (by omega)).trans z0
              have y1:=(hf1 wo.heap.size (j*3+1) (by omega)).trans z1
              have y2:=(hf1 wo.heap.size (j*3+2) (by omega)).trans z2
              have HQ1:=hide (row_below HQ.out hb1 (by omega))
              have hb2:Below wo.heap.size wo w1:=hbq.trans (hb1.mono (by omega))
              clear hc1 hf1 hb1 hbq q0 q1 q2 z0 z1 z2 ci2
              go_wp2
              go_roundw
              case rel=>exact ⟨j+1,by omega,by go_num,by simp;omega,by (repeat any_goals first | exact .refl _ _ | assumption | refine .drew ?_ | refine below_drewN ?_ _ | refine .setCell ?_ ?_ _ | refine .alloc ?_ ?_ _ | omega | (simp <;> omega)),filled_step HQ1.out (by simp [lx,hjn]) (by simp [ly,hjn]) (by simp [lk,hjn])⟩
              case measure=>simp [intOf];omega
          · have e:j=n k+2:=by omega
            subst e
            have HQ:=hide (filled_done hrq)
            clear hrq z0 z1 z2
            have hrow2:=row_below hrow hbq (by omega)
            have o0:=hrow2.cell (i:=k) hlt
            have o1:=hrow2.frozen k
            have HR:=hide (lend_step hlt hln hrow HB.out hbq HQ.out)
            have hb5:Below w.heap.size w wr:=hb.trans (hbq.mono (by omega))
            clear hrow2 hrow hbq
            go_wp2
            go_roundw
            case rel=>exact ⟨k+1,by omega,by go_num,by (repeat any_goals first | exact .refl _ _ | assumption | refine .drew ?_ | refine below_drewN ?_ _ | refine .setCell ?_ ?_ _ | refine .alloc ?_ ?_ _ | omega | (simp <;> omega)),HR.out⟩
            case measure=>simp [intOf];omega
      · have hln:ln N n k=0:=by unfold ln;rw [if_neg hkN]
        have hmi:=mk_two
        go_wp2_with fail
        go_loopw [7] (fun i wr=>∃j:Nat,j≤2∧i=.int .i64 j∧wo.heap.size<wr.heap.size∧Below wo.heap.size wo wr∧wr.rowIs wo.heap.size 129 ((0+2)*3) (filled 0 j (X k) (Y k) (K k))) (fun i _=>2-(intOf i).toNat)
        case atStart=>exact ⟨0,by omega,rfl,by simp,by (repeat any_goals first | exact .refl _ _ | assumption | refine .drew ?_ | refine below_drewN ?_ _ | refine .setCell ?_ ?_ _ | refine .alloc ?_ ?_ _ | omega | (simp <;> omega)),filled_start _ 0 _ _ _ _⟩
        case round=>
          obtain ⟨j,hj,rfl,hsq,hbq,hrq⟩:=hrel
          have z0:=hrq.frozen (j*3)
          have z1:=hrq.frozen (j*3+1)
          have z2:=hrq.frozen (j*3+2)
          by_cases hj2:j<2
          · obtain ⟨q0,q1,q2⟩:=row_cells (X:=fun i=>if i<j then lx 0 (X k) i else 0) (Y:=fun i=>if i<j then ly 0 (Y k) i else 0) (K:=fun i=>if i<j then lk 0 (K k) i else 0) hrq j hj2
            have HQ:=hide hrq
            clear hrq
            have hd2:decide ((j:Int)<2)=true:=by simp;omega
            have hd3:decide ((j:Int)<0)=false:=by simp
            go_wp2_with fail
            refine (ink_any _).mono ?_
            rintro e w1 ⟨rfl,hb1⟩
            obtain ⟨hc1,hf1⟩:=bcell hb1
            have hsz1:=hb1.size
            have g0:=(hc1 wo.heap.size (j*3) (by omega)).trans q0
            have g1:=(hc1 wo.heap.size (j*3+1) (by omega)).trans q1
            have g2:=(hc1 wo.heap.size (j*3+2) (by omega)).trans q2
            have y0:=(hf1 wo.heap.size (j*3) (by omega)).trans z0
            have y1:=(hf1 wo.heap.size (j*3+1) (by omega)).trans z1
            have y2:=(hf1 wo.heap.size (j*3+2) (by omega)).trans z2
            have HQ1:=hide (row_below HQ.out hb1 (by omega))
            have hb2:Below wo.heap.size wo w1:=hbq.trans (hb1.mono (by omega))
            clear hc1 hf1 hb1 hbq q0 q1 q2 z0 z1 z2
            go_wp2
            go_roundw
            case rel=>exact ⟨j+1,by omega,by go_num,by simp;omega,by (repeat any_goals first | exact .refl _ _ | assumption | refine .drew ?_ | refine below_drewN ?_ _ | refine .setCell ?_ ?_ _ | refine .alloc ?_ ?_ _ | omega | (simp <;> omega)),filled_step HQ1.out (by simp [lx]) (by simp [ly]) (by simp [lk])⟩
            case measure=>simp [intOf];omega
          · have e:j=2:=by omega
            subst e
            have HQ:=hide (filled_done (l:=0) hrq)
            clear hrq z0 z1 z2
            have hrow2:=row_below hrow hbq (by omega)
            have o0:=hrow2.cell (i:=k) hlt
            have o1:=hrow2.frozen k
            have HR:=hide (lend_step hlt hln hrow HB.out hbq HQ.out)
            have hb5:Below w.heap.size w wr:=hb.trans (hbq.mono (by omega))
            clear hrow2 hrow hbq
            go_wp2
            go_roundw
            case rel=>exact ⟨k+1,by omega,by go_num,by (repeat any_goals first | exact .refl _ _ | assumption | refine .drew ?_ | refine below_drewN ?_ _ | refine .setCell ?_ ?_ _ | refine .alloc ?_ ?_ _ | omega | (simp <;> omega)),HR.out⟩
            case measure=>simp [intOf];omega
    · have e:k=N+2:=by omega
      subst e
      obtain ⟨hge,hinj,hin⟩:=HB.out
      have HL:Hid (Lent wo w.heap.size w.heap.size N B n X Y K):=⟨hrow.congr (fun i hi=>by simp [hi]),Nat.le_refl _,hge,hinj,hin⟩
      clear hge hinj hin hrow
      go_wp2
      go_ret
      exact ⟨rfl,hb,B,HL.out⟩
def ptC (p:Int×Int×Int):List Value:=[.int .i64 p.1,.int .i64 p.2.1,.int .i64 p.2.2]
def impU (X Y K:Nat→Int) (n k:Nat):List (Int×Int×Int):=(List.range k).flatMap (Num.impF X Y K n)
theorem impU_succ (X Y K:Nat→Int) (n k:Nat):impU X Y K n (k+1)=impU X Y K n k++Num.impF X Y K n k:=by
  unfold impU;rw [List.range_succ,List.flatMap_append];simp
theorem impU_len (X Y K:Nat→Int) (n k:Nat):(impU X Y K n k).length≤2*k:=Num.imp_length k
theorem push_pt {w:World} {base:Nat} {v:Value} {l l':List (Int×Int×Int)} {p:Int×Int×Int} {m:Nat} (h:w.ownsRow base 129 3 v m (l.flatMap ptC++[.int .i64 p.1,.int .i64 p.2.1,.int .i64 p.2.2])) (hl:l'=l++[p]) (hm:m=l.length+1):w.ownsRow base 129 3 v l'.length (l'.flatMap ptC):=by
  have e1:l'.length=m:=by rw [hl,hm];simp
  have e2:l'.flatMap ptC=l.flatMap ptC++[.int .i64 p.1,.int .i64 p.2.1,.int .i64 p.2.2]:=by rw [hl];simp [ptC]
  rw [e1,e2];exact h
theorem owns_ne_new {w:World} {base:Nat} {t:TypeId} {sz:Nat} {v:Value} {n:Nat} {xs:List Value} (h:w.ownsRow base t sz v n xs) {b:Nat} (hb:w.heap.size≤b):some b≠v.ownBlock:=fun e=>by
  have:=(h.lt b e.symm).2;omega
theorem news_new (W:World) (cs:List Value) (t:TypeId) (H:Nat) (hH:W.heap.size=H):∀(j:Nat) (u:Value),cs[j]? = some u→(W.alloc (.cells cs.toArray t)).cell? ((⟨H,0,none⟩:Addr).add j)=some u:=by
  intro j u hj
  subst hH
  have e2:((⟨W.heap.size,0,none⟩:Addr).add j)=⟨W.heap.size,j,none⟩:=by
    unfold Addr.add
    split
    · rename_i h;simp_all
    · simp
  have hlt:j<cs.length:=by
    rcases Nat.lt_or_ge j cs.length with h | h
    · exact h
    · rw [List.getElem?_eq_none h] at hj;cases hj
  have hr:=(World.rowIs_alloc W cs.toArray t (fun i=>cs[i]?.getD u) (fun i hi=>by simp at hi;simp [hi])).cell (i:=j) (by simpa using hlt)
  rw [e2,hr]
  simp [hj]
theorem one_ints (a b c:Int):∀u∈[Value.int .i64 a,.int .i64 b,.int .i64 c],u.oneCell'=true:=by
  intro u hu
  simp at hu
  rcases hu with rfl | rfl | rfl <;> rfl
theorem impF_no {X Y K:Nat→Int} {n k:Nat} (h:¬(K k=1∧K (Num.nx n k)=1)):Num.impF X Y K n k=[(2*X k,2*Y k,K k)]:=by unfold Num.impF;rw [if_neg h]
theorem impF_yes {X Y K:Nat→Int} {n k:Nat} (h:K k=1∧K (Num.nx n k)=1):Num.impF X Y K n k=[(2*X k,2*Y k,K k)]++[(X k+X (Num.nx n k),Y k+Y (Num.nx n k),0)]:=by unfold Num.impF;rw [if_pos h];rfl
set_option maxRecDepth 100000 in
theorem withImplied_any (a:Option Addr) (n c:Nat) (X Y K:Nat→Int) (w:World) (hn:n≤2097152) (hX:∀i,i<n → -4096≤X i∧X i≤4096) (hY:∀i,i<n → -4096≤Y i∧Y i≤4096) (hr:RingAt w a n X Y K) :
    Calls Tryz.prog 180 #[.slice a n c] w fun e w'=>∃v,e=.returned v∧Below w.heap.size w w'∧w'.ownsRow w.heap.size 129 3 v (impU X Y K n n).length ((impU X Y K n n).flatMap ptC):=by
  have HR:=hide hr
  have HX:=hide hX
  have HY:=hide hY
  clear hr hX hY
  obtain ⟨i0,hi0,hz0,hz1,hz2⟩:=info_parts info_pt
  go_enter Tryz.func180,Tryz.ntmps180
  go_wp2_with fail
  go_loopw [3,9] (fun v t wr=>∃k:Nat,k≤n∧t=.int .i64 k∧Below w.heap.size w wr∧wr.ownsRow w.heap.size 129 3 v (impU X Y K n k).length ((impU X Y K n k).flatMap ptC)) (fun _ t _=>n-(intOf t).toNat)
  case atStart=>exact ⟨0,by omega,rfl,Below.refl _ _,World.ownsRow_nil _ _ _ _⟩
  case round=>
    obtain ⟨v,rfl⟩:∃v,v=u3:=⟨_,rfl⟩
    obtain ⟨k,hk,rfl,hb,hown⟩:=hrel
    have hsz:=hb.size
    have hlen:=impU_len X Y K n k
    by_cases hlt:k<n
    · have hd1:decide ((k:Int)<(n:Int))=true:=by simp;omega
      rcases HR.out with h | ⟨b,off,rfl,hc⟩
      · omega
      obtain ⟨bX,bX'⟩:=HX.out k hlt
      obtain ⟨bY,bY'⟩:=HY.out k hlt
      have hbl:b<w.heap.size:=World.block_lt_of_cell? w _ (hc k hlt).1
      have hcr:∀j,j<n→wr.cell? ⟨b,off+j*3,none⟩=some (.int .i64 (X j))∧wr.cell? ⟨b,off+j*3+1,none⟩=some (.int .i64 (Y j))∧wr.cell? ⟨b,off+j*3+2,none⟩=some (.int .i64 (K j)):=fun j hj=>by
        obtain ⟨u0,u1,u2⟩:=hc j hj
        exact ⟨(hb.cell (p:=⟨b,_,none⟩) hbl).trans u0,(hb.cell (p:=⟨b,_,none⟩) hbl).trans u1,(hb.cell (p:=⟨b,_,none⟩) hbl).trans u2⟩
      obtain ⟨d0,d1,d2⟩:=hcr k hlt
      have HC:=hide hc
      clear hc hcr
      have hbw:b<wr.heap.size:=by omega
      obtain ⟨L,hL⟩:∃L,L=impU X Y K n k:=⟨_,rfl⟩
      rw [←hL] at hown hlen
      obtain ⟨ln,hln⟩:∃ln,ln=L.length:=⟨_,rfl⟩
      obtain ⟨xs,hxs⟩:∃xs,xs=L.flatMap ptC:=⟨_,rfl⟩
      rw [←hln,←hxs] at hown
      rw [←hln] at hlen
      have HL:=hide hL
      have HLn:=hide hln
      have Hxs:=hide hxs
      clear hL hln hxs
      go_wp2_with (at_builtin;refine wpList_append_lies _ rfl _ _ 125 rfl w.heap.size 129 i0 (.agg #[.int .i64 0,.int .i64 0,.int .i64 0]) 3 24 Tryz.underlying125 hi0 hz0 hz1 hz2 rfl (by omega) v ln xs rfl ((hown.alloc _).alloc _) ⟨wr.heap.size+1,0,none⟩ 1 1 [.int .i64 (2*X k),.int .i64 (2*Y k),.int .i64 (K k)] rfl rfl ?c1 ?c2 (by omega) ?c3 ?c4 ?c5 (wr.heap.size+1+1) (by simp) ?_)
      case c1=>exact news_new (wr.alloc _) [.int .i64 (2*X k),.int .i64 (2*Y k),.int .i64 (K k)] _ _ (by simp)
      case c2=>exact one_ints _ _ _
      case c3=>unfold maxLen;omega
      case c4=>omega
      case c5=>simp;omega
      intro g cap w1 hown1 hgrow hat hlt1
      have hb1:Below w.heap.size w w1:=((hb.alloc (by omega) _).alloc (by simp;omega) _).grown hgrow (by simp;omega) (fun q hq=>(hown.lt q hq).1)
      have hs1:wr.heap.size+1<w1.heap.size:=by have:=hgrow.size;simp at this;omega
      have hne:some wr.heap.size≠v.ownBlock:=owns_ne_new hown (Nat.le_refl _)
      have p0:w1.cell? ⟨wr.heap.size,0,none⟩=some (.int .i64 (X k)):=(hgrow.cell_far ⟨wr.heap.size,0,none⟩ (by simp;omega) hne).trans (by go_simp)
      have p1:w1.cell? ⟨wr.heap.size,1,none⟩=some (.int .i64 (Y k)):=(hgrow.cell_far ⟨wr.heap.size,1,none⟩ (by simp;omega) hne).trans (by go_simp)
      have p2:w1.cell? ⟨wr.heap.size,2,none⟩=some (.int .i64 (K k)):=(hgrow.cell_far ⟨wr.heap.size,2,none⟩ (by simp;omega) hne).trans (by go_simp)
      have hcr:∀j,j<n→w1.cell? ⟨b,off+j*3,none⟩=some (.int .i64 (X j))∧w1.cell? ⟨b,off+j*3+1,none⟩=some (.int .i64 (Y j))∧w1.cell? ⟨b,off+j*3+2,none⟩=some (.int .i64 (K j)):=fun j hj=>by
        obtain ⟨u0,u1,u2⟩:=HC.out j hj
        exact ⟨(hb1.cell (p:=⟨b,_,none⟩) hbl).trans u0,(hb1.cell (p:=⟨b,_,none⟩) hbl).trans u1,(hb1.cell (p:=⟨b,_,none⟩) hbl).trans u2⟩
      have hO1:w1.ownsRow w.heap.size 129 3 (.slice (some ⟨g,0,none⟩) (ln+1) cap) (L++[(2*X k,2*Y k,K k)]).length ((L++[(2*X k,2*Y k,K k)]).flatMap ptC):=
        push_pt (by rw [←Hxs.out];exact hown1) rfl (by rw [HLn.out])
      have HO1:=hide hO1
      have HXF:Hid ((L++[(2*X k,2*Y k,K k)]).flatMap ptC=xs++[.int .i64 (2*X k),.int .i64 (2*Y k),.int .i64 (K k)]):=by unfold Hid;rw [Hxs.out];simp [ptC]
      obtain ⟨e0,e1,e2⟩:=hcr 0 (by omega)
      simp only [Nat.zero_mul,Nat.add_zero] at e0 e1 e2
      have hsucc:impU X Y K n (k+1)=L++Num.impF X Y K n k:=by rw [HL.out];exact impU_succ _ _ _ _ _
      have HSu:=hide hsucc
      have hbw1:b<w1.heap.size:=by omega
      have hbs1:w.heap.size≤w1.heap.size:=hb1.size
      have hwr1:wr.heap.size<w1.heap.size:=by omega
      clear hgrow hat hne hO1 hown hb hsucc d0 d1 d2
      by_cases hl2:k+1<n
      · obtain ⟨f0,f1,f2⟩:=hcr (k+1) hl2
        have hnx:Num.nx n k=k+1:=by unfold Num.nx;rw [if_pos hl2]
        have HNx:=hide hnx
        obtain ⟨cX,cX'⟩:=HX.out (k+1) (by omega)
        obtain ⟨cY,cY'⟩:=HY.out (k+1) (by omega)
        clear hcr hnx
        by_cases hq:K k=1∧K (k+1)=1
        · obtain ⟨q1,q2⟩:=hq
          have t1:(K k == 1)=true:=by simp [q1]
          have t2:(K (k+1) == 1)=true:=by simp [q2]
          have HF:=hide (impF_yes (X:=X) (Y:=Y) (n:=n) (k:=k) ⟨q1,by rw [HNx.out];exact q2⟩)
          clear q1 q2
          go_wp2_with (at_builtin;refine wpList_append_lies _ rfl _ _ 125 rfl w.heap.size 129 i0 (.agg #[.int .i64 0,.int .i64 0,.int .i64 0]) 3 24 Tryz.underlying125 hi0 hz0 hz1 hz2 rfl (by omega) _ (ln+1) _ rfl ((hown1.alloc _).alloc _) ⟨w1.heap.size+1,0,none⟩ 1 1 [.int .i64 (X k+X (k+1)),.int .i64 (Y k+Y (k+1)),.int .i64 0] rfl rfl ?m1 ?m2 (by omega) ?m3 ?m4 ?m5 (w1.heap.size+1+1) (by simp) ?_)
          case m1=>exact news_new (w1.alloc _) [.int .i64 (X k+X (k+1)),.int .i64 (Y k+Y (k+1)),.int .i64 0] _ _ (by simp)
          case m2=>exact one_ints _ _ _
          case m3=>unfold maxLen;omega
          case m4=>omega
          case m5=>simp;omega
          intro g2 cap2 w2 hown2 hgrow2 hat2 hlt2
          have hb2:Below w.heap.size w w2:=((hb1.alloc (by omega) _).alloc (by simp;omega) _).grown hgrow2 (by simp;omega) (fun q hq=>(hown1.lt q hq).1)
          have HO2:Hid (w2.ownsRow w.heap.size 129 3 (.slice (some ⟨g2,0,none⟩) (ln+1+1) cap2) (impU X Y K n (k+1)).length ((impU X Y K n (k+1)).flatMap ptC)):=
            push_pt (l:=L++[(2*X k,2*Y k,K k)]) (p:=(X k+X (k+1),Y k+Y (k+1),0)) (by rw [HXF.out];simpa using hown2) (by rw [HSu.out,HF.out,HNx.out,List.append_assoc]) (by rw [HLn.out];simp)
          clear hown2 hgrow2 hat2 hown1 hb1
          go_wp2
          go_roundw
          case rel=>exact ⟨k+1,by omega,by go_num,hb2,HO2.out⟩
          case measure=>simp [intOf];omega
        · have HF:=hide (impF_no (X:=X) (Y:=Y) (n:=n) (k:=k) (by rw [HNx.out];exact hq))
          have HE:Hid (w1.ownsRow w.heap.size 129 3 (.slice (some ⟨g,0,none⟩) (ln+1) cap) (impU X Y K n (k+1)).length ((impU X Y K n (k+1)).flatMap ptC)):=by
            unfold Hid;rw [HSu.out,HF.out];exact HO1.out
          by_cases q1:K k=1
          · have t1:(K k == 1)=true:=by simp [q1]
            have t2:(K (k+1) == 1)=false:=by simp;intro h;exact hq ⟨q1,h⟩
            clear q1 hq
            go_wp2
            go_roundw
            case rel=>exact ⟨k+1,by omega,by go_num,by (repeat any_goals first | exact .refl _ _ | assumption | refine .drew ?_ | refine below_drewN ?_ _ | refine .setCell ?_ ?_ _ | refine .alloc ?_ ?_ _ | omega | (simp <;> omega)),HE.out.alloc _⟩
            case measure=>simp [intOf];omega
          · have t1:(K k == 1)=false:=by simp [q1]
            clear q1 hq
            go_wp2
            go_roundw
            case rel=>exact ⟨k+1,by omega,by go_num,by (repeat any_goals first | exact .refl _ _ | assumption | refine .drew ?_ | refine below_drewN ?_ _ | refine .setCell ?_ ?_ _ | refine .alloc ?_ ?_ _ | omega | (simp <;> omega)),HE.out.alloc _⟩
            case measure=>simp [intOf];omega
      · have hl3:¬(k:Int)+1<(n:Int):=by omega
        have hnx:Num.nx n k=0:=by unfold Num.nx;rw [if_neg hl2]
        have HNx:=hide hnx
        obtain ⟨cX,cX'⟩:=HX.out (0) (by omega)
        obtain ⟨cY,cY'⟩:=HY.out (0) (by omega)
        clear hcr hnx
        by_cases hq:K k=1∧K 0=1
        · obtain ⟨q1,q2⟩:=hq
          have t1:(K k == 1)=true:=by simp [q1]
          have t2:(K 0 == 1)=true:=by simp [q2]
          have HF:=hide (impF_yes (X:=X) (Y:=Y) (n:=n) (k:=k) ⟨q1,by rw [HNx.out];exact q2⟩)
          clear q1 q2
          go_wp2_with (at_builtin;refine wpList_append_lies _ rfl _ _ 125 rfl w.heap.size 129 i0 (.agg #[.int .i64 0,.int .i64 0,.int .i64 0]) 3 24 Tryz.underlying125 hi0 hz0 hz1 hz2 rfl (by omega) _ (ln+1) _ rfl ((hown1.alloc _).alloc _) ⟨w1.heap.size+1,0,none⟩ 1 1 [.int .i64 (X k+X 0),.int .i64 (Y k+Y 0),.int .i64 0] rfl rfl ?s1 ?s2 (by omega) ?s3 ?s4 ?s5 (w1.heap.size+1+1) (by simp) ?_)
          try (case s1=>exact news_new (w1.alloc _) [.int .i64 (X k+X 0),.int .i64 (Y k+Y 0),.int .i64 0] _ _ (by simp))
          case s2=>first | exact one_ints _ _ _ | exact ⟨rfl,rfl,rfl⟩
          case s3=>unfold maxLen;omega
          case s4=>omega
          case s5=>first | omega | (simp;omega)
          intro g2 cap2 w2 hown2 hgrow2 hat2 hlt2
          have hb2:Below w.heap.size w w2:=((hb1.alloc (by omega) _).alloc (by simp;omega) _).grown hgrow2 (by simp;omega) (fun q hq=>(hown1.lt q hq).1)
          have HO2:Hid (w2.ownsRow w.heap.size 129 3 (.slice (some ⟨g2,0,none⟩) (ln+1+1) cap2) (impU X Y K n (k+1)).length ((impU X Y K n (k+1)).flatMap ptC)):=
            push_pt (l:=L++[(2*X k,2*Y k,K k)]) (p:=(X k+X 0,Y k+Y 0,0)) (by rw [HXF.out];simpa using hown2) (by rw [HSu.out,HF.out,HNx.out,List.append_assoc]) (by rw [HLn.out];simp)
          clear hown2 hgrow2 hat2 hown1 hb1
          go_wp2
          go_roundw
          case rel=>exact ⟨k+1,by omega,by go_num,hb2,HO2.out⟩
          case measure=>simp [intOf];omega
        · have HF:=hide (impF_no (X:=X) (Y:=Y) (n:=n) (k:=k) (by rw [HNx.out];exact hq))
          have HE:Hid (w1.ownsRow w.heap.size 129 3 (.slice (some ⟨g,0,none⟩) (ln+1) cap) (impU X Y K n (k+1)).length ((impU X Y K n (k+1)).flatMap ptC)):=by
            unfold Hid;rw [HSu.out,HF.out];exact HO1.out
          by_cases q1:K k=1
          · have t1:(K k == 1)=true:=by simp [q1]
            have t2:(K 0 == 1)=false:=by simp;intro h;exact hq ⟨q1,h⟩
            clear q1 hq
            go_wp2
            go_roundw
            case rel=>exact ⟨k+1,by omega,by go_num,by (repeat any_goals first | exact .refl _ _ | assumption | refine .drew ?_ | refine below_drewN ?_ _ | refine .setCell ?_ ?_ _ | refine .alloc ?_ ?_ _ | omega | (simp <;> omega)),HE.out.alloc _⟩
            case measure=>simp [intOf];omega
          · have t1:(K k == 1)=false:=by simp [q1]
            clear q1 hq
            go_wp2
            go_roundw
            case rel=>exact ⟨k+1,by omega,by go_num,by (repeat any_goals first | exact .refl _ _ | assumption | refine .drew ?_ | refine below_drewN ?_ _ | refine .setCell ?_ ?_ _ | refine .alloc ?_ ?_ _ | omega | (simp <;> omega)),HE.out.alloc _⟩
            case measure=>simp [intOf];omega
    · go_wp2
      go_ret
      have e:k=n:=by omega
      subst e
      exact ⟨v,rfl,hb,hown⟩
def sgC (g:Num.Sg):List Value:=[.int .i64 g.k,.int .i64 g.x0,.int .i64 g.y0,.int .i64 g.x1,.int .i64 g.y1,.int .i64 g.x2,.int .i64 g.y2,.int .i64 g.x3,.int .i64 g.y3]
def sgF (g:Num.Sg) (q:Nat):Value:=(sgC g)[q]?.getD undef
theorem spot_any (x y k:Int) (w:World) :
    Calls Tryz.prog 182 #[.agg #[.int .i64 x,.int .i64 y,.int .i64 k]] w fun e w'=>e=.returned (.agg #[.int .i64 x,.int .i64 y])∧w'=(w.alloc (.cells #[.int .i64 x,.int .i64 y,.int .i64 k] 129)).alloc (.cells #[.int .i64 x,.int .i64 y] 42):=by
  go_enter Tryz.func182,Tryz.ntmps182
  go_wp2
  exact bodyPost_ret (v:=.agg #[.int .i64 x,.int .i64 y]) (by simp [results,Tryz.results182,go_sem]) rfl ⟨rfl,rfl⟩
set_option maxRecDepth 100000 in
theorem withControl_any (g:Num.Sg) (p:Int×Int×Int) (w:World) :
    Calls Tryz.prog 183 #[.agg #[.int .i64 g.k,.int .i64 g.x0,.int .i64 g.y0,.int .i64 g.x1,.int .i64 g.y1,.int .i64 g.x2,.int .i64 g.y2,.int .i64 g.x3,.int .i64 g.y3],.agg #[.int .i64 p.1,.int .i64 p.2.1,.int .i64 p.2.2]] w fun e w'=>e=.returned (.agg #[.int .i64 (Num.addP g p).k,.int .i64 (Num.addP g p).x0,.int .i64 (Num.addP g p).y0,.int .i64 (Num.addP g p).x1,.int .i64 (Num.addP g p).y1,.int .i64 (Num.addP g p).x2,.int .i64 (Num.addP g p).y2,.int .i64 (Num.addP g p).x3,.int .i64 (Num.addP g p).y3])∧Below w.heap.size w w':=by
  obtain ⟨k,x0,y0,x1,y1,x2,y2,x3,y3⟩:=g
  obtain ⟨px,py,pk⟩:=p
  by_cases h0:k=0
  · have e:Num.addP ⟨k,x0,y0,x1,y1,x2,y2,x3,y3⟩ (px,py,pk)=⟨pk,x0,y0,px,py,x2,y2,x3,y3⟩:=by simp [Num.addP,h0]
    rw [e]
    clear e
    have hb:(k == 0)=true:=by simp [h0]
    clear h0
    go_enter Tryz.func183,Tryz.ntmps183
    go_wp2_with (go_at_call 182;refine (spot_any _ _ _ _).mono ?_;rintro e w' ⟨rfl,rfl⟩)
    refine bodyPost_ret (v:=.agg #[.int .i64 pk,.int .i64 x0,.int .i64 y0,.int .i64 px,.int .i64 py,.int .i64 x2,.int .i64 y2,.int .i64 x3,.int .i64 y3]) (by simp [results,Tryz.results183,go_sem]) rfl ⟨rfl,?_⟩
    (repeat any_goals first | exact .refl _ _ | assumption | refine .drew ?_ | refine below_drewN ?_ _ | refine .setCell ?_ ?_ _ | refine .alloc ?_ ?_ _ | omega | (simp <;> omega))
  · have e:Num.addP ⟨k,x0,y0,x1,y1,x2,y2,x3,y3⟩ (px,py,pk)=⟨k,x0,y0,x1,y1,px,py,x3,y3⟩:=by simp [Num.addP,h0]
    rw [e]
    clear e
    have hb:(k == 0)=false:=by simp [h0]
    clear h0
    go_enter Tryz.func183,Tryz.ntmps183
    go_wp2_with (go_at_call 182;refine (spot_any _ _ _ _).mono ?_;rintro e w' ⟨rfl,rfl⟩)
    refine bodyPost_ret (v:=.agg #[.int .i64 k,.int .i64 x0,.int .i64 y0,.int .i64 x1,.int .i64 y1,.int .i64 px,.int .i64 py,.int .i64 x3,.int .i64 y3]) (by simp [results,Tryz.results183,go_sem]) rfl ⟨rfl,?_⟩
    (repeat any_goals first | exact .refl _ _ | assumption | refine .drew ?_ | refine below_drewN ?_ _ | refine .setCell ?_ ?_ _ | refine .alloc ?_ ?_ _ | omega | (simp <;> omega))
theorem firstOn_any (a:Option Addr) (n c:Nat) (X Y K:Nat→Int) (w:World) (hn:n≤4294967296) (hr:RingAt w a n X Y K) :
    Calls Tryz.prog 181 #[.slice a n c] w fun e w'=>e=.returned (.int .i64 (Num.firstI (fun j=>K j == 0) n))∧Below w.heap.size w w':=by
  have HR:=hide hr
  clear hr
  go_enter Tryz.func181,Tryz.ntmps181
  go_wp2_with fail
  go_loopw [7] (fun i wr=>∃k:Nat,k≤n∧i=.int .i64 k∧Below w.heap.size w wr∧∀j,j<k→(K j == 0)=false) (fun i _=>n-(intOf i).toNat)
  case atStart=>exact ⟨0,by omega,rfl,Below.refl _ _,by omega⟩
  case round=>
    obtain ⟨k,hk,rfl,hb,hno⟩:=hrel
    have hsz:=hb.size
    have HN:=hide hno
    clear hno
    by_cases hlt:k<n
    · rcases HR.out.below hb with h | ⟨b,off,rfl,hc⟩
      · omega
      obtain ⟨c0,c1,c2⟩:=hc k hlt
      clear hc
      cases hz:(K k == 0)
      · go_wp2
        go_roundw
        case rel=>
          refine ⟨k+1,by omega,by go_num,by (repeat any_goals first | exact .refl _ _ | assumption | refine .drew ?_ | refine below_drewN ?_ _ | refine .setCell ?_ ?_ _ | refine .alloc ?_ ?_ _ | omega | (simp <;> omega)),fun j hj=>?_⟩
          by_cases ej:j=k
          · subst ej;exact hz
          · exact HN.out j (by omega)
        case measure=>simp [intOf];omega
      · go_wp2
        go_ret
        exact ⟨ret_int (Num.firstI_hit _ _ _ hlt hz HN.out).symm,by (repeat any_goals first | exact .refl _ _ | assumption | refine .drew ?_ | refine below_drewN ?_ _ | refine .setCell ?_ ?_ _ | refine .alloc ?_ ?_ _ | omega | (simp <;> omega))⟩
    · go_wp2
      go_ret
      have e:k=n:=by omega
      subst e
      exact ⟨ret_int (Num.firstI_none _ _ HN.out).symm,hb⟩
theorem flat3 {α:Type} (f:α→List Value) (hf:∀e,(f e).length=3):∀(l:List α) (i q:Nat) (hi:i<l.length),q<3→(l.flatMap f)[i*3+q]? = (f l[i])[q]?:=by
  intro l
  induction l with
  | nil=>intro i q hi;simp at hi
  | cons x r ih=>
    intro i q hi hq
    rw [List.flatMap_cons]
    have h2:=hf x
    cases i with
    | zero=>
      simp only [Nat.zero_mul,Nat.zero_add,List.getElem_cons_zero]
      rw [List.getElem?_append_left (by omega)]
    | succ j=>
      have:=ih j q (by simpa using hi) hq
      simp only [List.getElem_cons_succ]
      rw [List.getElem?_append_right (by omega),h2,show (j+1)*3+q-3=j*3+q by omega]
      exact this
def gX (R:List (Int×Int×Int)) (j:Nat):Int:=(R[j]?.getD (0,0,0)).1
def gY (R:List (Int×Int×Int)) (j:Nat):Int:=(R[j]?.getD (0,0,0)).2.1
def gK (R:List (Int×Int×Int)) (j:Nat):Int:=(R[j]?.getD (0,0,0)).2.2
theorem gAll {R:List (Int×Int×Int)} {j:Nat} (h:j<R.length):(gX R j,gY R j,gK R j)=R[j]:=by
  unfold gX gY gK;rw [List.getElem?_eq_getElem h];rfl
theorem owns_ring {w:World} {base g cap:Nat} {R:List (Int×Int×Int)} (h:w.ownsRow base 129 3 (.slice (some ⟨g,0,none⟩) R.length cap) R.length (R.flatMap ptC)):RingAt w (some ⟨g,0,none⟩) R.length (gX R) (gY R) (gK R):=by
  refine .inr ⟨g,0,rfl,fun k hk=>?_⟩
  have e:∀j,j<R.length*3→w.cell? ⟨g,j,none⟩=(R.flatMap ptC)[j]?:=fun j hj=>h.cellAt j hj
  have f:=gAll hk
  rw [Nat.zero_add]
  have q0:=flat3 ptC (fun _=>rfl) R k 0 hk (by omega)
  have q1:=flat3 ptC (fun _=>rfl) R k 1 hk (by omega)
  have q2:=flat3 ptC (fun _=>rfl) R k 2 hk (by omega)
  rw [←f] at q0 q1 q2
  refine ⟨?_,?_,?_⟩
  · rw [e _ (by omega)];exact q0
  · rw [e _ (by omega)];exact q1
  · rw [e _ (by omega)];exact q2
theorem first_of {R:List (Int×Int×Int)} {f:Nat} {p:Int×Int×Int} (hp:R[f]? = some p) (h0:p.2.2=0) (hb:∀(j:Nat) (q:Int×Int×Int),j<f→R[j]? = some q→q.2.2≠0):Num.firstI (fun j=>gK R j == 0) R.length=f:=by
  have hlt:f<R.length:=by
    rcases Nat.lt_or_ge f R.length with h | h
    · exact h
    · rw [List.getElem?_eq_none h] at hp;cases hp
  refine Num.firstI_hit _ _ _ hlt ?_ ?_
  · simp [gK,hp,h0]
  · intro j hj
    have hj2:j<R.length:=by omega
    have:=hb j R[j] hj (List.getElem?_eq_getElem hj2)
    simp [gK,List.getElem?_eq_getElem hj2,this]
theorem imp_pos {X Y K:Nat→Int} {n:Nat} (h:0<n):0<(impU X Y K n n).length:=by
  obtain ⟨m,rfl⟩:∃m,n=m+1:=⟨n-1,by omega⟩
  rw [impU_succ,List.length_append]
  have:0<(Num.impF X Y K (m+1) m).length:=by unfold Num.impF;simp
  omega
def set9 (w:World) (b:Nat) (g:Num.Sg):World:=(((((((((w.setCell ⟨b,0,none⟩ (.int .i64 g.k)).setCell ⟨b,1,none⟩ (.int .i64 g.x0)).setCell ⟨b,2,none⟩ (.int .i64 g.y0)).setCell ⟨b,3,none⟩ (.int .i64 g.x1)).setCell ⟨b,4,none⟩ (.int .i64 g.y1)).setCell ⟨b,5,none⟩ (.int .i64 g.x2)).setCell ⟨b,6,none⟩ (.int .i64 g.y2)).setCell ⟨b,7,none⟩ (.int .i64 g.x3)).setCell ⟨b,8,none⟩ (.int .i64 g.y3))
theorem set9_size (w:World) (b:Nat) (g:Num.Sg):(set9 w b g).heap.size=w.heap.size:=by unfold set9;simp only [nblk_setCell]
theorem set9_other (w:World) (b:Nat) (g:Num.Sg) {x:Nat} (h:x≠b):(set9 w b g).heap[x]? = w.heap[x]?:=by
  unfold set9
  simp only [blk_setCell_other _ _ _ _ (show x≠(⟨b,_,none⟩:Addr).block from h)]
theorem set9_row {w:World} {b:Nat} {t:TypeId} {f:Nat→Value} (h:w.rowIs b t 9 f) (g:Num.Sg):(set9 w b g).rowIs b t 9 (sgF g):=by
  unfold set9
  refine (((((((((h.set 0 _).set 1 _).set 2 _).set 3 _).set 4 _).set 5 _).set 6 _).set 7 _).set 8 _).congr fun q hq=>?_
  rcases (show q=0∨q=1∨q=2∨q=3∨q=4∨q=5∨q=6∨q=7∨q=8 by omega) with rfl | rfl | rfl | rfl | rfl | rfl | rfl | rfl | rfl <;> rfl
theorem set9_below {B:Nat} {w0 w:World} (h:Below B w0 w) {b:Nat} (hb:B≤b) (g:Num.Sg):Below B w0 (set9 w b g):=by
  unfold set9
  exact (((((((((h.setCell (p:=⟨b,0,none⟩) hb _).setCell (p:=⟨b,1,none⟩) hb _).setCell (p:=⟨b,2,none⟩) hb _).setCell (p:=⟨b,3,none⟩) hb _).setCell (p:=⟨b,4,none⟩) hb _).setCell (p:=⟨b,5,none⟩) hb _).setCell (p:=⟨b,6,none⟩) hb _).setCell (p:=⟨b,7,none⟩) hb _).setCell (p:=⟨b,8,none⟩) hb _)
theorem sg_cells {w:World} {b:Nat} {t:TypeId} {g:Num.Sg} (h:w.rowIs b t 9 (sgF g)) :
    w.cell? ⟨b,0,none⟩=some (.int .i64 g.k)∧w.cell? ⟨b,1,none⟩=some (.int .i64 g.x0)∧w.cell? ⟨b,2,none⟩=some (.int .i64 g.y0)∧w.cell? ⟨b,3,none⟩=some (.int .i64 g.x1)∧w.cell? ⟨b,4,none⟩=some (.int .i64 g.y1)∧w.cell? ⟨b,5,none⟩=some (.int .i64 g.x2)∧w.cell? ⟨b,6,none⟩=some (.int .i64 g.y2)∧w.cell? ⟨b,7,none⟩=some (.int .i64 g.x3)∧w.cell? ⟨b,8,none⟩=some (.int .i64 g.y3):=
  ⟨h.cell (i:=0) (by omega),h.cell (i:=1) (by omega),h.cell (i:=2) (by omega),h.cell (i:=3) (by omega),h.cell (i:=4) (by omega),h.cell (i:=5) (by omega),h.cell (i:=6) (by omega),h.cell (i:=7) (by omega),h.cell (i:=8) (by omega)⟩
theorem row_sg (W:World) (g:Num.Sg) (t:TypeId):(W.alloc (.cells (sgC g).toArray t)).rowIs W.heap.size t 9 (sgF g):=by
  refine World.rowIs_alloc W (sgC g).toArray t (sgF g) (fun q hq=>?_)
  have hq:q<9:=hq
  rcases (show q=0∨q=1∨q=2∨q=3∨q=4∨q=5∨q=6∨q=7∨q=8 by omega) with rfl | rfl | rfl | rfl | rfl | rfl | rfl | rfl | rfl <;> rfl
theorem set2_row {w:World} {b:Nat} {t:TypeId} {g:Num.Sg} (h:w.rowIs b t 9 (sgF g)) (p:Int×Int×Int):((w.setCell ⟨b,7,none⟩ (.int .i64 p.1)).setCell ⟨b,8,none⟩ (.int .i64 p.2.1)).rowIs b t 9 (sgF (Num.setTo g p)):=by
  refine ((h.set 7 _).set 8 _).congr fun q hq=>?_
  rcases (show q=0∨q=1∨q=2∨q=3∨q=4∨q=5∨q=6∨q=7∨q=8 by omega) with rfl | rfl | rfl | rfl | rfl | rfl | rfl | rfl | rfl <;> rfl
def wrp (r x:Nat):Nat:=if x<r then x else x-r
theorem wrp_lt {r f j:Nat} (hf:f<r) (hj:j≤r):wrp r (f+j)<r:=by unfold wrp;split <;> omega
theorem wrp_succ {r f j:Nat} (hf:f<r) (hj:j<r):wrp r (f+(j+1))=if wrp r (f+j)+1=r then 0 else wrp r (f+j)+1:=by
  unfold wrp;split <;> split <;> (try split) <;> omega
theorem rot_drop {R:List (Int×Int×Int)} {f j:Nat} (hf:f<R.length) (hj:j<R.length) :
    (R.drop (f+1)++R.take (f+1)).drop j=(gX R (wrp R.length (f+(j+1))),gY R (wrp R.length (f+(j+1))),gK R (wrp R.length (f+(j+1))))::(R.drop (f+1)++R.take (f+1)).drop (j+1):=by
  have hl:(R.drop (f+1)++R.take (f+1)).length=R.length:=by simp;omega
  have hy:wrp R.length (f+(j+1))<R.length:=by unfold wrp;split <;> omega
  rw [gAll hy,List.drop_eq_getElem_cons (by omega)]
  congr 1
  unfold wrp
  by_cases h:f+(j+1)<R.length
  · rw [List.getElem_append_left (by simp;omega)]
    simp only [List.getElem_drop,if_pos h]
    congr 1;omega
  · rw [List.getElem_append_right (by simp;omega)]
    simp only [List.getElem_take,if_neg h,List.length_drop]
    congr 1;omega
theorem owns_base {w:World} {base base':Nat} {t:TypeId} {sz:Nat} {v:Value} {n:Nat} {xs:List Value} (h:w.ownsRow base t sz v n xs) (hb:base'≤base):w.ownsRow base' t sz v n xs:=by
  refine ⟨h.1,?_⟩
  rcases h.2 with hn | ⟨g,cap,cur,hv,hbb,rest⟩
  · exact .inl hn
  · exact .inr ⟨g,cap,cur,hv,by omega,rest⟩
theorem one_sg (g:Num.Sg):∀u∈sgC g,u.oneCell'=true:=by
  intro u hu
  simp [sgC] at hu
  rcases hu with rfl | rfl | rfl | rfl | rfl | rfl | rfl | rfl | rfl <;> rfl
theorem push_sg {w:World} {base:Nat} {v:Value} {l:List Num.Sg} {g:Num.Sg} {m:Nat} (h:w.ownsRow base 44 9 v m (l.flatMap sgC++sgC g)) (hm:m=l.length+1):w.ownsRow base 44 9 v (l++[g]).length ((l++[g]).flatMap sgC):=by
  have e1:(l++[g]).length=m:=by rw [hm];simp
  have e2:(l++[g]).flatMap sgC=l.flatMap sgC++sgC g:=by simp
  rw [e1,e2];exact h
theorem info_seg:(Tryz.prog.info? 44).map (fun i=>(i.zero,i.size,i.bytes))=some (some (.agg #[.int .i64 0,.int .i64 0,.int .i64 0,.int .i64 0,.int .i64 0,.int .i64 0,.int .i64 0,.int .i64 0,.int .i64 0]),9,72):=by kernel_rfl
theorem owns_set9 {w w3:World} {base:Nat} {t:TypeId} {sz:Nat} {v:Value} {n:Nat} {xs:List Value} {G:Nat} (h:w.ownsRow base t sz v n xs) (hb:Below w.heap.size w w3) (hG:G<base) (sg:Num.Sg):(set9 w3 G sg).ownsRow base t sz v n xs:=
  owns_of_block h fun b hbb=>by
    obtain ⟨h1,h2⟩:=h.lt b hbb
    rw [set9_other _ _ _ (show b≠G by omega)]
    exact hb.block b h2
theorem walk_ctl {p:Int×Int×Int} {l:List (Int×Int×Int)} {g:Num.Sg} (h:(p.2.2 == 0)=false):Num.walkL (p::l) g=Num.walkL l (Num.addP g p):=by
  have:¬p.2.2=0:=by simpa using h
  simp only [Num.walkL,if_neg this]
theorem walk_on {p:Int×Int×Int} {l:List (Int×Int×Int)} {g:Num.Sg} (h:(p.2.2 == 0)=true):Num.walkL (p::l) g=Num.setTo g p::Num.walkL l (Num.initS p):=by
  have:p.2.2=0:=by simpa using h
  simp only [Num.walkL,if_pos this]
theorem onB_there {X Y K:Nat→Int} {n t:Nat}:Num.onB X Y K n t=(thereB K n t && ((Num.stv X Y K n t).2.2 == 0)):=by
  unfold Num.onB
  rw [stp_there]
  cases h:thereB K n t <;> simp
set_option maxRecDepth 100000 in
theorem begins_any (a:Option Addr) (n c t:Nat) (X Y K:Nat→Int) (w:World) (hp:0<n) (hn:n≤2097152) (ht:t≤16777216) (hX:∀i,i<n → -4096≤X i∧X i≤4096) (hY:∀i,i<n → -4096≤Y i∧Y i≤4096) (hr:RingAt w a n X Y K) :
    Calls Tryz.prog 118 #[.slice a n c,.int .i64 t] w fun e w'=>e=.returned (.bool (Num.onB X Y K n t))∧Below w.heap.size w w':=by
  have HR:=hide hr
  have HX:=hide hX
  have HY:=hide hY
  clear hr hX hY
  rw [onB_there]
  obtain ⟨q,hq⟩:∃q,q=Num.stv X Y K n t:=⟨_,rfl⟩
  obtain ⟨th,hth⟩:∃th,th=thereB K n t:=⟨_,rfl⟩
  rw [←hq,←hth]
  have HQ:=hide hq
  have HT:=hide hth
  clear hq hth
  obtain ⟨q0,q1,q2⟩:=q
  go_enter Tryz.func118,Tryz.ntmps118
  go_wp2_with fail
  refine (stop_any _ _ _ t X Y K _ hp hn ht HX.out HY.out HR.out).mono ?_
  rw [←HQ.out,←HT.out]
  rintro e w1 ⟨rfl,hb⟩
  have hs:=hb.size
  cases th
  · go_wp2
    go_ret
    exact ⟨rfl,by (repeat any_goals first | exact .refl _ _ | assumption | refine .drew ?_ | refine below_drewN ?_ _ | refine .setCell ?_ ?_ _ | refine .alloc ?_ ?_ _ | omega | (simp <;> omega))⟩
  · go_wp2
    go_ret
    exact ⟨ret_bool (by simp),by (repeat any_goals first | exact .refl _ _ | assumption | refine .drew ?_ | refine below_drewN ?_ _ | refine .setCell ?_ ?_ _ | refine .alloc ?_ ?_ _ | omega | (simp <;> omega))⟩
theorem scan_none {X Y K:Nat→Int} {n d k m:Nat} {g:Num.Sg} (h:thereB K n k=false):Num.scanR X Y K n (d+1) k g m=Num.scanR X Y K n d (k+1) g m:=by
  simp only [Num.scanR,stp_there,h,if_neg (show ¬(false=true) by simp)]
theorem scan_on {X Y K:Nat→Int} {n d k m:Nat} {g:Num.Sg} (h:thereB K n k=true) (h0:((Num.stv X Y K n k).2.2 == 0)=true):Num.scanR X Y K n (d+1) k g m=Num.setTo g (Num.stv X Y K n k):=by
  have h0:(Num.stv X Y K n k).2.2=0:=by simpa using h0
  simp only [Num.scanR,stp_there,h,if_pos,h0]
theorem scan_ctl {X Y K:Nat→Int} {n d k m:Nat} {g:Num.Sg} (h:thereB K n k=true) (h0:((Num.stv X Y K n k).2.2 == 0)=false):Num.scanR X Y K n (d+1) k g m=Num.scanR X Y K n d (k+1) (Num.addR g m (Num.stv X Y K n k)) (m+1):=by
  have h0:¬(Num.stv X Y K n k).2.2=0:=by simpa using h0
  simp only [Num.scanR,stp_there,h,if_pos,if_neg h0]
theorem from_results (tmps:Array Value) (W:World) (b:Nat) (g:Num.Sg) (h4:tmps.getD 4 undef=.pointer (some ⟨b,0,none⟩)) (hr:W.rowIs b 44 9 (sgF g)):(results Tryz.f119 tmps).run Tryz.prog W=.ok (.agg #[.int .i64 g.k,.int .i64 g.x0,.int .i64 g.y0,.int .i64 g.x1,.int .i64 g.y1,.int .i64 g.x2,.int .i64 g.y2,.int .i64 g.x3,.int .i64 g.y3]) W:=by
  obtain ⟨d0,d1,d2,d3,d4,d5,d6,d7,d8⟩:=sg_cells hr
  have h4':tmps[4]?.getD undef=.pointer (some ⟨b,0,none⟩):=by simpa using h4
  simp [results,Tryz.results119,go_sem,h4',d0,d1,d2,d3,d4,d5,d6,d7,d8]
theorem setF_row {w:World} {b:Nat} {t:TypeId} {g:Num.Sg} (h:w.rowIs b t 9 (sgF g)) (p:Int×Int×Int):(((w.setCell ⟨b,0,none⟩ (.int .i64 p.2.2)).setCell ⟨b,3,none⟩ (.int .i64 p.1)).setCell ⟨b,4,none⟩ (.int .i64 p.2.1)).rowIs b t 9 (sgF (Num.addR g 0 p)):=by
  refine (((h.set 0 _).set 3 _).set 4 _).congr fun q hq=>?_
  rcases (show q=0∨q=1∨q=2∨q=3∨q=4∨q=5∨q=6∨q=7∨q=8 by omega) with rfl | rfl | rfl | rfl | rfl | rfl | rfl | rfl | rfl <;> rfl
theorem setS_row {w:World} {b:Nat} {t:TypeId} {g:Num.Sg} (h:w.rowIs b t 9 (sgF g)) (p:Int×Int×Int) (m:Nat) (hm:m≠0):(((w.setCell ⟨b,0,none⟩ (.int .i64 p.2.2)).setCell ⟨b,5,none⟩ (.int .i64 p.1)).setCell ⟨b,6,none⟩ (.int .i64 p.2.1)).rowIs b t 9 (sgF (Num.addR g m p)):=by
  refine (((h.set 0 _).set 5 _).set 6 _).congr fun q hq=>?_
  unfold Num.addR
  rw [if_neg hm]
  rcases (show q=0∨q=1∨q=2∨q=3∨q=4∨q=5∨q=6∨q=7∨q=8 by omega) with rfl | rfl | rfl | rfl | rfl | rfl | rfl | rfl | rfl <;> rfl
set_option maxRecDepth 100000 in
theorem from_any (a:Option Addr) (n c t:Nat) (X Y K:Nat→Int) (w:World) (hp:0<n) (hn:n≤2097152) (ht:t≤4194304) (hX:∀i,i<n → -4096≤X i∧X i≤4096) (hY:∀i,i<n → -4096≤Y i∧Y i≤4096) (hr:RingAt w a n X Y K) :
    Calls Tryz.prog 119 #[.slice a n c,.int .i64 t] w fun e w'=>e=.returned (.agg #[.int .i64 (Num.fromV X Y K n t).k,.int .i64 (Num.fromV X Y K n t).x0,.int .i64 (Num.fromV X Y K n t).y0,.int .i64 (Num.fromV X Y K n t).x1,.int .i64 (Num.fromV X Y K n t).y1,.int .i64 (Num.fromV X Y K n t).x2,.int .i64 (Num.fromV X Y K n t).y2,.int .i64 (Num.fromV X Y K n t).x3,.int .i64 (Num.fromV X Y K n t).y3])∧Below w.heap.size w w':=by
  have HR:=hide hr
  have HX:=hide hX
  have HY:=hide hY
  clear hr hX hY
  obtain ⟨F,hF⟩:∃F,F=Num.fromV X Y K n t:=⟨_,rfl⟩
  rw [←hF]
  have HF:=hide hF
  clear hF
  go_enter Tryz.func119,Tryz.ntmps119
  go_wp2_with fail
  refine (stop_any _ _ _ t X Y K _ hp hn (by omega) HX.out HY.out (HR.out.below (by (repeat any_goals first | exact .refl _ _ | assumption | refine .drew ?_ | refine below_drewN ?_ _ | refine .setCell ?_ ?_ _ | refine .alloc ?_ ?_ _ | omega | (simp <;> omega))))).mono ?_
  obtain ⟨p,hq⟩:∃p,p=Num.stv X Y K n t:=⟨_,rfl⟩
  rw [←hq]
  have HQ:=hide hq
  clear hq
  obtain ⟨p0,p1,p2⟩:=p
  rintro e w1 ⟨rfl,hb⟩
  have hsz:w.heap.size<w1.heap.size:=by have:=hb.size;simp at this;omega
  have hb0:Below w.heap.size w w1:=Below.trans (by (repeat any_goals first | exact .refl _ _ | assumption | refine .drew ?_ | refine below_drewN ?_ _ | refine .setCell ?_ ?_ _ | refine .alloc ?_ ?_ _ | omega | (simp <;> omega))) (hb.mono (by simp))
  have hR0:w1.rowIs w.heap.size 44 9 (sgF ⟨0,0,0,0,0,0,0,0,0⟩):=row_below (row_sg w ⟨0,0,0,0,0,0,0,0,0⟩ 44) hb (by simp)
  have HR0:=hide hR0
  clear hb hR0
  go_wp2_with fail
  go_loopw [9,10] (fun um uk wr=>∃(k m:Nat) (sg:Num.Sg),t+1≤k∧k≤t+2*n+1∧uk=.int .i64 k∧um=.int .i64 m∧m≤k∧Below w.heap.size w wr∧w1.heap.size+1<wr.heap.size∧wr.rowIs w.heap.size 44 9 (sgF ⟨0,0,0,0,0,0,0,0,0⟩)∧wr.rowIs (w1.heap.size+1) 44 9 (sgF sg)∧F=Num.scanR X Y K n (t+2*n+1-k) k sg m) (fun _ uk _=>t+2*n+1-(intOf uk).toNat)
  case atStart=>
    refine ⟨t+1,0,Num.initS (p0,p1,p2),by omega,by omega,by go_num,rfl,by omega,by (repeat any_goals first | exact .refl _ _ | assumption | refine .drew ?_ | refine below_drewN ?_ _ | refine .setCell ?_ ?_ _ | refine .alloc ?_ ?_ _ | omega | (simp <;> omega)),by simp,(HR0.out.alloc _).alloc _,?_,?_⟩
    · have h:=row_sg (w1.alloc (.cells #[.int .i64 p0,.int .i64 p1] 42)) (Num.initS (p0,p1,p2)) 44
      rw [nblk_alloc] at h
      exact h
    · rw [HF.out]
      unfold Num.fromV
      rw [←HQ.out,show t+2*n+1-(t+1)=2*n by omega]
  case round=>
    obtain ⟨k,m,sg,hk1,hk2,rfl,rfl,hmk,hb,hGl,hz,hg,hscan⟩:=hrel
    have hs:=hb.size
    have HSC:=hide hscan
    clear hscan
    by_cases hlt:k≤t+2*n
    · have hd1:decide ((k:Int)≤(t:Int)+2*(n:Int))=true:=by simp;omega
      have hfu:t+2*n+1-k=(t+2*n+1-(k+1))+1:=by omega
      have HFu:=hide hfu
      have HZ:=hide hz
      have HG:=hide hg
      clear hfu hz hg
      go_wp2_with fail
      refine (stop_any _ _ _ k X Y K _ hp hn (by omega) HX.out HY.out (HR.out.below hb)).mono ?_
      obtain ⟨q,hq⟩:∃q,q=Num.stv X Y K n k:=⟨_,rfl⟩
      obtain ⟨th,hth⟩:∃th,th=thereB K n k:=⟨_,rfl⟩
      rw [←hq,←hth]
      have HQK:=hide hq
      have HTH:=hide hth
      clear hq hth
      obtain ⟨r0,r1,r2⟩:=q
      rintro e w3 ⟨rfl,hb3⟩
      have hs3:=hb3.size
      have HZ3:=hide (row_below HZ.out hb3 (by omega))
      have HG3:=hide (row_below HG.out hb3 (by omega))
      have hb4:Below w.heap.size w w3:=hb.trans (hb3.mono hs)
      clear hb3 hb
      have hG3:w1.heap.size+1<w3.heap.size:=by omega
      have hW3:w.heap.size<w3.heap.size:=by omega
      cases th
      · have HS2:Hid (F=Num.scanR X Y K n (t+2*n+1-(k+1)) (k+1) sg m):=by
          unfold Hid
          rw [HSC.out,HFu.out,scan_none HTH.out.symm]
        go_wp2
        go_roundw
        case rel=>exact ⟨k+1,m,sg,by omega,by omega,by go_num,rfl,by omega,by (repeat any_goals first | exact .refl _ _ | assumption | refine .drew ?_ | refine below_drewN ?_ _ | refine .setCell ?_ ?_ _ | refine .alloc ?_ ?_ _ | omega | (simp <;> omega)),by simp;omega,HZ3.out.alloc _,HG3.out.alloc _,HS2.out⟩
        case measure=>simp [intOf];omega
      · cases h0:(r2 == 0)
        · have HS2:Hid (F=Num.scanR X Y K n (t+2*n+1-(k+1)) (k+1) (Num.addR sg m (r0,r1,r2)) (m+1)):=by
            unfold Hid
            rw [HSC.out,HFu.out,scan_ctl HTH.out.symm (by rw [←HQK.out];exact h0),←HQK.out]
          obtain ⟨e0,e1,e2,e3,e4,e5,e6,e7,e8⟩:=sg_cells HG3.out
          clear e1 e2 e7 e8
          have y0:=HG3.out.frozen 0
          have y3:=HG3.out.frozen 3
          have y4:=HG3.out.frozen 4
          have y5:=HG3.out.frozen 5
          have y6:=HG3.out.frozen 6
          have y7:=HG3.out.frozen 7
          have y8:=HG3.out.frozen 8
          clear y7 y8
          by_cases hm0:m=0
          · subst hm0
            have HN:=hide (setF_row HG3.out (r0,r1,r2))
            have HZN:=hide (((HZ3.out.setOther (a:=⟨w1.heap.size+1,0,none⟩) (by simp;omega) (.int .i64 r2)).setOther (a:=⟨w1.heap.size+1,3,none⟩) (by simp;omega) (.int .i64 r0)).setOther (a:=⟨w1.heap.size+1,4,none⟩) (by simp;omega) (.int .i64 r1))
            go_wp2
            go_roundw
            case rel=>exact ⟨k+1,1,Num.addR sg 0 (r0,r1,r2),by omega,by omega,by go_num,rfl,by omega,by (repeat any_goals first | exact .refl _ _ | assumption | refine .drew ?_ | refine below_drewN ?_ _ | refine .setCell ?_ ?_ _ | refine .alloc ?_ ?_ _ | omega | (simp <;> omega)),by simp;omega,HZN.out.alloc _,HN.out.alloc _,HS2.out⟩
            case measure=>simp [intOf];omega
          · have hm1:((m:Int)+1 == 1)=false:=by simp;omega
            have HN:=hide (setS_row HG3.out (r0,r1,r2) m hm0)
            have HZN:=hide (((HZ3.out.setOther (a:=⟨w1.heap.size+1,0,none⟩) (by simp;omega) (.int .i64 r2)).setOther (a:=⟨w1.heap.size+1,5,none⟩) (by simp;omega) (.int .i64 r0)).setOther (a:=⟨w1.heap.size+1,6,none⟩) (by simp;omega) (.int .i64 r1))
            go_wp2
            go_roundw
            case rel=>exact ⟨k+1,m+1,Num.addR sg m (r0,r1,r2),by omega,by omega,by go_num,by go_num,by omega,by (repeat any_goals first | exact .refl _ _ | assumption | refine .drew ?_ | refine below_drewN ?_ _ | refine .setCell ?_ ?_ _ | refine .alloc ?_ ?_ _ | omega | (simp <;> omega)),by simp;omega,HZN.out.alloc _,HN.out.alloc _,HS2.out⟩
            case measure=>simp [intOf];omega
        · have HS2:Hid (F=Num.setTo sg (r0,r1,r2)):=by
            unfold Hid
            rw [HSC.out,HFu.out,scan_on HTH.out.symm (by rw [←HQK.out];exact h0),←HQK.out]
          obtain ⟨e0,e1,e2,e3,e4,e5,e6,e7,e8⟩:=sg_cells HG3.out
          obtain ⟨d0,d1,d2,d3,d4,d5,d6,d7,d8⟩:=sg_cells HZ3.out
          have y0:=HG3.out.frozen 0
          have y3:=HG3.out.frozen 3
          have y4:=HG3.out.frozen 4
          have y5:=HG3.out.frozen 5
          have y6:=HG3.out.frozen 6
          have y7:=HG3.out.frozen 7
          have y8:=HG3.out.frozen 8
          clear y0 y3 y4 y5 y6
          have x0:=HZ3.out.frozen 0
          have x1:=HZ3.out.frozen 1
          have x2:=HZ3.out.frozen 2
          have x3:=HZ3.out.frozen 3
          have x4:=HZ3.out.frozen 4
          have x5:=HZ3.out.frozen 5
          have x6:=HZ3.out.frozen 6
          have x7:=HZ3.out.frozen 7
          have x8:=HZ3.out.frozen 8
          have HFin:=hide (set9_row ((HZ3.out.setOther (a:=⟨w1.heap.size+1,7,none⟩) (by simp;omega) (.int .i64 r0)).setOther (a:=⟨w1.heap.size+1,8,none⟩) (by simp;omega) (.int .i64 r1)) (Num.setTo sg (r0,r1,r2)))
          have HBf:Hid (Below w.heap.size w ((set9 ((w3.setCell ⟨w1.heap.size+1,7,none⟩ (.int .i64 r0)).setCell ⟨w1.heap.size+1,8,none⟩ (.int .i64 r1)) w.heap.size (Num.setTo sg (r0,r1,r2))).alloc (.cells #[.int .i64 r0,.int .i64 r1] 42))):=
            (set9_below ((hb4.setCell (p:=⟨w1.heap.size+1,7,none⟩) (by simp;omega) _).setCell (p:=⟨w1.heap.size+1,8,none⟩) (by simp;omega) _) (Nat.le_refl _) _).alloc (by rw [set9_size,nblk_setCell,nblk_setCell];omega) _
          have hne:¬w.heap.size=w1.heap.size+1:=by omega
          have hne2:¬w1.heap.size+1=w.heap.size:=by omega
          go_wp2
          have hfin:=HFin.out
          unfold set9 at hfin
          refine bodyPost_ret (from_results _ _ w.heap.size (Num.setTo sg (r0,r1,r2)) (by simp) (by exact hfin.alloc _)) (by rfl) ⟨by rw [HS2.out],?_⟩
          have hbf:=HBf.out
          unfold set9 at hbf
          exact hbf
    · have hfu:t+2*n+1-k=0:=by omega
      have HS2:Hid (F=sg):=by
        unfold Hid
        rw [HSC.out,hfu];rfl
      have hd0:decide ((k:Int)≤(t:Int)+2*(n:Int))=false:=by simp;omega
      have HZ:=hide hz
      have HG:=hide hg
      clear hfu hz hg
      obtain ⟨e0,e1,e2,e3,e4,e5,e6,e7,e8⟩:=sg_cells HG.out
      obtain ⟨d0,d1,d2,d3,d4,d5,d6,d7,d8⟩:=sg_cells HZ.out
      have x0:=HZ.out.frozen 0
      have x1:=HZ.out.frozen 1
      have x2:=HZ.out.frozen 2
      have x3:=HZ.out.frozen 3
      have x4:=HZ.out.frozen 4
      have x5:=HZ.out.frozen 5
      have x6:=HZ.out.frozen 6
      have x7:=HZ.out.frozen 7
      have x8:=HZ.out.frozen 8
      have HFin:=hide (set9_row HZ.out sg)
      have HBf:=hide (set9_below hb (Nat.le_refl _) sg)
      have hne:¬w.heap.size=w1.heap.size+1:=by omega
      have hne2:¬w1.heap.size+1=w.heap.size:=by omega
      have hW3:w.heap.size<wr.heap.size:=by omega
      go_wp2
      have hfin:=HFin.out
      unfold set9 at hfin
      refine bodyPost_ret (from_results _ _ w.heap.size sg (by simp) (by exact hfin)) (by rfl) ⟨by rw [HS2.out],?_⟩
      have hbf:=HBf.out
      unfold set9 at hbf
      exact hbf
end Go.Proofs.YtkhcjkmifddlbabGreatDoor
