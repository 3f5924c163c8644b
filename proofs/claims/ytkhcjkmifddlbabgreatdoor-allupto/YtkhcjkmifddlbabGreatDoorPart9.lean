import Derived.Test.YtkhcjkmifddlbabGreatDoorPart8
import Derived.Test.YtkhcjkmifddlbabGreatDoorPart7
import Derived.Test.YtkhcjkmifddlbabGreatDoorPart2
import Derived.Test.YtkhcjkmifddlbabGreatDoorPart6
import Derived.Deep.RegionWith
import Derived.Deep.RegionHeld3
import Derived.Test.YtkhcjkmifddlbabGreatDoorPart4
set_option maxHeartbeats 8000000
namespace Go.Proofs.YtkhcjkmifddlbabGreatDoor
open Go.RowKit Go.Deep
def clC (c:Num.Cl):List Value:=[.int .i64 c.1,.int .i64 c.2.1,.int .i64 c.2.2]
theorem info_cl:(Tryz.prog.info? 232).map (fun i=>(i.zero,i.size,i.bytes))=some (some (.agg #[.int .i64 0,.int .i64 0,.int .i64 0]),3,24):=by kernel_rfl
theorem push_cl {w:World} {base:Nat} {v:Value} {l l':List Num.Cl} {p:Num.Cl} {m:Nat} (h:w.ownsRow base 232 3 v m (l.flatMap clC++[.int .i64 p.1,.int .i64 p.2.1,.int .i64 p.2.2])) (hl:l'=l++[p]) (hm:m=l.length+1):w.ownsRow base 232 3 v l'.length (l'.flatMap clC):=by
  have e1:l'.length=m:=by rw [hl,hm];simp
  have e2:l'.flatMap clC=l.flatMap clC++[.int .i64 p.1,.int .i64 p.2.1,.int .i64 p.2.2]:=by rw [hl];simp [clC]
  rw [e1,e2];exact h
theorem flat3_at:∀(l:List Num.Cl) (i:Nat) (hi:i<l.length),(l.flatMap clC)[i*3]? = some (.int .i64 l[i].1)∧(l.flatMap clC)[i*3+1]? = some (.int .i64 l[i].2.1)∧(l.flatMap clC)[i*3+2]? = some (.int .i64 l[i].2.2):=by
  intro l
  induction l with
  | nil=>intro i hi;simp at hi
  | cons x r ih=>
    intro i hi
    rw [List.flatMap_cons]
    have h2:(clC x).length=3:=rfl
    cases i with
    | zero=>simp [clC]
    | succ j=>
      have:=ih j (by simpa using hi)
      simp only [List.getElem_cons_succ]
      rw [List.getElem?_append_right (by omega),List.getElem?_append_right (by omega),List.getElem?_append_right (by omega),h2,show (j+1)*3-3=j*3 by omega,show (j+1)*3+1-3=j*3+1 by omega,show (j+1)*3+2-3=j*3+2 by omega]
      exact this
theorem owns_cl {w:World} {base b cap:Nat} {t:TypeId} {l:List Num.Cl} (h:w.ownsRow base t 3 (.slice (some ⟨b,0,none⟩) l.length cap) l.length (l.flatMap clC)) (i:Nat) (hi:i<l.length) :
    w.cell? ⟨b,i*3,none⟩=some (.int .i64 l[i].1)∧w.cell? ⟨b,i*3+1,none⟩=some (.int .i64 l[i].2.1)∧w.cell? ⟨b,i*3+2,none⟩=some (.int .i64 l[i].2.2):=by
  have e:=flat3_at l i hi
  have e0:=h.cellAt (i*3) (by omega)
  have e1:=h.cellAt (i*3+1) (by omega)
  have e2:=h.cellAt (i*3+2) (by omega)
  rw [e.1] at e0
  rw [e.2.1] at e1
  rw [e.2.2] at e2
  exact ⟨e0,e1,e2⟩
set_option maxRecDepth 100000 in
theorem filled_any (v0:Value) (base:Nat) (l:List Num.Cl) (w:World) (hl:l.length≤4096) (hv:w.ownsRow base 232 3 v0 l.length (l.flatMap clC)) :
    Calls Tryz.prog 192 #[v0] w fun e w'=>∃v,e=.returned v∧Below w.heap.size w w'∧w'.ownsRow w.heap.size 232 3 v (l.filter Num.fullB).length ((l.filter Num.fullB).flatMap clC):=by
  obtain ⟨i0,hi0,hz0,hz1,hz2⟩:=info_parts info_cl
  obtain ⟨ao,cap0,rfl,hao⟩:=owns_formN hv
  have HV:=hide hv
  have HAo:=hide hao
  obtain ⟨n,hn⟩:∃n,n=l.length:=⟨_,rfl⟩
  rw [←hn] at hl ⊢
  have HN:=hide hn
  clear hv hao hn
  go_enter Tryz.func192,Tryz.ntmps192
  go_wp2_with fail
  go_loopw [3,8] (fun v t wr=>∃k:Nat,k≤n∧t=.int .i64 k∧Below w.heap.size w wr∧wr.ownsRow w.heap.size 232 3 v ((l.take k).filter Num.fullB).length (((l.take k).filter Num.fullB).flatMap clC)) (fun _ t _=>n-(intOf t).toNat)
  case atStart=>exact ⟨0,by omega,rfl,Below.refl _ _,World.ownsRow_nil _ _ _ _⟩
  case round=>
    obtain ⟨v,rfl⟩:∃v,v=u3:=⟨_,rfl⟩
    obtain ⟨k,hk,rfl,hb,hown⟩:=hrel
    have hsz:=hb.size
    by_cases hlt:k<n
    · have hkl:k<l.length:=by rw [←HN.out];exact hlt
      obtain ⟨b,rfl⟩:=HAo.out (by omega)
      have hbl:b<w.heap.size:=(HV.out.lt b rfl).2
      obtain ⟨d0,d1,d2⟩:=owns_cl HV.out k hkl
      have d0:=(hb.cell (p:=⟨b,_,none⟩) hbl).trans d0
      have d1:=(hb.cell (p:=⟨b,_,none⟩) hbl).trans d1
      have d2:=(hb.cell (p:=⟨b,_,none⟩) hbl).trans d2
      have hbw:b<wr.heap.size:=by omega
      have HT:Hid (l.take (k+1)=l.take k++[l[k]]):=List.take_succ_eq_append_getElem hkl
      obtain ⟨c,hc⟩:∃c,c=l[k]:=⟨_,rfl⟩
      rw [←hc] at HT d0 d1 d2
      clear hc
      obtain ⟨c1,c2,c3⟩:=c
      simp only at d0 d1 d2
      have hd1:decide ((k:Int)<(n:Int))=true:=by simp;omega
      have i0':(0:Int)≤(k:Int):=by omega
      have i1':(k:Int)<(n:Int):=by omega
      obtain ⟨L,hL⟩:∃L,L=(l.take k).filter Num.fullB:=⟨_,rfl⟩
      have hlen:L.length≤4096:=by
        rw [hL];have:=List.length_filter_le Num.fullB (l.take k);simp only [List.length_take] at this;omega
      rw [←hL] at hown
      have HF:Hid ((l.take (k+1)).filter Num.fullB=L++if Num.fullB (c1,c2,c3)=true then [(c1,c2,c3)] else []):=by
        unfold Hid
        rw [HT.out,List.filter_append,hL]
        congr 1
        split
        · rename_i h;rw [List.filter_cons_of_pos h,List.filter_nil]
        · rename_i h;rw [List.filter_cons_of_neg h,List.filter_nil]
      clear hL HT
      by_cases hf:Num.fullB (c1,c2,c3)=true
      · rw [if_pos hf] at HF
        obtain ⟨ln,hln⟩:∃ln,ln=L.length:=⟨_,rfl⟩
        obtain ⟨xs,hxs⟩:∃xs,xs=L.flatMap clC:=⟨_,rfl⟩
        rw [←hln,←hxs] at hown
        rw [←hln] at hlen
        have HLn:=hide hln
        have HXs:=hide hxs
        clear hln hxs
        have hq:(c2 != 0 || c3 != 0)=true:=by simpa [Num.fullB,bne] using hf
        clear hf
        cases h2:(c2 != 0)
        · have h3:(c3 != 0)=true:=by simpa [h2] using hq
          clear hq
          go_wp2_with (at_builtin;refine wpList_append_lies _ rfl _ _ 229 rfl w.heap.size 232 i0 (.agg #[.int .i64 0,.int .i64 0,.int .i64 0]) 3 24 Tryz.underlying229 hi0 hz0 hz1 hz2 rfl (by omega) v ln xs rfl ((hown.alloc _).alloc _) ⟨wr.heap.size+1,0,none⟩ 1 1 [.int .i64 c1,.int .i64 c2,.int .i64 c3] rfl rfl ?a1 ?a2 (by omega) ?a3 ?a4 ?a5 (wr.heap.size+1+1) (by simp) ?_)
          try (case a1=>exact news_new (wr.alloc _) [.int .i64 c1,.int .i64 c2,.int .i64 c3] _ _ (by simp))
          case a2=>first | exact one_ints _ _ _ | exact ⟨rfl,rfl,rfl⟩
          case a3=>unfold maxLen;omega
          case a4=>omega
          case a5=>first | omega | (simp;omega)
          intro g cap w2 hown2 hgrow hat hlt2
          have hb2:Below w.heap.size w w2:=((hb.alloc (by omega) _).alloc (by simp;omega) _).grown hgrow (by simp;omega) (fun q hq=>(hown.lt q hq).1)
          have HO2:=hide (push_cl (l:=L) (l':=(l.take (k+1)).filter Num.fullB) (p:=(c1,c2,c3)) (by rw [←HXs.out];exact hown2) HF.out (by rw [HLn.out]))
          clear hown2 hgrow hat hown hb
          go_wp2
          go_roundw
          case rel=>exact ⟨k+1,by omega,by go_num,hb2,HO2.out⟩
          case measure=>simp [intOf];omega
        · clear hq
          go_wp2_with (at_builtin;refine wpList_append_lies _ rfl _ _ 229 rfl w.heap.size 232 i0 (.agg #[.int .i64 0,.int .i64 0,.int .i64 0]) 3 24 Tryz.underlying229 hi0 hz0 hz1 hz2 rfl (by omega) v ln xs rfl ((hown.alloc _).alloc _) ⟨wr.heap.size+1,0,none⟩ 1 1 [.int .i64 c1,.int .i64 c2,.int .i64 c3] rfl rfl ?b1 ?b2 (by omega) ?b3 ?b4 ?b5 (wr.heap.size+1+1) (by simp) ?_)
          try (case b1=>exact news_new (wr.alloc _) [.int .i64 c1,.int .i64 c2,.int .i64 c3] _ _ (by simp))
          case b2=>first | exact one_ints _ _ _ | exact ⟨rfl,rfl,rfl⟩
          case b3=>unfold maxLen;omega
          case b4=>omega
          case b5=>first | omega | (simp;omega)
          intro g cap w2 hown2 hgrow hat hlt2
          have hb2:Below w.heap.size w w2:=((hb.alloc (by omega) _).alloc (by simp;omega) _).grown hgrow (by simp;omega) (fun q hq=>(hown.lt q hq).1)
          have HO2:=hide (push_cl (l:=L) (l':=(l.take (k+1)).filter Num.fullB) (p:=(c1,c2,c3)) (by rw [←HXs.out];exact hown2) HF.out (by rw [HLn.out]))
          clear hown2 hgrow hat hown hb
          go_wp2
          go_roundw
          case rel=>exact ⟨k+1,by omega,by go_num,hb2,HO2.out⟩
          case measure=>simp [intOf];omega
      · rw [if_neg hf,List.append_nil] at HF
        have hq:c2=0∧c3=0:=by simpa [Num.fullB] using hf
        obtain ⟨rfl,rfl⟩:=hq
        have HE:Hid (wr.ownsRow w.heap.size 232 3 v ((l.take (k+1)).filter Num.fullB).length (((l.take (k+1)).filter Num.fullB).flatMap clC)):=by unfold Hid;rw [HF.out];exact hown
        clear hown hf
        go_wp2
        go_roundw
        case rel=>exact ⟨k+1,by omega,by go_num,by (repeat any_goals first | exact .refl _ _ | assumption | refine .drew ?_ | refine below_drewN ?_ _ | refine .setCell ?_ ?_ _ | refine .alloc ?_ ?_ _ | omega | (simp <;> omega)),HE.out.alloc _⟩
        case measure=>simp [intOf];omega
    · have e:k=n:=by omega
      have hd0:decide ((k:Int)<(n:Int))=false:=by simp;omega
      have HO:Hid (wr.ownsRow w.heap.size 232 3 v (l.filter Num.fullB).length ((l.filter Num.fullB).flatMap clC)):=by
        unfold Hid
        rw [e,HN.out,List.take_length] at hown
        exact hown
      clear hown
      go_wp2
      go_ret
      exact ⟨v,rfl,hb,HO.out⟩
end Go.Proofs.YtkhcjkmifddlbabGreatDoor
namespace Go.Proofs.YtkhcjkmifddlbabGreatDoor
namespace Num
def Srt:Int→List Cl→Prop
  | _,[]=>True
  | lo,c::r=>lo≤c.1∧c.1<64∧Srt (c.1+1) r
theorem srt_mono:∀{l:List Cl} {lo lo':Int},Srt lo l→lo'≤lo→Srt lo' l:=by
  intro l lo lo' h hl
  cases l with
  | nil=>trivial
  | cons c r=>exact ⟨by have:=h.1;omega,h.2.1,h.2.2⟩
theorem srt_len:∀(l:List Cl) (lo:Int),Srt lo l→lo≤64→(l.length:Int)≤64-lo:=by
  intro l
  induction l with
  | nil=>intro lo _ h;simp;omega
  | cons c r ih=>
    intro lo h hl
    have:=ih (c.1+1) h.2.2 (by have:=h.2.1;omega)
    have:=h.1
    simp only [List.length_cons]
    omega
theorem srt_le {l:List Cl} (h:Srt 0 l):l.length≤64:=by have:=srt_len l 0 h (by omega);omega
theorem srt_filter (p:Cl→Bool):∀(l:List Cl) (lo:Int),Srt lo l→Srt lo (l.filter p):=by
  intro l
  induction l with
  | nil=>intro lo h;exact h
  | cons c r ih=>
    intro lo h
    by_cases e:p c=true
    · rw [List.filter_cons_of_pos e]
      exact ⟨h.1,h.2.1,ih _ h.2.2⟩
    · rw [List.filter_cons_of_neg e]
      exact srt_mono (ih _ h.2.2) (by have:=h.1;omega)
theorem srt_ins:∀(l:List Cl) (lo:Int) (k:Nat) (s:Cl),Srt lo l→k≤l.length→(∀i (hi:i<l.length),i<k→l[i].1<s.1)→(∀h:k<l.length,s.1<l[k].1)→lo≤s.1→s.1<64→Srt lo (insC l k s):=by
  intro l
  induction l with
  | nil => intro lo k s _ hk _ _ h1 h2; have : k = 0 := by simpa using hk
           subst this;exact ⟨h1,h2,trivial⟩
  | cons c r ih=>
    intro lo k s h hk ha hb h1 h2
    cases k with
    | zero=>
      have:=hb (by simp)
      simp only [List.getElem_cons_zero] at this
      exact ⟨h1,h2,by show s.1+1≤c.1;omega,h.2.1,h.2.2⟩
    | succ k=>
      have h0:=ha 0 (by simp) (by omega)
      simp only [List.getElem_cons_zero] at h0
      refine ⟨h.1,h.2.1,ih (c.1+1) k s h.2.2 (by simpa using hk) (fun i hi hik=>?_) (fun hk2=>?_) (by omega) h2⟩
      · have:=ha (i+1) (by simpa using hi) (by omega)
        simpa using this
      · have:=hb (by simpa using hk2)
        simpa using this
theorem srt_set:∀(l:List Cl) (lo:Int) (k:Nat) (s:Cl) (hk:k<l.length),Srt lo l→l[k].1=s.1→Srt lo (setC l k s):=by
  intro l
  induction l with
  | nil=>intro lo k s hk;simp at hk
  | cons c r ih=>
    intro lo k s hk h he
    cases k with
    | zero=>
      simp only [List.getElem_cons_zero] at he
      exact ⟨by show lo≤s.1;rw [←he];exact h.1,by show s.1<64;rw [←he];exact h.2.1,by show Srt (s.1+1) r;rw [←he];exact h.2.2⟩
    | succ k=>
      have he:r[k]'(by simpa using hk)=r[k]'(by simpa using hk)∧(r[k]'(by simpa using hk)).1=s.1:=⟨rfl,by simpa using he⟩
      exact ⟨h.1,h.2.1,ih (c.1+1) k s (by simpa using hk) h.2.2 he.2⟩
def insU (l:List Cl) (k:Nat) (s:Cl) (i:Nat):List Cl:=if k<i then insC (l.take i) k s else l.take i
theorem insU_lt {l:List Cl} {k i:Nat} {s:Cl} (h:i<k) (hi:i<l.length):insU l k s (i+1)=insU l k s i++[l[i]]:=by
  unfold insU
  rw [if_neg (by omega),if_neg (by omega),List.take_succ_eq_append_getElem hi]
theorem insU_eq {l:List Cl} {k:Nat} {s:Cl} (hi:k<l.length):insU l k s (k+1)=insU l k s k++[s]++[l[k]]:=by
  unfold insU insC
  rw [if_pos (by omega),if_neg (by omega),List.take_succ_eq_append_getElem hi]
  have hl:(l.take k).length=k:=by simp;omega
  rw [List.take_append_of_le_length (by omega),List.drop_append_of_le_length (by omega),List.drop_of_length_le (by omega),List.take_of_length_le (by omega)]
  simp
theorem insU_gt {l:List Cl} {k i:Nat} {s:Cl} (h:k<i) (hi:i<l.length):insU l k s (i+1)=insU l k s i++[l[i]]:=by
  unfold insU insC
  rw [if_pos (by omega),if_pos h,List.take_succ_eq_append_getElem hi]
  have hl:(l.take i).length=i:=by simp;omega
  rw [List.take_append_of_le_length (by omega),List.drop_append_of_le_length (by omega)]
  simp
theorem insU_end {l:List Cl} {k:Nat} {s:Cl} (hk:k<l.length):insU l k s l.length=insC l k s:=by
  unfold insU;rw [if_pos hk,List.take_length]
theorem insU_last (l:List Cl) (s:Cl):insU l l.length s l.length++[s]=insC l l.length s:=by
  unfold insU insC;rw [if_neg (by omega),List.take_length,List.drop_length]
theorem insU_len (l:List Cl) (k:Nat) (s:Cl) (i:Nat):(insU l k s i).length≤i+1:=by
  unfold insU insC
  split <;> simp <;> omega
end Num
end Go.Proofs.YtkhcjkmifddlbabGreatDoor
namespace Go.Proofs.YtkhcjkmifddlbabGreatDoor
open Go.RowKit Go.Deep
set_option maxRecDepth 100000 in
theorem inserted_any (v0:Value) (base k:Nat) (l:List Num.Cl) (s1 s2 s3:Int) (w:World) (hl:l.length≤4096) (hk:k≤l.length) (hv:w.ownsRow base 232 3 v0 l.length (l.flatMap clC)) :
    Calls Tryz.prog 211 #[v0,.int .i64 k,.agg #[.int .i64 s1,.int .i64 s2,.int .i64 s3]] w fun e w'=>∃v,e=.returned v∧Below w.heap.size w w'∧w'.ownsRow w.heap.size 232 3 v (Num.insC l k (s1,s2,s3)).length ((Num.insC l k (s1,s2,s3)).flatMap clC):=by
  obtain ⟨i0,hi0,hz0,hz1,hz2⟩:=info_parts info_cl
  obtain ⟨ao,cap0,rfl,hao⟩:=owns_formN hv
  have HAo:=hide hao
  obtain ⟨n,hn⟩:∃n,n=l.length:=⟨_,rfl⟩
  have HC:Hid (∀i (hi:i<l.length) b,ao=some ⟨b,0,none⟩→b<w.heap.size∧w.cell? ⟨b,i*3,none⟩=some (.int .i64 l[i].1)∧w.cell? ⟨b,i*3+1,none⟩=some (.int .i64 l[i].2.1)∧w.cell? ⟨b,i*3+2,none⟩=some (.int .i64 l[i].2.2)):=fun i hi b e=>by
    subst e
    exact ⟨(hv.lt b rfl).2,owns_cl hv i hi⟩
  rw [←hn] at hl hk ⊢
  have HN:=hide hn
  clear hv hao hn
  go_enter Tryz.func211,Tryz.ntmps211
  go_wp2_with fail
  obtain ⟨sb,hsb⟩:∃sb,sb=w.heap.size:=⟨_,rfl⟩
  obtain ⟨W1,hW1⟩:∃W1,W1=w.alloc (.cells #[.int .i64 s1,.int .i64 s2,.int .i64 s3] 232):=⟨_,rfl⟩
  have hB0:Hid (Below w.heap.size w W1):=by unfold Hid;rw [hW1];exact (Below.refl _ _).alloc (Nat.le_refl _) _
  have hs1:W1.heap.size=sb+1:=by rw [hW1,hsb];simp
  have HQ:Hid (W1.cell? ⟨sb,0,none⟩=some (.int .i64 s1)∧W1.cell? ⟨sb,1,none⟩=some (.int .i64 s2)∧W1.cell? ⟨sb,2,none⟩=some (.int .i64 s3)):=by
    unfold Hid
    rw [hW1,hsb]
    exact ⟨by go_simp,by go_simp,by go_simp⟩
  rw [←hW1,←hsb]
  have hsw:sb=w.heap.size:=hsb
  rw [←hsb] at hB0
  have HSw:=hide hsw
  clear hW1 hsb hsw
  go_loopw [7,12] (fun v t wr=>∃j:Nat,j≤n∧t=.int .i64 j∧Below (sb+1) W1 wr∧wr.ownsRow (sb+1) 232 3 v (Num.insU l k (s1,s2,s3) j).length ((Num.insU l k (s1,s2,s3) j).flatMap clC)) (fun _ t _=>n-(intOf t).toNat)
  case atStart=>exact ⟨0,by omega,rfl,Below.refl _ _,by
    have e:Num.insU l k (s1,s2,s3) 0=[]:=by unfold Num.insU;rw [if_neg (by omega)];rfl
    rw [e];exact World.ownsRow_nil _ _ _ _⟩
  case round=>
    obtain ⟨v,rfl⟩:∃v,v=u7:=⟨_,rfl⟩
    obtain ⟨j,hj,rfl,hb,hown⟩:=hrel
    have hsz:=hb.size
    have q0:=(hb.cell (p:=⟨sb,0,none⟩) (by simp)).trans HQ.out.1
    have q1:=(hb.cell (p:=⟨sb,1,none⟩) (by simp)).trans HQ.out.2.1
    have q2:=(hb.cell (p:=⟨sb,2,none⟩) (by simp)).trans HQ.out.2.2
    have hlen:=Num.insU_len l k (s1,s2,s3) j
    have hsbw:sb<wr.heap.size:=by omega
    by_cases hlt:j<n
    · have hkl:j<l.length:=by rw [←HN.out];exact hlt
      obtain ⟨b,rfl⟩:=HAo.out (by omega)
      obtain ⟨hbl,d0,d1,d2⟩:=HC.out j hkl b rfl
      have hbl:b<sb:=by rw [HSw.out];exact hbl
      have d0:=(hb.cell (p:=⟨b,_,none⟩) (by simp;omega)).trans ((hB0.out.cell (p:=⟨b,_,none⟩) hbl).trans d0)
      have d1:=(hb.cell (p:=⟨b,_,none⟩) (by simp;omega)).trans ((hB0.out.cell (p:=⟨b,_,none⟩) hbl).trans d1)
      have d2:=(hb.cell (p:=⟨b,_,none⟩) (by simp;omega)).trans ((hB0.out.cell (p:=⟨b,_,none⟩) hbl).trans d2)
      have hbw:b<wr.heap.size:=by omega
      have HS:Hid (Num.insU l k (s1,s2,s3) (j+1)=(if j=k then Num.insU l k (s1,s2,s3) j++[(s1,s2,s3)] else Num.insU l k (s1,s2,s3) j)++[l[j]]):=by
        unfold Hid
        by_cases e:j=k
        · subst e;rw [if_pos rfl,Num.insU_eq hkl]
        · rw [if_neg e]
          rcases Nat.lt_or_gt_of_ne e with h | h
          · exact Num.insU_lt h hkl
          · exact Num.insU_gt h hkl
      obtain ⟨c,hc⟩:∃c,c=l[j]:=⟨_,rfl⟩
      rw [←hc] at HS d0 d1 d2
      clear hc
      obtain ⟨c1,c2,c3⟩:=c
      simp only at d0 d1 d2
      have hd1:decide ((j:Int)<(n:Int))=true:=by simp;omega
      have i0':(0:Int)≤(j:Int):=by omega
      have i1':(j:Int)<(n:Int):=by omega
      obtain ⟨L,hL⟩:∃L,L=Num.insU l k (s1,s2,s3) j:=⟨_,rfl⟩
      rw [←hL] at hown hlen HS
      clear hL
      obtain ⟨ln,hln⟩:∃ln,ln=L.length:=⟨_,rfl⟩
      obtain ⟨xs,hxs⟩:∃xs,xs=L.flatMap clC:=⟨_,rfl⟩
      rw [←hln,←hxs] at hown
      rw [←hln] at hlen
      have HLn:=hide hln
      have HXs:=hide hxs
      clear hln hxs
      by_cases he:j=k
      · subst he
        rw [if_pos rfl] at HS
        go_wp2_with (at_builtin;refine wpList_append_lies _ rfl _ _ 229 rfl (sb+1) 232 i0 (.agg #[.int .i64 0,.int .i64 0,.int .i64 0]) 3 24 Tryz.underlying229 hi0 hz0 hz1 hz2 rfl (by omega) v ln xs rfl ((hown.alloc _).alloc _) ⟨wr.heap.size+1,0,none⟩ 1 1 [.int .i64 s1,.int .i64 s2,.int .i64 s3] rfl rfl ?a1 ?a2 (by omega) ?a3 ?a4 ?a5 (wr.heap.size+1+1) (by simp) ?_)
        try (case a1=>exact news_new (wr.alloc _) [.int .i64 s1,.int .i64 s2,.int .i64 s3] _ _ (by simp))
        case a2=>first | exact one_ints _ _ _ | exact ⟨rfl,rfl,rfl⟩
        case a3=>unfold maxLen;omega
        case a4=>omega
        case a5=>first | omega | (simp;omega)
        intro g cap w2 hown2 hgrow hat hlt2
        have hb2:Below (sb+1) W1 w2:=((hb.alloc (by omega) _).alloc (by simp;omega) _).grown hgrow (by simp;omega) (fun q hq=>(hown.lt q hq).1)
        have hne:some wr.heap.size≠v.ownBlock:=owns_ne_new hown (Nat.le_refl _)
        have p0:w2.cell? ⟨wr.heap.size,0,none⟩=some (.int .i64 c1):=(hgrow.cell_far ⟨wr.heap.size,0,none⟩ (by simp;omega) hne).trans (by go_simp)
        have p1:w2.cell? ⟨wr.heap.size,1,none⟩=some (.int .i64 c2):=(hgrow.cell_far ⟨wr.heap.size,1,none⟩ (by simp;omega) hne).trans (by go_simp)
        have p2:w2.cell? ⟨wr.heap.size,2,none⟩=some (.int .i64 c3):=(hgrow.cell_far ⟨wr.heap.size,2,none⟩ (by simp;omega) hne).trans (by go_simp)
        have hs2:wr.heap.size+1<w2.heap.size:=by have:=hgrow.size;simp at this;omega
        have hwr2:wr.heap.size<w2.heap.size:=by omega
        have HXF:Hid ((L++[(s1,s2,s3)]).flatMap clC=xs++[.int .i64 s1,.int .i64 s2,.int .i64 s3]):=by unfold Hid;rw [HXs.out];simp [clC]
        obtain ⟨ys,hys⟩:∃ys,ys=xs++[.int .i64 s1,.int .i64 s2,.int .i64 s3]:=⟨_,rfl⟩
        rw [←hys] at hown2 HXF
        obtain ⟨v2,hv2⟩:∃v2,v2=Value.slice (some ⟨g,0,none⟩) (ln+1) cap:=⟨_,rfl⟩
        rw [←hv2] at hown2 ⊢
        clear hgrow hat hne hown hb d0 d1 d2 q0 q1 q2 hys hv2
        go_wp2_with (at_builtin;refine wpList_append_lies _ rfl _ _ 229 rfl (sb+1) 232 i0 (.agg #[.int .i64 0,.int .i64 0,.int .i64 0]) 3 24 Tryz.underlying229 hi0 hz0 hz1 hz2 rfl (by omega) v2 (ln+1) ys rfl (hown2.alloc _) ⟨w2.heap.size,0,none⟩ 1 1 [.int .i64 c1,.int .i64 c2,.int .i64 c3] rfl rfl ?b1 ?b2 (by omega) ?b3 ?b4 ?b5 (w2.heap.size+1) (by simp) ?_)
        try (case b1=>exact news_new w2 [.int .i64 c1,.int .i64 c2,.int .i64 c3] _ _ rfl)
        case b2=>first | exact one_ints _ _ _ | exact ⟨rfl,rfl,rfl⟩
        case b3=>unfold maxLen;omega
        case b4=>omega
        case b5=>first | omega | (simp;omega)
        intro g3 cap3 w3 hown3 hgrow3 hat3 hlt3
        have hb3:Below (sb+1) W1 w3:=(hb2.alloc (by have:=hb2.size;omega) _).grown hgrow3 (by have:=hb2.size;simp;omega) (fun q hq=>(hown2.lt q hq).1)
        have HO3:=hide (push_cl (l:=L++[(s1,s2,s3)]) (l':=Num.insU l j (s1,s2,s3) (j+1)) (p:=(c1,c2,c3)) (by rw [HXF.out];exact hown3) HS.out (by rw [HLn.out];simp))
        clear hown3 hgrow3 hat3 hown2 hb2
        go_wp2
        go_roundw
        case rel=>exact ⟨j+1,by omega,by go_num,hb3,HO3.out⟩
        case measure=>simp [intOf];omega
      · rw [if_neg he] at HS
        have hde:decide ((j:Int)=(k:Int))=false:=by simp;omega
        go_wp2_with (at_builtin;refine wpList_append_lies _ rfl _ _ 229 rfl (sb+1) 232 i0 (.agg #[.int .i64 0,.int .i64 0,.int .i64 0]) 3 24 Tryz.underlying229 hi0 hz0 hz1 hz2 rfl (by omega) v ln xs rfl ((hown.alloc _).alloc _) ⟨wr.heap.size+1,0,none⟩ 1 1 [.int .i64 c1,.int .i64 c2,.int .i64 c3] rfl rfl ?c1 ?c2 (by omega) ?c3 ?c4 ?c5 (wr.heap.size+1+1) (by simp) ?_)
        try (case c1=>exact news_new (wr.alloc _) [.int .i64 c1,.int .i64 c2,.int .i64 c3] _ _ (by simp))
        case c2=>first | exact one_ints _ _ _ | exact ⟨rfl,rfl,rfl⟩
        case c3=>unfold maxLen;omega
        case c4=>omega
        case c5=>first | omega | (simp;omega)
        intro g cap w2 hown2 hgrow hat hlt2
        have hb2:Below (sb+1) W1 w2:=((hb.alloc (by omega) _).alloc (by simp;omega) _).grown hgrow (by simp;omega) (fun q hq=>(hown.lt q hq).1)
        have HO2:=hide (push_cl (l:=L) (l':=Num.insU l k (s1,s2,s3) (j+1)) (p:=(c1,c2,c3)) (by rw [←HXs.out];exact hown2) HS.out (by rw [HLn.out]))
        clear hown2 hgrow hat hown hb d0 d1 d2 q0 q1 q2
        go_wp2
        go_roundw
        case rel=>exact ⟨j+1,by omega,by go_num,hb2,HO2.out⟩
        case measure=>simp [intOf];omega
    · have e:j=n:=by omega
      subst e
      have hd0:decide ((j:Int)<(j:Int))=false:=by simp
      by_cases hkn:k<j
      · have hdk:decide ((j:Int)≤(k:Int))=false:=by simp;omega
        have HO:Hid (wr.ownsRow w.heap.size 232 3 v (Num.insC l k (s1,s2,s3)).length ((Num.insC l k (s1,s2,s3)).flatMap clC)):=by
          unfold Hid
          rw [HN.out,Num.insU_end (by rw [←HN.out];exact hkn)] at hown
          exact owns_mono hown (by rw [←HSw.out];omega)
        have HB:Hid (Below w.heap.size w wr):=by
          have h:=hB0.out.trans (hb.mono (by omega))
          rw [HSw.out] at h
          exact h
        clear hown hb
        go_wp2
        go_ret
        exact ⟨v,rfl,HB.out,HO.out⟩
      · have e2:k=j:=by omega
        subst e2
        obtain ⟨L,hL⟩:∃L,L=Num.insU l k (s1,s2,s3) k:=⟨_,rfl⟩
        rw [←hL] at hown hlen
        have HS:Hid (Num.insC l k (s1,s2,s3)=L++[(s1,s2,s3)]):=by
          unfold Hid;rw [hL]
          have:=Num.insU_last l (s1,s2,s3)
          rw [←HN.out] at this
          exact this.symm
        clear hL
        obtain ⟨ln,hln⟩:∃ln,ln=L.length:=⟨_,rfl⟩
        obtain ⟨xs,hxs⟩:∃xs,xs=L.flatMap clC:=⟨_,rfl⟩
        rw [←hln,←hxs] at hown
        rw [←hln] at hlen
        have HLn:=hide hln
        have HXs:=hide hxs
        clear hln hxs
        go_wp2_with (at_builtin;refine wpList_append_lies _ rfl _ _ 229 rfl (sb+1) 232 i0 (.agg #[.int .i64 0,.int .i64 0,.int .i64 0]) 3 24 Tryz.underlying229 hi0 hz0 hz1 hz2 rfl (by omega) v ln xs rfl (hown.alloc _) ⟨wr.heap.size,0,none⟩ 1 1 [.int .i64 s1,.int .i64 s2,.int .i64 s3] rfl rfl ?d1 ?d2 (by omega) ?d3 ?d4 ?d5 (wr.heap.size+1) (by simp) ?_)
        try (case d1=>exact news_new wr [.int .i64 s1,.int .i64 s2,.int .i64 s3] _ _ rfl)
        case d2=>first | exact one_ints _ _ _ | exact ⟨rfl,rfl,rfl⟩
        case d3=>unfold maxLen;omega
        case d4=>omega
        case d5=>first | omega | (simp;omega)
        intro g cap w2 hown2 hgrow hat hlt2
        have hb2:Below (sb+1) W1 w2:=(hb.alloc (by omega) _).grown hgrow (by simp;omega) (fun q hq=>(hown.lt q hq).1)
        have HB:Hid (Below w.heap.size w w2):=by
          have h:=hB0.out.trans (hb2.mono (by omega))
          rw [HSw.out] at h
          exact h
        have HO2:=hide (owns_mono (base':=w.heap.size) (push_cl (l:=L) (l':=Num.insC l k (s1,s2,s3)) (p:=(s1,s2,s3)) (by rw [←HXs.out];exact hown2) HS.out (by rw [HLn.out])) (by rw [←HSw.out];omega))
        clear hown2 hgrow hat hown hb hb2 q0 q1 q2
        go_wp2
        go_ret
        exact ⟨_,rfl,HB.out,HO2.out⟩
theorem rowA_take (x:Int) {l:List Num.Cl} {k:Nat} (hk:k<l.length):Num.rowA x (l.take (k+1))=Num.rowA x (l.take k)+Num.cellA x l[k]:=by
  rw [List.take_succ_eq_append_getElem hk,Num.rowA_append];simp [Num.rowA]
set_option maxRecDepth 100000 in
theorem rowsArea_any (b g H j base:Nat) (x B:Int) (V:Nat→Value) (l:List Num.Cl) (tt:TypeId) (f:Nat→Value) (w:World) (hj:j<H) (hl:l.length≤4096)
    (hR:w.rowIs b tt 7 f) (f6:f 6=.slice (some ⟨g,0,none⟩) H H) (hG:w.rowIs g 229 H V) (hV:w.ownsRow base 232 3 (V j) l.length (l.flatMap clC)) (hB:B≤4611686018427387904) (hm:Num.mass l≤B) :
    Calls Tryz.prog 187 #[.pointer (some ⟨b,6,none⟩),.int .i64 x,.int .i64 j] w fun e w'=>e=.returned (.int .i64 (Num.rowA x l))∧Below w.heap.size w w':=by
  obtain ⟨ao,cap0,hvj,hao⟩:=owns_formN hV
  have k6:=hR.cell (i:=6) (by omega)
  rw [f6] at k6
  have kj:=hG.cell (i:=j) hj
  rw [hvj] at kj hV
  have HAo:=hide hao
  obtain ⟨n,hn⟩:∃n,n=l.length:=⟨_,rfl⟩
  have HC:Hid (∀i (hi:i<l.length) q,ao=some ⟨q,0,none⟩→q<w.heap.size∧w.cell? ⟨q,i*3,none⟩=some (.int .i64 l[i].1)∧w.cell? ⟨q,i*3+1,none⟩=some (.int .i64 l[i].2.1)∧w.cell? ⟨q,i*3+2,none⟩=some (.int .i64 l[i].2.2)):=fun i hi q e=>by
    subst e
    exact ⟨(hV.lt q rfl).2,owns_cl hV i hi⟩
  rw [←hn] at hl kj
  have HN:=hide hn
  have HM:=hide hm
  have j0:(0:Int)≤(j:Int):=by omega
  have j1:(j:Int)<(H:Int):=by omega
  have jd:decide ((H:Int)≤(j:Int))=false:=by simp;omega
  have jd0:decide ((j:Int)<0)=false:=by simp
  clear hV hao hn hR hG hvj hm
  go_enter Tryz.func187,Tryz.ntmps187
  go_wp2_with fail
  go_loopw [7,29] (fun s t wr=>∃k:Nat,k≤n∧t=.int .i64 k∧s=.int .i64 (Num.rowA x (l.take k))∧Below w.heap.size w wr) (fun _ t _=>n-(intOf t).toNat)
  case atStart=>exact ⟨0,by omega,rfl,rfl,Below.refl _ _⟩
  case round=>
    obtain ⟨k,hk,rfl,rfl,hb⟩:=hrel
    have hsz:=hb.size
    by_cases hlt:k<n
    · have hkl:k<l.length:=by rw [←HN.out];exact hlt
      obtain ⟨q,rfl⟩:=HAo.out (by omega)
      obtain ⟨hbl,d0,d1,d2⟩:=HC.out k hkl q rfl
      have d0:=(hb.cell (p:=⟨q,_,none⟩) hbl).trans d0
      have d1:=(hb.cell (p:=⟨q,_,none⟩) hbl).trans d1
      have d2:=(hb.cell (p:=⟨q,_,none⟩) hbl).trans d2
      have hbw:q<wr.heap.size:=by omega
      have HT:=hide (rowA_take x hkl)
      have hbd:=Num.rowA_bd x (l.take (k+1))
      have hbe:=Num.rowA_bd x (l.take k)
      have m1:=Num.mass_take l (k+1)
      have m0:=Num.mass_take l k
      have hmm:=HM.out
      obtain ⟨S0,hS0⟩:∃S0,S0=Num.rowA x (l.take k):=⟨_,rfl⟩
      obtain ⟨S1,hS1⟩:∃S1,S1=Num.rowA x (l.take (k+1)):=⟨_,rfl⟩
      have s0:-4611686018427387904≤S0∧S0≤4611686018427387904:=by omega
      have s1:-4611686018427387904≤S1∧S1≤4611686018427387904:=by omega
      rw [←hS0,←hS1] at HT
      rw [←hS0]
      have HS1:=hide hS1
      clear hbd hbe m1 m0 hmm hS0 hS1
      obtain ⟨c,hc⟩:∃c,c=l[k]:=⟨_,rfl⟩
      rw [←hc] at HT d0 d1 d2
      clear hc
      obtain ⟨c1,c2,c3⟩:=c
      simp only at d0 d1 d2
      have hd1:decide ((k:Int)<(n:Int))=true:=by simp;omega
      have i0':(0:Int)≤(k:Int):=by omega
      have i1':(k:Int)<(n:Int):=by omega
      have HT2:=HT.out
      unfold Num.cellA at HT2
      simp only at HT2
      rcases Int.lt_trichotomy c1 x with hx | hx | hx
      · rw [if_pos hx,if_neg (by omega)] at HT2
        go_wp2
        go_roundw
        case rel=>exact ⟨k+1,by omega,by go_num,by rw [←HS1.out,HT2];congr 1;omega,by (repeat any_goals first | exact .refl _ _ | assumption | refine .drew ?_ | refine below_drewN ?_ _ | refine .setCell ?_ ?_ _ | refine .alloc ?_ ?_ _ | omega | (simp <;> omega))⟩
        case measure=>simp [intOf];omega
      · rw [if_neg (by omega),if_pos hx] at HT2
        go_wp2
        go_roundw
        case rel=>exact ⟨k+1,by omega,by go_num,by rw [←HS1.out,HT2];congr 1;omega,by (repeat any_goals first | exact .refl _ _ | assumption | refine .drew ?_ | refine below_drewN ?_ _ | refine .setCell ?_ ?_ _ | refine .alloc ?_ ?_ _ | omega | (simp <;> omega))⟩
        case measure=>simp [intOf];omega
      · rw [if_neg (by omega),if_neg (by omega)] at HT2
        go_wp2
        go_roundw
        case rel=>exact ⟨k+1,by omega,by go_num,by rw [←HS1.out,HT2];congr 1;omega,by (repeat any_goals first | exact .refl _ _ | assumption | refine .drew ?_ | refine below_drewN ?_ _ | refine .setCell ?_ ?_ _ | refine .alloc ?_ ?_ _ | omega | (simp <;> omega))⟩
        case measure=>simp [intOf];omega
    · have e:k=n:=by omega
      have hd0:decide ((k:Int)<(n:Int))=false:=by simp;omega
      have HE:Hid (Num.rowA x (l.take k)=Num.rowA x l):=by unfold Hid;rw [e,HN.out,List.take_length]
      go_wp2
      go_ret
      exact ⟨ret_int HE.out,hb⟩
structure Rws (w:World) (g H:Nat) (V:Nat→Value) (R:Nat→List Num.Cl):Prop where
  outer:w.rowIs g 229 H V
  inner:∀j,j<H→w.ownsRow 0 232 3 (V j) (R j).length ((R j).flatMap clC)
  inj:∀i j,i<H→j<H→i≠j→∀q,(V i).ownBlock=some q→(V j).ownBlock≠some q
  srt:∀j,j<H→Num.Srt 0 (R j)
def rwS (g H:Nat) (V:Nat→Value) (q:Nat):Prop:=q=g∨∃j,j<H∧(V j).ownBlock=some q
theorem Rws.touch {w w':World} {g H:Nat} {V:Nat→Value} {R:Nat→List Num.Cl} {S:Nat→Prop} (h:Rws w g H V R) (t:Touch S w w') (hS:∀q,rwS g H V q→¬S q):Rws w' g H V R:=
  ⟨t.row h.outer (hS g (.inl rfl)),fun j hj=>owns_of_block (h.inner j hj) (fun b hb=>t.block b ((h.inner j hj).lt b hb).2 (hS b (.inr ⟨j,hj,hb⟩))),h.inj,h.srt⟩
theorem Rws.ne {w:World} {g H:Nat} {V:Nat→Value} {R:Nat→List Num.Cl} (h:Rws w g H V R) {j b:Nat} (hj:j<H) (hb:(V j).ownBlock=some b):b≠g:=fun e=>by
  have h1:=owns_ty (h.inner j hj) hb
  rw [e,row_ty h.outer] at h1
  simp at h1
theorem Rws.lt {w:World} {g H:Nat} {V:Nat→Value} {R:Nat→List Num.Cl} (h:Rws w g H V R) {q:Nat} (hq:rwS g H V q):q<w.heap.size:=by
  rcases hq with rfl | ⟨j,hj,hb⟩
  · exact h.outer.lt
  · exact ((h.inner j hj).lt q hb).2
theorem Rws.put {w w1:World} {g H r base:Nat} {V:Nat→Value} {R:Nat→List Num.Cl} {v:Value} {l:List Num.Cl} (h:Rws w g H V R) (hb:Below w.heap.size w w1) (hown:w1.ownsRow base 232 3 v l.length (l.flatMap clC)) (hbase:w.heap.size≤base) (hs:Num.Srt 0 l) :
    Rws (w1.setCell ⟨g,r,none⟩ v) g H (fun j=>if j=r then v else V j) (fun j=>if j=r then l else R j):=by
  have hgl:=h.outer.lt
  have ho1:w1.rowIs g 229 H V:=row_below h.outer hb hgl
  have hne:∀b,b≠g→(w1.setCell ⟨g,r,none⟩ v).heap[b]? = w1.heap[b]?:=fun b hb=>blk_setCell_other _ _ _ _ (by simpa using hb)
  refine ⟨ho1.set r v,fun j hj=>?_,fun i j hi hj hij q hq=>?_,fun j hj=>?_⟩
  · by_cases e:j=r
    · simp only [if_pos e]
      refine owns_mono (base:=base) (owns_of_block hown (fun b hb2=>hne b (fun e2=>?_))) (Nat.zero_le _)
      have:=(hown.lt b hb2).1;omega
    · simp only [if_neg e]
      have h1:=h.inner j hj
      exact owns_of_block h1 (fun b hb2=>by rw [hne b (h.ne hj hb2),hb.block b (h1.lt b hb2).2])
  · by_cases e:i=r
    · simp only [if_pos e] at hq
      simp only [if_neg (fun e2:j=r=>hij (by rw [e,e2]))]
      intro e2
      have:=(hown.lt q hq).1
      have:=((h.inner j hj).lt q e2).2
      omega
    · simp only [if_neg e] at hq
      by_cases e2:j=r
      · simp only [if_pos e2]
        intro e3
        have:=(hown.lt q e3).1
        have:=((h.inner i hi).lt q hq).2
        omega
      · simp only [if_neg e2]
        exact h.inj i j hi hj hij q hq
  · by_cases e:j=r
    · simp only [if_pos e];exact hs
    · simp only [if_neg e];exact h.srt j hj
theorem owns_putC {w:World} {base q n cap sz i:Nat} {t:TypeId} {xs:List Value} (h:w.ownsRow base t sz (.slice (some ⟨q,0,none⟩) n cap) n xs) (u:Value):(w.setCell ⟨q,i,none⟩ u).ownsRow base t sz (.slice (some ⟨q,0,none⟩) n cap) n (xs.set i u):=by
  refine ⟨by rw [List.length_set];exact h.1,?_⟩
  rcases h.2 with ⟨e,_⟩ | ⟨g,c2,cur,e,hb,hg,hn,hm,hsz,htk⟩
  · cases e
  · injection e with e1 e2 e3
    injection e1 with e1
    injection e1 with e1
    subst e1 e3
    refine .inr ⟨q,cap,cur.setIfInBounds i u,rfl,hb,?_,hn,hm,by simpa using hsz,?_⟩
    · simp [World.setCell,Array.getElem?_modify,hg]
    · rw [Array.toList_setIfInBounds,List.take_set,htk]
theorem flat_set:∀(l:List Num.Cl) (k:Nat) (hk:k<l.length) (s:Num.Cl),l[k].1=s.1→(Num.setC l k s).flatMap clC=((l.flatMap clC).set (k*3+1) (.int .i64 (l[k].2.1+s.2.1))).set (k*3+2) (.int .i64 (l[k].2.2+s.2.2)):=by
  intro l
  induction l with
  | nil=>intro k hk;simp at hk
  | cons x r ih=>
    intro k hk s hc
    cases k with
    | zero=>
      simp only [List.getElem_cons_zero] at hc ⊢
      simp [Num.setC,clC,hc]
    | succ k=>
      have hk2:k<r.length:=by simpa using hk
      have hc2:r[k].1=s.1:=by simpa using hc
      have e:Num.setC (x::r) (k+1) s=x::Num.setC r k s:=by simp [Num.setC]
      rw [e,List.flatMap_cons,List.flatMap_cons,ih k hk2 s hc2]
      have l3:(clC x).length=3:=rfl
      rw [List.set_append_right _ _ (by omega),List.set_append_right _ _ (by omega),l3,show (k+1)*3+1-3=k*3+1 by omega,show (k+1)*3+2-3=k*3+2 by omega]
      simp only [List.getElem_cons_succ]
theorem set_len {l:List Num.Cl} {k:Nat} {s:Num.Cl}:(Num.setC l k s).length=l.length:=by unfold Num.setC;simp
theorem Rws.more {w:World} {g H r k q cap:Nat} {V:Nat→Value} {R:Nat→List Num.Cl} {s:Num.Cl} (h:Rws w g H V R) (hr:r<H) (hk:k<(R r).length) (hv:V r=.slice (some ⟨q,0,none⟩) (R r).length cap) (hc:(R r)[k].1=s.1) :
    Rws ((w.setCell ⟨q,k*3+1,none⟩ (.int .i64 ((R r)[k].2.1+s.2.1))).setCell ⟨q,k*3+2,none⟩ (.int .i64 ((R r)[k].2.2+s.2.2))) g H V (fun j=>if j=r then Num.setC (R r) k s else R j):=by
  have hq:(V r).ownBlock=some q:=by rw [hv];rfl
  have hqg:=h.ne hr hq
  have hne:∀b,b≠q→((w.setCell ⟨q,k*3+1,none⟩ (.int .i64 ((R r)[k].2.1+s.2.1))).setCell ⟨q,k*3+2,none⟩ (.int .i64 ((R r)[k].2.2+s.2.2))).heap[b]? = w.heap[b]?:=fun b hb=>by
    rw [blk_setCell_other _ _ _ _ (by simpa using hb),blk_setCell_other _ _ _ _ (by simpa using hb)]
  refine ⟨h.outer.of_block (hne g (fun e=>hqg e.symm)),fun j hj=>?_,h.inj,fun j hj=>?_⟩
  · by_cases e:j=r
    · subst e
      simp only [if_true]
      have h1:=h.inner j hj
      rw [hv] at h1 ⊢
      rw [set_len,flat_set _ _ hk s hc]
      exact owns_putC (owns_putC h1 _) _
    · simp only [if_neg e]
      exact owns_of_block (h.inner j hj) (fun b hb=>hne b (fun e2=>h.inj r j hr hj (fun e3=>e e3.symm) q hq (by rw [←e2];exact hb)))
  · by_cases e:j=r
    · subst e
      simp only [if_true]
      exact Num.srt_set _ _ _ _ hk (h.srt j hj) hc
    · simp only [if_neg e];exact h.srt j hj
theorem owns_frozen {w:World} {base q n cap sz:Nat} {t:TypeId} {xs:List Value} (h:w.ownsRow base t sz (.slice (some ⟨q,0,none⟩) n cap) n xs) (i:Nat):w.frozen? ⟨q,i,none⟩=false:=by
  rcases h.2 with ⟨e,_⟩ | ⟨g,c2,cur,e,hb,hg,_⟩
  · cases e
  · injection e with e1 e2 e3
    injection e1 with e1
    injection e1 with e1
    subst e1
    simp [World.frozen?,hg]
theorem keep7 {w w':World} {b g r sb:Nat} {x0 x1 x2 x3 x4 x5:Value} (hb:Below w.heap.size w w') (h1:b<w.heap.size) (h2:sb<w.heap.size) (h3:g<w.heap.size)
    (h:w.cell? ⟨b,6,none⟩=some x0∧w.cell? ⟨sb,0,none⟩=some x1∧w.cell? ⟨sb,1,none⟩=some x2∧w.cell? ⟨sb,2,none⟩=some x3∧w.cell? ⟨sb,3,none⟩=some x4∧w.cell? ⟨g,r,none⟩=some x5∧w.frozen? ⟨g,r,none⟩=false) :
    w'.cell? ⟨b,6,none⟩=some x0∧w'.cell? ⟨sb,0,none⟩=some x1∧w'.cell? ⟨sb,1,none⟩=some x2∧w'.cell? ⟨sb,2,none⟩=some x3∧w'.cell? ⟨sb,3,none⟩=some x4∧w'.cell? ⟨g,r,none⟩=some x5∧w'.frozen? ⟨g,r,none⟩=false:=
  ⟨(hb.cell (p:=⟨b,_,none⟩) h1).trans h.1,(hb.cell (p:=⟨sb,_,none⟩) h2).trans h.2.1,(hb.cell (p:=⟨sb,_,none⟩) h2).trans h.2.2.1,(hb.cell (p:=⟨sb,_,none⟩) h2).trans h.2.2.2.1,(hb.cell (p:=⟨sb,_,none⟩) h2).trans h.2.2.2.2.1,(hb.cell (p:=⟨g,_,none⟩) h3).trans h.2.2.2.2.2.1,(hb.frozen (p:=⟨g,_,none⟩) h3).trans h.2.2.2.2.2.2⟩
theorem keep5 {w:World} {b g r sb:Nat} {v x0 x1 x2 x3 x4:Value} (h1:b≠g) (h2:sb≠g)
    (h:w.cell? ⟨b,6,none⟩=some x0∧w.cell? ⟨sb,0,none⟩=some x1∧w.cell? ⟨sb,1,none⟩=some x2∧w.cell? ⟨sb,2,none⟩=some x3∧w.cell? ⟨sb,3,none⟩=some x4) :
    (w.setCell ⟨g,r,none⟩ v).cell? ⟨b,6,none⟩=some x0∧(w.setCell ⟨g,r,none⟩ v).cell? ⟨sb,0,none⟩=some x1∧(w.setCell ⟨g,r,none⟩ v).cell? ⟨sb,1,none⟩=some x2∧(w.setCell ⟨g,r,none⟩ v).cell? ⟨sb,2,none⟩=some x3∧(w.setCell ⟨g,r,none⟩ v).cell? ⟨sb,3,none⟩=some x4:=by
  have e:∀b' i,b'≠g→(w.setCell ⟨g,r,none⟩ v).cell? ⟨b',i,none⟩=w.cell? ⟨b',i,none⟩:=fun b' i hb=>World.cell?_of_block (blk_setCell_other _ _ _ _ (by simpa using hb))
  rw [e _ _ h1,e _ _ h2,e _ _ h2,e _ _ h2,e _ _ h2]
  exact h
theorem Rws.of_heap {w w':World} {g H:Nat} {V:Nat→Value} {R:Nat→List Num.Cl} (h:Rws w g H V R) (e:w'.heap=w.heap):Rws w' g H V R:=
  ⟨h.outer.of_block (by rw [e]),fun j hj=>owns_of_block (h.inner j hj) (fun b _=>by rw [e]),h.inj,h.srt⟩
set_option maxRecDepth 100000 in
theorem rowsAdd_any (b g H r c:Nat) (a1 b1 B:Int) (V:Nat→Value) (R:Nat→List Num.Cl) (tt:TypeId) (f:Nat→Value) (w:World) (hr:r<H) (hc:c<64)
    (hR:w.rowIs b tt 7 f) (f6:f 6=.slice (some ⟨g,0,none⟩) H H) (hG:Rws w g H V R) (hbg:¬rwS g H V b) (hB:B≤4611686018427387904) (hm:Num.mass (R r)≤B) (ha:-8192≤a1∧a1≤8192) (hb:-8192≤b1∧b1≤8192) :
    Calls Tryz.prog 207 #[.pointer (some ⟨b,6,none⟩),.agg #[.int .i64 r,.int .i64 c,.int .i64 a1,.int .i64 b1]] w fun e w'=>e=.returned (.tuple #[])∧Touch (rwS g H V) w w' ∧
      ∃V' R',Rws w' g H V' R'∧(∀j,j≠r→R' j=R j)∧(∀x,Num.rowA x (R' r)=Num.rowA x (R r)+Num.cellA x ((c:Int),a1,b1))∧Num.mass (R' r)≤Num.mass (R r)+(Num.sz a1+Num.sz b1)∧∀q,rwS g H V' q→rwS g H V q∨w.heap.size≤q:=by
  have hl:=Num.srt_le (hG.srt r hr)
  have HG:=hide hG
  obtain ⟨ao,cap0,hvr,hao⟩:=owns_formN (hG.inner r hr)
  have HAo:=hide hao
  have HVr:=hide hvr
  have HS:=hide (sh4_row r c a1 b1 w 247)
  have HR:=hide (hR.alloc (.cells #[.int .i64 (r:Int),.int .i64 (c:Int),.int .i64 a1,.int .i64 b1] 247))
  have hTo:Hid (Touch (rwS g H V) w (w.alloc (.cells #[.int .i64 (r:Int),.int .i64 (c:Int),.int .i64 a1,.int .i64 b1] 247))):=(Touch.refl _ _).alloc _
  have HG1:Hid (Rws (w.alloc (.cells #[.int .i64 (r:Int),.int .i64 (c:Int),.int .i64 a1,.int .i64 b1] 247)) g H V R):=hG.touch (S:=fun _=>False) ((Touch.refl _ _).alloc _) (fun _ _ e=>e)
  have hgs:g<w.heap.size:=hG.outer.lt
  have hbs:b<w.heap.size:=hR.lt
  have HRl:Hid (∀q,rwS g H V q→q<w.heap.size):=fun q hq=>hG.lt hq
  obtain ⟨l,hlR⟩:∃l,l=R r:=⟨_,rfl⟩
  rw [←hlR] at hl hm HVr HAo
  have HlR:=hide hlR
  obtain ⟨n,hn⟩:∃n,n=l.length:=⟨_,rfl⟩
  rw [←hn] at hl HVr HAo
  have HN:=hide hn
  have HM:=hide hm
  have HBG:=hide hbg
  clear hR hG hao hvr hlR hn hm hbg
  have j0:(0:Int)≤(r:Int):=by omega
  have j1:(r:Int)<(H:Int):=by omega
  have jd:decide ((H:Int)≤(r:Int))=false:=by simp;omega
  have jd0:decide ((r:Int)<0)=false:=by simp
  go_enter Tryz.func207,Tryz.ntmps207
  go_wp2_with fail
  obtain ⟨sb,hsb⟩:∃sb,sb=w.heap.size:=⟨_,rfl⟩
  obtain ⟨W1,hW1⟩:∃W1,W1=w.alloc (.cells #[.int .i64 (r:Int),.int .i64 (c:Int),.int .i64 a1,.int .i64 b1] 247):=⟨_,rfl⟩
  have hs1:W1.heap.size=sb+1:=by rw [hW1,hsb];simp
  rw [←hsb] at HS hgs hbs HRl
  rw [←hW1] at HS HR hTo HG1
  rw [←hW1,←hsb]
  have HSw:Hid (sb=w.heap.size):=hsb
  clear hW1 hsb
  have s0:=HS.out.cell (i:=0) (by omega)
  have s1:=HS.out.cell (i:=1) (by omega)
  have k6:=HR.out.cell (i:=6) (by omega)
  rw [f6] at k6
  have kr:=HG1.out.outer.cell (i:=r) hr
  rw [HVr.out] at kr
  change W1.cell? ⟨sb,0,none⟩=some (.int .i64 (r:Int)) at s0
  change W1.cell? ⟨sb,1,none⟩=some (.int .i64 (c:Int)) at s1
  go_quiet (fail)
  go_wp2_with fail
  go_quiet (fail)
  go_wp2_with fail
  go_loopw [5] (fun t wr=>∃k:Nat,k≤n∧t=.int .i64 k∧Touch (fun _=>False) W1 wr∧∀i (hi:i<l.length),i<k→l[i].1<(c:Int)) (fun t _=>n-(intOf t).toNat)
  case atStart=>exact ⟨0,by omega,rfl,((Touch.refl _ _).drewN _).drewN _,fun i _ h=>by omega⟩
  case round=>
    obtain ⟨k,hk,rfl,hto,hall⟩:=hrel
    have HAl:=hide hall
    have hGr:=HG1.out.touch hto (fun _ _ e=>e)
    have hSr:=hto.row HS.out (fun e=>e)
    have hRr:=hto.row HR.out (fun e=>e)
    have hOr:=hGr.inner r hr
    rw [←HlR.out,HVr.out] at hOr
    have c0:=hSr.cell (i:=0) (by omega)
    have c1:=hSr.cell (i:=1) (by omega)
    have c2:=hSr.cell (i:=2) (by omega)
    have c3:=hSr.cell (i:=3) (by omega)
    change wr.cell? ⟨sb,0,none⟩=some (.int .i64 (r:Int)) at c0
    change wr.cell? ⟨sb,1,none⟩=some (.int .i64 (c:Int)) at c1
    change wr.cell? ⟨sb,2,none⟩=some (.int .i64 a1) at c2
    change wr.cell? ⟨sb,3,none⟩=some (.int .i64 b1) at c3
    have k6:=hRr.cell (i:=6) (by omega)
    rw [f6] at k6
    have kr:=hGr.outer.cell (i:=r) hr
    rw [HVr.out] at kr
    have hsz:=hto.size
    have hTw:=hide (hTo.out.trans' hto (fun _ e=>e.elim))
    have HGr:=hide hGr
    have hgw:g<wr.heap.size:=by omega
    have hbw:b<wr.heap.size:=by omega
    have hsw:sb<wr.heap.size:=by omega
    by_cases hlt:k<n
    · have hkl:k<l.length:=by rw [←HN.out];exact hlt
      obtain ⟨q,rfl⟩:=HAo.out (by omega)
      rw [HN.out] at hOr
      obtain ⟨d0,d1,d2⟩:=owns_cl hOr k hkl
      have hqw:q<wr.heap.size:=(hOr.lt q rfl).2
      have hd1:decide ((k:Int)<(n:Int))=true:=by simp;omega
      have i0':(0:Int)≤(k:Int):=by omega
      have i1':(k:Int)<(n:Int):=by omega
      obtain ⟨p,hp⟩:∃p,p=l[k]:=⟨_,rfl⟩
      rw [←hp] at d0 d1 d2
      have HP:=hide hp
      by_cases hcl:p.1<(c:Int)
      · have HAl2:Hid (∀i (hi:i<l.length),i<k+1→l[i].1<(c:Int)):=fun i hi hik=>by
          rcases (show i<k∨i=k by omega) with h | h
          · exact HAl.out i hi h
          · subst h;rw [←HP.out];exact hcl
        have HTo:=hide hto
        clear hGr hSr hRr hOr hto hall hp
        go_wp2_with fail
        go_quiet (fail)
        go_wp2
        go_roundw
        case rel=>exact ⟨k+1,by omega,by go_num,HTo.out.drewN _,HAl2.out⟩
        case measure=>simp [intOf];omega
      · have hcd:decide (p.1<(c:Int))=false:=by simp;omega
        have mm:=Num.mass_mem (l:=l) (c:=p) (by rw [hp];exact List.getElem_mem hkl)
        have mb:=HM.out
        have z1:=Num.sz_ge p.2.1
        have z2:=Num.sz_ge p.2.2
        have y1:=Num.sz_nn p.2.1
        have y2:=Num.sz_nn p.2.2
        by_cases hce:p.1=(c:Int)
        · have wa1:IntKind.i64.wrap (p.2.1+a1)=p.2.1+a1:=wrap_ok _ (by omega) (by omega)
          have wb1:IntKind.i64.wrap (p.2.2+b1)=p.2.2+b1:=wrap_ok _ (by omega) (by omega)
          have fz1:wr.frozen? ⟨q,k*3+1,none⟩=false:=owns_frozen hOr _
          have fz2:wr.frozen? ⟨q,k*3+2,none⟩=false:=owns_frozen hOr _
          have hcq:(p.1 == (c:Int))=true:=by simp;exact hce
          have hqV:(V r).ownBlock=some q:=by rw [HVr.out];rfl
          have hqg:q≠g:=HG1.out.ne hr hqV
          have hqb:q≠b:=fun e=>HBG.out (.inr ⟨r,hr,by rw [hqV,e]⟩)
          have hqs:q≠sb:=fun e=>by have:=HRl.out q (.inr ⟨r,hr,hqV⟩);omega
          have HMo:Hid (Rws ((wr.setCell ⟨q,k*3+1,none⟩ (.int .i64 (p.2.1+a1))).setCell ⟨q,k*3+2,none⟩ (.int .i64 (p.2.2+b1))) g H V (fun j=>if j=r then Num.setC (R r) k ((c:Int),a1,b1) else R j)):=by
            have hk2:k<(R r).length:=by rw [←HlR.out];exact hkl
            have hpR:p=(R r)[k]:=by rw [HP.out];simp [HlR.out]
            have h:=HGr.out.more (s:=((c:Int),a1,b1)) hr hk2 (by rw [HVr.out,HN.out,HlR.out]) (by rw [←hpR];exact hce)
            rw [←hpR] at h
            exact h
          have HFin:Hid ((∀x,Num.rowA x (Num.setC l k ((c:Int),a1,b1))=Num.rowA x l+Num.cellA x ((c:Int),a1,b1))∧Num.mass (Num.setC l k ((c:Int),a1,b1))≤Num.mass l+(Num.sz a1+Num.sz b1)):=
            ⟨fun x=>Num.rowA_set x hkl (by rw [←HP.out];exact hce),Num.mass_set hkl⟩
          have HqV:=hide hqV
          clear hGr hSr hRr hOr hto hall hp mm mb y1 y2 hqV
          go_wp2_with fail
          go_quiet (fail)
          go_wp2_with fail
          go_quiet (fail)
          go_wp2_with fail
          go_region
          all_goals go_wp2_with fail
          all_goals go_region
          all_goals go_wp2
          all_goals
            refine bodyPost_ret (results_none rfl _ _ _) rfl ⟨rfl,?_,V,_,HMo.out.of_heap rfl,fun j hj=>if_neg hj,fun x=>?_,?_,fun q h=>.inl h⟩
            · exact (((hTw.out.drewN _).setCell (.inl (.inr ⟨r,hr,HqV.out⟩)) _).setCell (.inl (.inr ⟨r,hr,HqV.out⟩)) _).drew
            · simp only [if_true];rw [←HlR.out];exact HFin.out.1 x
            · simp only [if_true];rw [←HlR.out];exact HFin.out.2
        · have hcq:(p.1 == (c:Int))=false:=by simp;exact hce
          have HIn:Hid (∀w':World,w'.heap=wr.heap→w'.ownsRow 0 232 3 (.slice (some ⟨q,0,none⟩) n cap0) l.length (l.flatMap clC)):=fun w' e=>by
            rw [HN.out]
            exact owns_of_block hOr (fun b _=>by rw [e])
          have hk3:k≤l.length:=by rw [←HN.out];omega
          have hl3:l.length≤4096:=by rw [←HN.out];omega
          have HCall:=hide (fun nd=>inserted_any (.slice (some ⟨q,0,none⟩) n cap0) 0 k l (c:Int) a1 b1 (wr.drewN nd) hl3 hk3 (HIn.out _ rfl))
          have fzg:=hGr.outer.frozen r
          have HSn:Hid (Num.Srt 0 (Num.insC l k ((c:Int),a1,b1))):=by
            have h:=HGr.out.srt r hr
            rw [←HlR.out] at h
            exact Num.srt_ins l 0 k _ h hk3 (fun i hi hik=>HAl.out i hi hik) (fun h=>by rw [←HP.out];omega) (by show (0:Int)≤(c:Int);omega) (by show (c:Int)<64;omega)
          have HK:=hide (And.intro k6 (And.intro c0 (And.intro c1 (And.intro c2 (And.intro c3 (And.intro kr fzg))))))
          have HKa:=hide (And.intro k6 (And.intro c0 (And.intro c1 (And.intro c2 c3))))
          have hbg2:b≠g:=fun e=>HBG.out (.inl e)
          have hsg2:sb≠g:=by omega
          clear hGr hSr hRr hOr hto hall hp mm mb y1 y2
          go_wp2_with fail
          go_quiet (fail)
          go_wp2_with fail
          go_quiet (fail)
          go_wp2_with fail
          go_region_held3 (fun w'=>w'.cell? ⟨b,6,none⟩=some (.slice (some ⟨g,0,none⟩) H H)∧w'.cell? ⟨sb,0,none⟩=some (.int .i64 (r:Int))∧w'.cell? ⟨sb,1,none⟩=some (.int .i64 (c:Int))∧w'.cell? ⟨sb,2,none⟩=some (.int .i64 a1)∧w'.cell? ⟨sb,3,none⟩=some (.int .i64 b1)) (first | exact HKa.out | exact HK2a | exact keep5 hbg2 hsg2 HK2a) ((go_at_call 211;refine (HCall.out _).mono ?_;rintro e w2 ⟨v2,rfl,hb2,hown2⟩;have hb3:Below wr.heap.size wr w2:=⟨hb2.os,hb2.tape,hb2.output,hb2.size,hb2.block⟩;have HK2:=keep7 hb3 hbw hsw hgw HK.out;have HK2a:=And.intro HK2.1 (And.intro HK2.2.1 (And.intro HK2.2.2.1 (And.intro HK2.2.2.2.1 HK2.2.2.2.2.1)));have kg2:=HK2.2.2.2.2.2.1;have fg2:=HK2.2.2.2.2.2.2;obtain ⟨ao2,cap2,hv2,_⟩:=owns_formN hown2;subst hv2))
          have HFin:Hid ((∀x,Num.rowA x (Num.insC l k ((c:Int),a1,b1))=Num.rowA x l+Num.cellA x ((c:Int),a1,b1))∧Num.mass (Num.insC l k ((c:Int),a1,b1))≤Num.mass l+(Num.sz a1+Num.sz b1)):=
            ⟨fun x=>Num.rowA_ins x l k _,by rw [Num.mass_ins];exact Int.le_refl _⟩
          have HPut:=hide (HGr.out.put (r:=r) hb3 hown2 (Nat.le_refl _) HSn.out)
          have hs2:=hb3.size
          have HT2:Hid (Touch (rwS g H V) w (w2.setCell ⟨g,r,none⟩ (.slice ao2 (Num.insC l k ((c:Int),a1,b1)).length cap2))):=(hTw.out.of_below hb3).setCell (.inl (.inl rfl)) _
          have HNew:Hid (∀q,rwS g H (fun j=>if j=r then .slice ao2 (Num.insC l k ((c:Int),a1,b1)).length cap2 else V j) q→rwS g H V q∨w.heap.size≤q):=by
            rintro q (h | ⟨j,hj,h⟩)
            · exact .inl (.inl h)
            · by_cases e:j=r
              · simp only [if_pos e] at h
                right
                have:=(hown2.lt q h).1
                have:=HSw.out
                have h9:wr.heap.size≤q:=(hown2.lt q h).1
                omega
              · simp only [if_neg e] at h
                exact .inl (.inr ⟨j,hj,h⟩)
          clear hb2 hb3 hown2 HK2 HK2a kg2 fg2
          go_wp2
          go_end0
          refine ⟨rfl,HT2.out,_,_,HPut.out,fun j hj=>if_neg hj,fun x=>?_,?_,HNew.out⟩
          · simp only [if_true];rw [←HlR.out];exact HFin.out.1 x
          · simp only [if_true];rw [←HlR.out];exact HFin.out.2
    · have hd1:decide ((k:Int)<(n:Int))=false:=by simp;omega
      have HIn:Hid (∀w':World,w'.heap=wr.heap→w'.ownsRow 0 232 3 (.slice ao n cap0) l.length (l.flatMap clC)):=fun w' e=>by
        rw [←HN.out]
        rw [←HN.out] at hOr
        exact owns_of_block hOr (fun b _=>by rw [e])
      have hk3:k≤l.length:=by rw [←HN.out];omega
      have hl3:l.length≤4096:=by rw [←HN.out];omega
      have HCall:=hide (fun nd=>inserted_any (.slice ao n cap0) 0 k l (c:Int) a1 b1 (wr.drewN nd) hl3 hk3 (HIn.out _ rfl))
      have fzg:=hGr.outer.frozen r
      have HSn:Hid (Num.Srt 0 (Num.insC l k ((c:Int),a1,b1))):=by
        have h:=HGr.out.srt r hr
        rw [←HlR.out] at h
        exact Num.srt_ins l 0 k _ h hk3 (fun i hi hik=>HAl.out i hi hik) (fun h=>absurd h (by rw [←HN.out];omega)) (by show (0:Int)≤(c:Int);omega) (by show (c:Int)<64;omega)
      have HK:=hide (And.intro k6 (And.intro c0 (And.intro c1 (And.intro c2 (And.intro c3 (And.intro kr fzg))))))
      have HKa:=hide (And.intro k6 (And.intro c0 (And.intro c1 (And.intro c2 c3))))
      have hbg2:b≠g:=fun e=>HBG.out (.inl e)
      have hsg2:sb≠g:=by omega
      clear hGr hSr hRr hOr hto hall
      go_wp2_with fail
      go_quiet (fail)
      go_wp2_with fail
      go_quiet (fail)
      go_wp2_with fail
      go_region_held3 (fun w'=>w'.cell? ⟨b,6,none⟩=some (.slice (some ⟨g,0,none⟩) H H)∧w'.cell? ⟨sb,0,none⟩=some (.int .i64 (r:Int))∧w'.cell? ⟨sb,1,none⟩=some (.int .i64 (c:Int))∧w'.cell? ⟨sb,2,none⟩=some (.int .i64 a1)∧w'.cell? ⟨sb,3,none⟩=some (.int .i64 b1)) (first | exact HKa.out | exact HK2a | exact keep5 hbg2 hsg2 HK2a) ((go_at_call 211;refine (HCall.out _).mono ?_;rintro e w2 ⟨v2,rfl,hb2,hown2⟩;have hb3:Below wr.heap.size wr w2:=⟨hb2.os,hb2.tape,hb2.output,hb2.size,hb2.block⟩;have HK2:=keep7 hb3 hbw hsw hgw HK.out;have HK2a:=And.intro HK2.1 (And.intro HK2.2.1 (And.intro HK2.2.2.1 (And.intro HK2.2.2.2.1 HK2.2.2.2.2.1)));have kg2:=HK2.2.2.2.2.2.1;have fg2:=HK2.2.2.2.2.2.2;obtain ⟨ao2,cap2,hv2,_⟩:=owns_formN hown2;subst hv2))
      have HFin:Hid ((∀x,Num.rowA x (Num.insC l k ((c:Int),a1,b1))=Num.rowA x l+Num.cellA x ((c:Int),a1,b1))∧Num.mass (Num.insC l k ((c:Int),a1,b1))≤Num.mass l+(Num.sz a1+Num.sz b1)):=
        ⟨fun x=>Num.rowA_ins x l k _,by rw [Num.mass_ins];exact Int.le_refl _⟩
      have HPut:=hide (HGr.out.put (r:=r) hb3 hown2 (Nat.le_refl _) HSn.out)
      have hs2:=hb3.size
      have HT2:Hid (Touch (rwS g H V) w (w2.setCell ⟨g,r,none⟩ (.slice ao2 (Num.insC l k ((c:Int),a1,b1)).length cap2))):=(hTw.out.of_below hb3).setCell (.inl (.inl rfl)) _
      have HNew:Hid (∀q,rwS g H (fun j=>if j=r then .slice ao2 (Num.insC l k ((c:Int),a1,b1)).length cap2 else V j) q→rwS g H V q∨w.heap.size≤q):=by
        rintro q (h | ⟨j,hj,h⟩)
        · exact .inl (.inl h)
        · by_cases e:j=r
          · simp only [if_pos e] at h
            right
            have:=(hown2.lt q h).1
            have:=HSw.out
            have h9:wr.heap.size≤q:=(hown2.lt q h).1
            omega
          · simp only [if_neg e] at h
            exact .inl (.inr ⟨j,hj,h⟩)
      clear hb2 hb3 hown2 HK2 HK2a kg2 fg2
      go_wp2
      go_end0
      refine ⟨rfl,HT2.out,_,_,HPut.out,fun j hj=>if_neg hj,fun x=>?_,?_,HNew.out⟩
      · simp only [if_true];rw [←HlR.out];exact HFin.out.1 x
      · simp only [if_true];rw [←HlR.out];exact HFin.out.2
theorem keepT {w w':World} {b g r:Nat} {x0 x5:Value} (hb:Below w.heap.size w w') (h1:b<w.heap.size) (h3:g<w.heap.size)
    (h:w.cell? ⟨b,6,none⟩=some x0∧w.cell? ⟨g,r,none⟩=some x5∧w.frozen? ⟨g,r,none⟩=false) :
    w'.cell? ⟨b,6,none⟩=some x0∧w'.cell? ⟨g,r,none⟩=some x5∧w'.frozen? ⟨g,r,none⟩=false:=
  ⟨(hb.cell (p:=⟨b,_,none⟩) h1).trans h.1,(hb.cell (p:=⟨g,_,none⟩) h3).trans h.2.1,(hb.frozen (p:=⟨g,_,none⟩) h3).trans h.2.2⟩
theorem keepS {w:World} {b g r:Nat} {v x0:Value} (h1:b≠g) (h:w.cell? ⟨b,6,none⟩=some x0):(w.setCell ⟨g,r,none⟩ v).cell? ⟨b,6,none⟩=some x0:=by
  rw [World.cell?_of_block (blk_setCell_other _ _ _ _ (by simpa using h1))];exact h
theorem Rws.congr {w:World} {g H:Nat} {V:Nat→Value} {R R':Nat→List Num.Cl} (h:Rws w g H V R) (e:∀j,j<H→R' j=R j):Rws w g H V R':=
  ⟨h.outer,fun j hj=>by rw [e j hj];exact h.inner j hj,h.inj,fun j hj=>by rw [e j hj];exact h.srt j hj⟩
set_option maxRecDepth 100000 in
theorem tidy_any (b g H:Nat) (V:Nat→Value) (R:Nat→List Num.Cl) (tt:TypeId) (f:Nat→Value) (w:World) (hH:H≤64)
    (hR:w.rowIs b tt 7 f) (f6:f 6=.slice (some ⟨g,0,none⟩) H H) (hG:Rws w g H V R) (hbg:¬rwS g H V b) :
    Calls Tryz.prog 186 #[.pointer (some ⟨b,6,none⟩)] w fun e w'=>e=.returned (.tuple #[])∧Touch (rwS g H V) w w' ∧
      ∃V',Rws w' g H V' (fun j=>(R j).filter Num.fullB)∧∀q,rwS g H V' q→rwS g H V q∨w.heap.size≤q:=by
  have hbs:b<w.heap.size:=hR.lt
  have k6:=hR.cell (i:=6) (by omega)
  rw [f6] at k6
  have HR:=hide hR
  have HG:=hide hG
  have HBG:=hide hbg
  clear hR hG hbg
  go_enter Tryz.func186,Tryz.ntmps186
  go_wp2_with fail
  go_loopw [9] (fun t wr=>∃(k:Nat) (V':Nat→Value),k≤H∧t=.int .i64 k∧Touch (rwS g H V) w wr∧Rws wr g H V' (fun j=>if j<k then (R j).filter Num.fullB else R j)∧∀q,rwS g H V' q→rwS g H V q∨w.heap.size≤q) (fun t _=>H-(intOf t).toNat)
  case atStart=>exact ⟨0,V,by omega,rfl,Touch.refl _ _,HG.out.congr (fun j _=>by simp),fun q h=>.inl h⟩
  case round=>
    obtain ⟨k,V',hk,rfl,hto,hrw,hnew⟩:=hrel
    have hsz:=hto.size
    by_cases hlt:k<H
    · have hRr:=hto.row HR.out HBG.out
      have k6:=hRr.cell (i:=6) (by omega)
      rw [f6] at k6
      have hin:=hrw.inner k hlt
      obtain ⟨ao,cap0,hvk,_⟩:=owns_formN hin
      have kk:=hrw.outer.cell (i:=k) hlt
      rw [hvk] at kk hin
      rw [if_neg (Nat.lt_irrefl _)] at hin kk
      have hl4:(R k).length≤4096:=by
        have:=hrw.srt k hlt
        rw [if_neg (Nat.lt_irrefl _)] at this
        have:=Num.srt_le this
        omega
      have HIn:Hid (∀w':World,w'.heap=wr.heap→w'.ownsRow 0 232 3 (.slice ao (R k).length cap0) (R k).length ((R k).flatMap clC)):=fun w' e=>owns_of_block hin (fun b _=>by rw [e])
      have HCall:=hide (fun nd=>filled_any (.slice ao (R k).length cap0) 0 (R k) (wr.drewN nd) hl4 (HIn.out _ rfl))
      have HCall0:=hide (filled_any (.slice ao (R k).length cap0) 0 (R k) wr.drew hl4 (HIn.out _ rfl))
      have HSn:Hid (Num.Srt 0 ((R k).filter Num.fullB)):=by
        have:=hrw.srt k hlt
        rw [if_neg (Nat.lt_irrefl _)] at this
        exact Num.srt_filter _ _ _ this
      have fzg:=hrw.outer.frozen k
      have hgw:g<wr.heap.size:=hrw.outer.lt
      have hbw:b<wr.heap.size:=by omega
      have hbg2:b≠g:=fun e=>HBG.out (.inl e)
      have HK:=hide (And.intro k6 (And.intro kk fzg))
      have HT:=hide hto
      have HRw:=hide hrw
      have HNw:=hide hnew
      have hd1:decide ((k:Int)<(H:Int))=true:=by simp;omega
      have i0':(0:Int)≤(k:Int):=by omega
      have i1':(k:Int)<(H:Int):=by omega
      obtain ⟨n,hn⟩:∃n,n=(R k).length:=⟨_,rfl⟩
      rw [←hn] at kk HCall HCall0
      clear hto hrw hnew hin hvk hn hRr
      go_wp2_with fail
      go_region_held3 (fun w'=>w'.cell? ⟨b,6,none⟩=some (.slice (some ⟨g,0,none⟩) H H)) (first | exact k6 | exact HK2.1 | exact keepS hbg2 HK2.1) ((go_at_call 192;(first | refine (HCall.out _).mono ?_ | refine HCall0.out.mono ?_);rintro e w2 ⟨v2,rfl,hb2,hown2⟩;have hb3:Below wr.heap.size wr w2:=⟨hb2.os,hb2.tape,hb2.output,hb2.size,hb2.block⟩;have HK2:=keepT hb3 hbw hgw HK.out;have kg2:=HK2.2.1;have fg2:=HK2.2.2;obtain ⟨ao2,cap2,hv2,_⟩:=owns_formN hown2;subst hv2))
      have hs2:=hb3.size
      have HPut:Hid (Rws (w2.setCell ⟨g,k,none⟩ (.slice ao2 ((R k).filter Num.fullB).length cap2)) g H (fun j=>if j=k then .slice ao2 ((R k).filter Num.fullB).length cap2 else V' j) (fun j=>if j<k+1 then (R j).filter Num.fullB else R j)):=
        (HRw.out.put (r:=k) hb3 hown2 (Nat.le_refl _) HSn.out).congr (fun j _=>by
          by_cases e:j=k
          · subst e;rw [if_pos rfl,if_pos (by omega)]
          · rw [if_neg e]
            by_cases d:j<k
            · rw [if_pos d,if_pos (by omega)]
            · rw [if_neg d,if_neg (by omega)])
      have HT2:Hid (Touch (rwS g H V) w (w2.setCell ⟨g,k,none⟩ (.slice ao2 ((R k).filter Num.fullB).length cap2))):=(HT.out.of_below hb3).setCell (.inl (.inl rfl)) _
      have HNew:Hid (∀q,rwS g H (fun j=>if j=k then .slice ao2 ((R k).filter Num.fullB).length cap2 else V' j) q→rwS g H V q∨w.heap.size≤q):=by
        rintro q (h | ⟨j,hj,h⟩)
        · exact .inl (.inl h)
        · by_cases e:j=k
          · simp only [if_pos e] at h
            right
            have h9:wr.heap.size≤q:=(hown2.lt q h).1
            omega
          · simp only [if_neg e] at h
            exact HNw.out q (.inr ⟨j,hj,h⟩)
      clear hb2 hb3 hown2 HK2 kg2 fg2
      go_wp2
      go_roundw
      case rel=>exact ⟨k+1,_,by omega,by go_num,HT2.out,HPut.out,HNew.out⟩
      case measure=>simp [intOf];omega
    · have hd0:decide ((k:Int)<(H:Int))=false:=by simp;omega
      have HT:=hide hto
      have HRw:=hide (hrw.congr (R':=fun j=>(R j).filter Num.fullB) (fun j hj=>by rw [if_pos (by omega)]))
      have HNw:=hide hnew
      clear hto hrw hnew
      go_wp2
      go_end0
      exact ⟨rfl,HT.out,V',HRw.out,HNw.out⟩
theorem tidyNil_any (b:Nat) (tt:TypeId) (f:Nat→Value) (w:World) (hR:w.rowIs b tt 7 f) (f6:f 6=.slice none 0 0) :
    Calls Tryz.prog 186 #[.pointer (some ⟨b,6,none⟩)] w fun e w'=>e=.returned (.tuple #[])∧w'=w:=by
  have k6:=hR.cell (i:=6) (by omega)
  rw [f6] at k6
  clear hR
  go_enter Tryz.func186,Tryz.ntmps186
  go_wp2_with fail
  go_loopw [9] (fun t wr=>t=.int .i64 0∧wr=w) (fun t _=>(intOf t).toNat)
  case atStart=>exact ⟨rfl,rfl⟩
  case round=>
    obtain ⟨rfl,rfl⟩:=hrel
    go_wp2
    go_end0
    exact ⟨rfl,rfl⟩
inductive Cnv (w:World) (b:Nat) (tt:TypeId) (W H tk:Nat) (A:Nat→Nat→Int) (P:Int) (S:Nat→Prop):Int→Prop
  | tab (g:Nat) (T:Nat→Int) (hR:w.rowIs b tt 7 (cv7 W H 0 tk W (.slice (some ⟨g,0,none⟩) (W*H) (W*H)) (.slice none 0 0))) (hT:w.rowIs g 3 (W*H) (fun k=>.int .i64 (T k))) (hbg:b≠g)
      (hA:∀i j,i<W→j<H→T (j*W+i)=A i j) (hB:∀k,k<W*H → -(8192*P)≤T k∧T k≤8192*P) (hSb:S b) (hSg:S g) (hlt:∀q,S q→q<w.heap.size):Cnv w b tt W H tk A P S 0
  | rws (g:Nat) (V:Nat→Value) (R:Nat→List Num.Cl) (hR:w.rowIs b tt 7 (cv7 W H 1 tk 0 (.slice none 0 0) (.slice (some ⟨g,0,none⟩) H H))) (hG:Rws w g H V R) (hbg:¬rwS g H V b)
      (hA:∀i j,i<W→j<H→Num.rowA i (R j)=A i j) (hM:∀j,j<H→Num.mass (R j)≤16384*P) (hSb:S b) (hSg:∀q,rwS g H V q→S q) (hlt:∀q,S q→q<w.heap.size):Cnv w b tt W H tk A P S 1
section
variable {w w':World} {b:Nat} {tt:TypeId} {W H tk:Nat} {A:Nat→Nat→Int} {P:Int} {S S':Nat→Prop} {st:Int}
theorem Cnv.touch (h:Cnv w b tt W H tk A P S st) (t:Touch S' w w') (hd:∀q,S q→¬S' q):Cnv w' b tt W H tk A P S st:=by
  have hsz:=t.size
  cases h with
  | tab g T hR hT hbg hA hB hSb hSg hlt=>exact .tab g T (t.row hR (hd b hSb)) (t.row hT (hd g hSg)) hbg hA hB hSb hSg (fun q hq=>Nat.lt_of_lt_of_le (hlt q hq) hsz)
  | rws g V R hR hG hbg hA hM hSb hSg hlt=>exact .rws g V R (t.row hR (hd b hSb)) (hG.touch t (fun q hq=>hd q (hSg q hq))) hbg hA hM hSb hSg (fun q hq=>Nat.lt_of_lt_of_le (hlt q hq) hsz)
theorem Cnv.below (h:Cnv w b tt W H tk A P S st) (hb:Below w.heap.size w w'):Cnv w' b tt W H tk A P S st:=
  h.touch (S':=fun _=>False) ((Touch.refl _ _).of_below hb) (fun _ _ e=>e)
theorem Cnv.of_heap (h:Cnv w b tt W H tk A P S st) (e:w'.heap=w.heap):Cnv w' b tt W H tk A P S st:=by
  cases h with
  | tab g T hR hT hbg hA hB hSb hSg hlt=>exact .tab g T (hR.of_block (by rw [e])) (hT.of_block (by rw [e])) hbg hA hB hSb hSg (fun q hq=>by rw [e];exact hlt q hq)
  | rws g V R hR hG hbg hA hM hSb hSg hlt=>exact .rws g V R (hR.of_block (by rw [e])) (hG.of_heap e) hbg hA hM hSb hSg (fun q hq=>by rw [e];exact hlt q hq)
theorem Cnv.mono {A':Nat→Nat→Int} {P':Int} (h:Cnv w b tt W H tk A P S st) (hA':∀i j,i<W→j<H→A' i j=A i j) (hP:P≤P'):Cnv w b tt W H tk A' P' S st:=by
  cases h with
  | tab g T hR hT hbg hA hB hSb hSg hlt=>exact .tab g T hR hT hbg (fun i j hi hj=>by rw [hA i j hi hj,hA' i j hi hj]) (fun k hk=>by have:=hB k hk;omega) hSb hSg hlt
  | rws g V R hR hG hbg hA hM hSb hSg hlt=>exact .rws g V R hR hG hbg (fun i j hi hj=>by rw [hA i j hi hj,hA' i j hi hj]) (fun j hj=>by have:=hM j hj;omega) hSb hSg hlt
theorem Cnv.lt (h:Cnv w b tt W H tk A P S st) {q:Nat} (hq:S q):q<w.heap.size:=by
  cases h with
  | tab g T hR hT hbg hA hB hSb hSg hlt=>exact hlt q hq
  | rws g V R hR hG hbg hA hM hSb hSg hlt=>exact hlt q hq
theorem Cnv.own (h:Cnv w b tt W H tk A P S st):S b:=by
  cases h with
  | tab g T hR hT hbg hA hB hSb hSg hlt=>exact hSb
  | rws g V R hR hG hbg hA hM hSb hSg hlt=>exact hSb
theorem Cnv.cells (h:Cnv w b tt W H tk A P S st):w.cell? ⟨b,0,none⟩=some (.int .i64 W)∧w.cell? ⟨b,1,none⟩=some (.int .i64 H)∧w.cell? ⟨b,2,none⟩=some (.int .i64 st)∧w.cell? ⟨b,3,none⟩=some (.int .i64 tk)∧b<w.heap.size:=by
  cases h with
  | tab g T hR hT hbg hA hB hSb hSg hlt=>exact ⟨hR.cell (i:=0) (by omega),hR.cell (i:=1) (by omega),hR.cell (i:=2) (by omega),hR.cell (i:=3) (by omega),hR.lt⟩
  | rws g V R hR hG hbg hA hM hSb hSg hlt=>exact ⟨hR.cell (i:=0) (by omega),hR.cell (i:=1) (by omega),hR.cell (i:=2) (by omega),hR.cell (i:=3) (by omega),hR.lt⟩
end
theorem pcV_out {t x0 y0 x1 y1:Int} {W H i j:Nat} (h:Num.skipB y0 y1=true∨(H:Int)≤Num.rowV y0 y1∨(W:Int)≤Num.colV x0 x1) (hi:i<W) (hj:j<H):Num.pcV t x0 y0 x1 y1 i j=0:=by
  unfold Num.pcV
  by_cases hs:Num.skipB y0 y1=true
  · rw [if_pos hs]
  · rw [if_neg hs]
    by_cases e:(j:Int)=Num.rowV y0 y1
    · rw [if_pos e]
      rcases h with h | h | h
      · exact absurd h hs
      · omega
      · rw [if_pos (by omega)]
    · rw [if_neg e]
theorem pcV_in {t x0 y0 x1 y1 i j r c:Int} (hs:Num.skipB y0 y1=false) (hr:Num.rowV y0 y1=r) (hc:Num.colV x0 x1=c):Num.pcV t x0 y0 x1 y1 i j=if j=r then (if i<c then 0 else if i=c then Num.hereV t x0 y0 x1 y1 else Num.rightV t y0 y1) else 0:=by
  unfold Num.pcV
  rw [if_neg (by rw [hs];decide),hr,hc]
theorem Cnv.tabbed {w w':World} {b g:Nat} {tt:TypeId} {W H tk r c:Nat} {A:Nat→Nat→Int} {P:Int} {S:Nat→Prop} {T:Nat→Int} {t x0 y0 x1 y1:Int} (ht:t=1∨t = -1) (hx:Num.noL x0 x1) (hy:Num.noL y0 y1) (hs:Num.skipB y0 y1=false) (hr:Num.rowV y0 y1=r) (hc:Num.colV x0 x1=c) (hcW:c<W)
    (hR:w.rowIs b tt 7 (cv7 W H 0 tk W (.slice (some ⟨g,0,none⟩) (W*H) (W*H)) (.slice none 0 0))) (hbg:b≠g)
    (hA:∀i j,i<W→j<H→T (j*W+i)=A i j) (hB:∀k,k<W*H → -(8192*P)≤T k∧T k≤8192*P) (hSb:S b) (hSg:S g) (hlt:∀q,S q→q<w.heap.size)
    (hT:Touch (fun q=>q=g) w w') (hN:w'.rowIs g 3 (W*H) (fun k=>.int .i64 (Num.tabAdd W r c (Num.hereV t x0 y0 x1 y1) (Num.rightV t y0 y1) T k))) :
    Cnv w' b tt W H tk (fun i j=>A i j+Num.pcV t x0 y0 x1 y1 i j) (P+1) S 0:=by
  have pb:=Num.piece_bd ht hx hy
  refine .tab g _ (hT.row hR (fun e=>hbg e)) hN hbg (fun i j hi hj=>?_) (fun k hk=>?_) hSb hSg (fun q hq=>Nat.lt_of_lt_of_le (hlt q hq) hT.size)
  · rw [Num.tabAdd_at hi hcW,hA i j hi hj,pcV_in hs hr hc]
    congr 1
    (repeat' split) <;> omega
  · have:=Num.tabAdd_bd (W:=W) (r:=r) (c:=c) (D:=8192) hB pb.1 pb.2 k hk
    omega
theorem Cnv.rowed {w w':World} {b g:Nat} {tt:TypeId} {W H tk r c:Nat} {A:Nat→Nat→Int} {P:Int} {S:Nat→Prop} {V V':Nat→Value} {R R':Nat→List Num.Cl} {t x0 y0 x1 y1:Int} (ht:t=1∨t = -1) (hx:Num.noL x0 x1) (hy:Num.noL y0 y1) (hs:Num.skipB y0 y1=false) (hr:Num.rowV y0 y1=r) (hc:Num.colV x0 x1=c)
    (hR:w.rowIs b tt 7 (cv7 W H 1 tk 0 (.slice none 0 0) (.slice (some ⟨g,0,none⟩) H H))) (hbg:¬rwS g H V b)
    (hA:∀i j,i<W→j<H→Num.rowA i (R j)=A i j) (hM:∀j,j<H→Num.mass (R j)≤16384*P) (hSb:S b) (hSg:∀q,rwS g H V q→S q) (hlt:∀q,S q→q<w.heap.size)
    (hT:Touch (rwS g H V) w w') (hG:Rws w' g H V' R') (hoth:∀j,j≠r→R' j=R j) (hrow:∀x,Num.rowA x (R' r)=Num.rowA x (R r)+Num.cellA x ((c:Int),Num.hereV t x0 y0 x1 y1,Num.rightV t y0 y1)) (hms:Num.mass (R' r)≤Num.mass (R r)+(Num.sz (Num.hereV t x0 y0 x1 y1)+Num.sz (Num.rightV t y0 y1))) (hnew:∀q,rwS g H V' q→rwS g H V q∨w.heap.size≤q) :
    ∃S',Cnv w' b tt W H tk (fun i j=>A i j+Num.pcV t x0 y0 x1 y1 i j) (P+1) S' 1∧∀q,S' q→S q∨w.heap.size≤q:=by
  have pb:=Num.piece_bd ht hx hy
  have z1:=Num.sz_bd pb.1.1 pb.1.2
  have z2:=Num.sz_bd pb.2.1 pb.2.2
  have hbl:b<w.heap.size:=hR.lt
  refine ⟨fun q=>S q∨(w.heap.size≤q∧q<w'.heap.size),.rws g V' R' (hT.row hR hbg) hG (fun e=>?_) (fun i j hi hj=>?_) (fun j hj=>?_) (.inl hSb) (fun q hq=>?_) (fun q hq=>?_),fun q hq=>?_⟩
  · rcases hnew b e with h | h
    · exact hbg h
    · omega
  · by_cases e:j=r
    · subst e
      rw [hrow,hA i j hi hj,pcV_in hs hr hc,if_pos rfl,Num.cellA_share]
    · rw [hoth j e,hA i j hi hj,pcV_in hs hr hc,if_neg (by omega)];omega
  · by_cases e:j=r
    · subst e
      have:=hM j hj
      omega
    · rw [hoth j e]
      have:=hM j hj
      omega
  · rcases hnew q hq with h | h
    · exact .inl (hSg q h)
    · exact .inr ⟨h,hG.lt hq⟩
  · rcases hq with h | h
    · exact Nat.lt_of_lt_of_le (hlt q h) hT.size
    · exact h.2
  · rcases hq with h | h
    · exact .inl h
    · exact .inr h.1
set_option maxRecDepth 100000 in
theorem layPiece_any (b W H tk:Nat) (tt:TypeId) (A:Nat→Nat→Int) (P st x0 y0 x1 y1 t:Int) (S:Nat→Prop) (w:World) (hC:Cnv w b tt W H tk A P S st) (hW:1≤W∧W≤64) (hH:1≤H∧H≤64) (hP:0≤P∧P≤140737488355328)
    (ht:t=1∨t = -1) (h0:-16384≤x0∧x0≤16384) (h1:-16384≤y0∧y0≤16384) (h2:-16384≤x1∧x1≤16384) (h3:-16384≤y1∧y1≤16384) (hx:Num.noL x0 x1) (hy:Num.noL y0 y1) :
    Calls Tryz.prog 198 #[.pointer (some ⟨b,0,none⟩),.agg #[.int .i64 x0,.int .i64 y0],.agg #[.int .i64 x1,.int .i64 y1],.int .i64 t] w fun e w'=>e=.returned (.tuple #[])∧Touch S w w'∧∃S',Cnv w' b tt W H tk (fun i j=>A i j+Num.pcV t x0 y0 x1 y1 i j) (P+1) S' st∧∀q,S' q→S q∨w.heap.size≤q:=by
  have HC:=hide hC
  obtain ⟨k0,k1,k2,k3,hbl⟩:=hC.cells
  have hsd:Num.skipB y0 y1=(decide (y0=y1) || decide (y0<0) || decide (y1<0)):=rfl
  cases hs:Num.skipB y0 y1
  · have hs':y0≠y1∧0≤y0∧0≤y1:=by rw [hs] at hsd;simp at hsd;omega
    have d1:(y0 == y1)=false:=by simp;exact hs'.1
    have d2:¬y0<0:=by omega
    have d3:¬y1<0:=by omega
    have pb:=Num.piece_bd ht hx hy
    obtain ⟨r,hr⟩:∃r:Nat,Num.rowV y0 y1=r:=⟨(Num.rowV y0 y1).toNat,by
      unfold Num.rowV;have:=Num.ls_or y0 y1;rw [Int.tdiv_eq_ediv_of_nonneg (by omega)];omega⟩
    obtain ⟨c,hc⟩:∃c:Nat,Num.colV x0 x1=c:=⟨(Num.colV x0 x1).toNat,by
      unfold Num.colV;have:=Num.ls_or (Num.gr x0 0) (Num.gr x1 0);have:=Num.gr0 x0;have:=Num.gr0 x1;rw [Int.tdiv_eq_ediv_of_nonneg (by omega)];omega⟩
    have HSh:=hide (fun w'=>shareOf_any x0 y0 x1 y1 t w' ht h0 h1 h2 h3)
    rw [hr,hc] at HSh
    have HIn:=hide (And.intro hs (And.intro hr hc))
    have HOut:Hid ((H:Int)≤r∨(W:Int)≤c→∀w',Below w.heap.size w w'→∃S',Cnv w' b tt W H tk (fun i j=>A i j+Num.pcV t x0 y0 x1 y1 i j) (P+1) S' st∧∀q,S' q→S q∨w.heap.size≤q):=fun ho w' hb=>
      ⟨S,(HC.out.below hb).mono (fun i j hi hj=>by rw [pcV_out (.inr (by rw [hr,hc];exact ho)) hi hj,Int.add_zero]) (by omega),fun q hq=>.inl hq⟩
    obtain ⟨he,hHe⟩:∃z,z=Num.hereV t x0 y0 x1 y1:=⟨_,rfl⟩
    obtain ⟨ri,hRi⟩:∃z,z=Num.rightV t y0 y1:=⟨_,rfl⟩
    rw [←hHe,←hRi] at HSh pb
    have HHe:=hide hHe
    have HRi:=hide hRi
    clear hC hs hsd hr hc hHe hRi
    go_enter Tryz.func198,Tryz.ntmps198
    go_wp2_with fail
    refine (HSh.out _).mono ?_
    rintro e w1 ⟨rfl,hb1⟩
    have hs1:=hb1.size
    rw [nblk_alloc,nblk_alloc] at hs1
    have HB1:Hid (Below w.heap.size w w1):=Below.trans (((Below.refl _ _).alloc (Nat.le_refl _) _).alloc (by simp) _) (hb1.mono (by simp;omega))
    have HS1:=hide (sh4_row r c he ri w1 247)
    have HB2:=hide (HB1.out.alloc (by have:=HB1.out.size;omega) (.cells #[.int .i64 (r:Int),.int .i64 (c:Int),.int .i64 he,.int .i64 ri] 247))
    obtain ⟨sb,hsb⟩:∃sb,sb=w1.heap.size:=⟨_,rfl⟩
    obtain ⟨W2,hW2⟩:∃W2,W2=w1.alloc (.cells #[.int .i64 (r:Int),.int .i64 (c:Int),.int .i64 he,.int .i64 ri] 247):=⟨_,rfl⟩
    have hs2:W2.heap.size=sb+1:=by rw [hW2,hsb];simp
    rw [←hsb] at HS1
    rw [←hW2] at HS1 HB2
    clear hb1 HSh
    go_wp2_with fail
    try rw [←hW2,←hsb]
    have HC2:=hide (HC.out.below HB2.out)
    obtain ⟨c0,c1,c2,c3,hbl2⟩:=HC2.out.cells
    have s0:=HS1.out.cell (i:=0) (by omega)
    have s1:=HS1.out.cell (i:=1) (by omega)
    have s2:=HS1.out.cell (i:=2) (by omega)
    have s3:=HS1.out.cell (i:=3) (by omega)
    change W2.cell? ⟨sb,0,none⟩=some (.int .i64 (r:Int)) at s0
    change W2.cell? ⟨sb,1,none⟩=some (.int .i64 (c:Int)) at s1
    change W2.cell? ⟨sb,2,none⟩=some (.int .i64 he) at s2
    change W2.cell? ⟨sb,3,none⟩=some (.int .i64 ri) at s3
    clear hW2 hsb k0 k1 k2 k3
    by_cases hrH:(H:Int)≤(r:Int)
    · have q1:decide ((H:Int)≤(r:Int))=true:=by simpa using hrH
      have HO:=hide (HOut.out (.inl hrH))
      go_quiet (fail)
      go_wp2
      refine bodyPost_ret (results_none rfl _ _ _) rfl ⟨rfl,((Touch.refl S w).of_below HB2.out).drewN _,HO.out _ (below_drewN HB2.out _)⟩
    · have q1:decide ((H:Int)≤(r:Int))=false:=by simpa using hrH
      by_cases hcW:(W:Int)≤(c:Int)
      · have q2:decide ((W:Int)≤(c:Int))=true:=by simpa using hcW
        have HO:=hide (HOut.out (.inr hcW))
        go_quiet (fail)
        go_wp2
        refine bodyPost_ret (results_none rfl _ _ _) rfl ⟨rfl,((Touch.refl S w).of_below HB2.out).drewN _,HO.out _ (below_drewN HB2.out _)⟩
      · have q2:decide ((W:Int)≤(c:Int))=false:=by simpa using hcW
        have HT2:=hide ((Touch.refl S w).of_below HB2.out)
        go_quiet (fail)
        obtain ⟨W3,hW3⟩:∃W3,W3=W2.drewN nq:=⟨_,rfl⟩
        have hC3:Cnv W3 b tt W H tk A P S st:=HC2.out.of_heap (by rw [hW3];rfl)
        have HT3:Hid (Touch S w W3):=by unfold Hid;rw [hW3];exact HT2.out.drewN _
        have hs3:W3.heap.size=sb+1:=by rw [hW3];exact hs2
        rw [←hW3]
        have c0:W3.cell? ⟨b,0,none⟩=some (.int .i64 W):=by rw [hW3];exact c0
        have c2:W3.cell? ⟨b,2,none⟩=some (.int .i64 st):=by rw [hW3];exact c2
        have s0:W3.cell? ⟨sb,0,none⟩=some (.int .i64 (r:Int)):=by rw [hW3];exact s0
        have s1:W3.cell? ⟨sb,1,none⟩=some (.int .i64 (c:Int)):=by rw [hW3];exact s1
        have s2:W3.cell? ⟨sb,2,none⟩=some (.int .i64 he):=by rw [hW3];exact s2
        have s3:W3.cell? ⟨sb,3,none⟩=some (.int .i64 ri):=by rw [hW3];exact s3
        clear hW3 HC2 HC HOut
        cases hC3 with
        | tab g T hR hT hbg hA hB hSb hSg hlt=>
          have HCall:=hide (fun w' (e:w'.heap=W3.heap)=>tabAdd_any b g W H r c he ri (8192*P) T tt _ w' hW hH.2 (by omega) (by omega) (hR.of_block (by rw [e])) rfl rfl hbg (hT.of_block (by rw [e])) (by omega) hB pb.1 pb.2)
          have HFin:Hid (∀w',Touch (fun q=>q=g) W3 w'→w'.rowIs g 3 (W*H) (fun k=>.int .i64 (Num.tabAdd W r c he ri T k))→Cnv w' b tt W H tk (fun i j=>A i j+Num.pcV t x0 y0 x1 y1 i j) (P+1) S 0):=fun w' h1 h2=>
            Cnv.tabbed ht hx hy HIn.out.1 HIn.out.2.1 HIn.out.2.2 (by omega) hR hbg hA hB hSb hSg hlt h1 (by rw [←HHe.out,←HRi.out];exact h2)
          have HSg:=hide hSg
          clear hR hT hA hB hlt
          go_wp2_with fail
          go_region_with (go_at_call 208;refine (HCall.out W3.drew rfl).mono ?_;rintro e w4 ⟨rfl,hT4,hN4⟩)
          all_goals
            have hT4':Touch (fun q=>q=g) W3 w4:=⟨hT4.os,hT4.tape,hT4.output,hT4.size,hT4.block⟩
            have HC4:=hide (HFin.out _ hT4' hN4)
            have HT4:=hide (HT3.out.trans' hT4' (fun q e=>.inl (by rw [e];exact HSg.out)))
            clear hT4 hN4 hT4'
            go_wp2
            go_end0
            exact ⟨rfl,HT4.out,S,HC4.out,fun q hq=>.inl hq⟩
        | rws g V R hR hG hbg hA hM hSb hSg hlt=>
          have HCall:=hide (fun w' (e:w'.heap=W3.heap)=>rowsAdd_any b g H r c he ri (16384*P) V R tt _ w' (by omega) (by omega) (hR.of_block (by rw [e])) rfl (hG.of_heap e) hbg (by omega) (hM r (by omega)) pb.1 pb.2)
          have HFin:Hid (∀w' V' R',Touch (rwS g H V) W3 w'→Rws w' g H V' R'→(∀j,j≠r→R' j=R j)→(∀x,Num.rowA x (R' r)=Num.rowA x (R r)+Num.cellA x ((c:Int),he,ri))→Num.mass (R' r)≤Num.mass (R r)+(Num.sz he+Num.sz ri)→(∀q,rwS g H V' q→rwS g H V q∨W3.heap.size≤q)→∃S',Cnv w' b tt W H tk (fun i j=>A i j+Num.pcV t x0 y0 x1 y1 i j) (P+1) S' 1∧∀q,S' q→S q∨W3.heap.size≤q):=fun w' V' R' t1 t2 t3 t4 t5 t6=>
            Cnv.rowed ht hx hy HIn.out.1 HIn.out.2.1 HIn.out.2.2 hR hbg hA hM hSb hSg hlt t1 t2 t3 (by rw [←HHe.out,←HRi.out];exact t4) (by rw [←HHe.out,←HRi.out];exact t5) t6
          have HSg:=hide hSg
          clear hR hG hA hM hlt
          go_wp2_with fail
          go_region_with (go_at_call 207;refine (HCall.out W3.drew rfl).mono ?_;rintro e w4 ⟨rfl,hT4,V',R',t2,t3,t4,t5,t6⟩)
          all_goals
            have hT4':Touch (rwS g H V) W3 w4:=⟨hT4.os,hT4.tape,hT4.output,hT4.size,hT4.block⟩
            have HC4:=hide (HFin.out _ V' R' hT4' t2 t3 t4 t5 t6)
            have HT4:=hide (HT3.out.trans' hT4' (fun q e=>.inl (HSg.out q e)))
            have hs4:=HT3.out.size
            clear hT4 t2 t3 t4 t5 t6 hT4'
            go_wp2
            exact bodyPost_ret (results_none rfl _ _ _) rfl ⟨rfl,HT4.out,by
              obtain ⟨S',h1,h2⟩:=HC4.out
              exact ⟨S',h1,fun q hq=>by rcases h2 q hq with h | h;exact .inl h;exact .inr (by omega)⟩⟩
  · have HOut:Hid (∀w',Below w.heap.size w w'→∃S',Cnv w' b tt W H tk (fun i j=>A i j+Num.pcV t x0 y0 x1 y1 i j) (P+1) S' st∧∀q,S' q→S q∨w.heap.size≤q):=fun w' hb=>
      ⟨S,(HC.out.below hb).mono (fun i j hi hj=>by rw [pcV_out (.inl hs) hi hj,Int.add_zero]) (by omega),fun q hq=>.inl hq⟩
    rw [hs] at hsd
    clear hC hs
    have hB2:Hid (Below w.heap.size w ((w.alloc (.cells #[.int .i64 x0,.int .i64 y0] 42)).alloc (.cells #[.int .i64 x1,.int .i64 y1] 42))):=((Below.refl _ _).alloc (Nat.le_refl _) _).alloc (by simp) _
    by_cases e1:y0=y1
    · have d1:(y0 == y1)=true:=by simp;exact e1
      clear hsd e1
      go_enter Tryz.func198,Tryz.ntmps198
      go_wp2
      exact bodyPost_ret (results_none rfl _ _ _) rfl ⟨rfl,(Touch.refl S w).of_below hB2.out,HOut.out _ hB2.out⟩
    · have d1:(y0 == y1)=false:=by simp;exact e1
      by_cases e2:y0<0
      · clear hsd e1
        go_enter Tryz.func198,Tryz.ntmps198
        go_wp2
        exact bodyPost_ret (results_none rfl _ _ _) rfl ⟨rfl,(Touch.refl S w).of_below hB2.out,HOut.out _ hB2.out⟩
      · have e3:y1<0:=by simp at hsd;omega
        clear hsd e1
        go_enter Tryz.func198,Tryz.ntmps198
        go_wp2
        exact bodyPost_ret (results_none rfl _ _ _) rfl ⟨rfl,(Touch.refl S w).of_below hB2.out,HOut.out _ hB2.out⟩
theorem lastS_in' {ax ay:Int} {l:List (Int×Int)} (m:Nat) (ha:Num.inB ax ay=true) (hl:∀t∈l,Num.inB t.1 t.2=true):Num.inB (Num.lastS ax ay (l.take m)).1 (Num.lastS ax ay (l.take m)).2=true:=
  Num.lastS_in _ _ _ ha (fun t ht=>hl t (List.mem_of_mem_take ht))
set_option maxRecDepth 100000 in
theorem layChord_any (b W H tk:Nat) (tt:TypeId) (A:Nat→Nat→Int) (P st ax ay bx b2 t:Int) (S:Nat→Prop) (w:World) (hC:Cnv w b tt W H tk A P S st) (hW:1≤W∧W≤64) (hH:1≤H∧H≤64) (hP:0≤P∧P≤140737487255328)
    (ht:t=1∨t = -1) (ha:Num.inB ax ay=true) (hb:Num.inB bx b2=true) :
    Calls Tryz.prog 191 #[.pointer (some ⟨b,0,none⟩),.agg #[.int .i64 ax,.int .i64 ay],.agg #[.int .i64 bx,.int .i64 b2],.int .i64 t] w fun e w'=>e=.returned (.tuple #[])∧Touch S w w'∧∃S',Cnv w' b tt W H tk (fun i j=>A i j+t*Num.chordV ax ay bx b2 i j) (P+1100000) S' st∧∀q,S' q→S q∨w.heap.size≤q:=by
  have HC:=hide hC
  have hE:Num.cutsE ax ay bx b2=0:=by unfold Num.cutsE;rw [ha,hb];rfl
  have HCut:=hide (fun w'=>chordCuts_any ax ay bx b2 w')
  rw [hE] at HCut
  have HSum:Hid (∀i j:Int,Num.sumP i j ax ay (Num.cutsL ax ay bx b2)=Num.chordV ax ay bx b2 i j):=fun i j=>Num.sumP_cuts i j ha hb
  have HLen:=Num.cutsL_len ax ay bx b2
  have HInL:Hid (∀t∈Num.cutsL ax ay bx b2,Num.inB t.1 t.2=true):=Num.cutsL_in
  obtain ⟨l,hl⟩:∃l,l=Num.cutsL ax ay bx b2:=⟨_,rfl⟩
  have HPc:=hide (Num.pcOk_cuts hl)
  rw [←hl] at HCut HSum HInL HLen
  have HA:=hide ha
  obtain ⟨n,hn⟩:∃n,n=l.length:=⟨_,rfl⟩
  rw [←hn] at HLen
  have HN:=hide hn
  clear hl hE hC hb ha hn
  go_enter Tryz.func191,Tryz.ntmps191
  go_wp2_with fail
  refine (HCut.out _).mono ?_
  rintro e w1 ⟨vL,rfl,hb1,hown1⟩
  have hs1:=hb1.size
  rw [nblk_alloc,nblk_alloc] at hs1
  have HB1:Hid (Below w.heap.size w w1):=Below.trans (((Below.refl _ _).alloc (Nat.le_refl _) _).alloc (by simp) _) (hb1.mono (by simp;omega))
  obtain ⟨q0,q1⟩:=sp2_cells (row_below ((sp2_row ax ay w 42).alloc (.cells #[.int .i64 bx,.int .i64 b2] 42)) hb1 (by simp;omega))
  obtain ⟨ao,cap0,hv,hao⟩:=owns_formN hown1
  rw [hv] at hown1 ⊢
  have hbase:∀q,ao=some ⟨q,0,none⟩→w.heap.size≤q∧q<w1.heap.size:=fun q e=>by
    subst e
    have:=hown1.lt q rfl
    simp at this;omega
  have HBase:=hide hbase
  have HAo:=hide hao
  have HO1:=hide hown1
  rw [←HN.out]
  rw [←HN.out] at HAo
  have hw1:w.heap.size<w1.heap.size:=by omega
  clear hb1 hown1 hv hao hbase HCut
  go_wp2_with fail
  obtain ⟨FB,hFB⟩:∃FB,FB=w1.heap.size:=⟨_,rfl⟩
  obtain ⟨wB,hwB⟩:∃wB,wB=w1.alloc (.cells #[.int .i64 ax,.int .i64 ay] 42):=⟨_,rfl⟩
  have hsB:wB.heap.size=FB+1:=by rw [hwB,hFB];simp
  have HFr:Hid (wB.rowIs FB 42 2 (sp2 ax ay)):=by unfold Hid;rw [hwB,hFB];exact sp2_row ax ay w1 _
  have HBB:Hid (Below w.heap.size w wB):=by unfold Hid;rw [hwB];exact HB1.out.alloc (by omega) _
  have HOB:Hid (wB.ownsRow 0 42 2 (.slice ao l.length cap0) l.length (l.flatMap spC)):=by unfold Hid;rw [hwB];exact owns_mono (HO1.out.alloc _) (Nat.zero_le _)
  have HBase2:Hid (∀q,ao=some ⟨q,0,none⟩→w.heap.size≤q∧q<FB):=fun q e=>by rw [hFB];exact HBase.out q e
  have hFw:w.heap.size<FB:=by omega
  try rw [←hwB,←hFB]
  clear hwB hFB HO1 HB1 HBase q0 q1 hw1
  have HCB:=hide (HC.out.below HBB.out)
  have HSl:Hid (∀q,S q→q<w.heap.size):=fun q hq=>HC.out.lt hq
  clear HC
  go_loopw [24] (fun t' wr=>∃(m:Nat) (fx fy:Int) (S':Nat→Prop),m≤n∧t'=.int .i64 m∧Num.lastS ax ay (l.take m)=(fx,fy)∧Touch S w wr∧FB<wr.heap.size∧wr.rowIs FB 42 2 (sp2 fx fy)∧(∀q,ao=some ⟨q,0,none⟩→wr.heap[q]? = wB.heap[q]?) ∧
      Cnv wr b tt W H tk (fun i j=>A i j+t*Num.sumP i j ax ay (l.take m)) (P+m) S' st∧∀q,S' q→S q∨FB<q) (fun t' _=>n-(intOf t').toNat)
  case atStart=>exact ⟨0,ax,ay,S,by omega,rfl,rfl,(Touch.refl S w).of_below HBB.out,by omega,HFr.out,fun _ _=>rfl,HCB.out.mono (fun i j _ _=>by simp [Num.sumP]) (by simp),fun q hq=>.inl hq⟩
  case round=>
    obtain ⟨m,fx,fy,S',hm,rfl,hlast,hto,hFlt,hrow,hblk,hcv,hS'⟩:=hrel
    by_cases hlt:m<n
    · have hml:m<l.length:=by rw [←HN.out];exact hlt
      obtain ⟨gL,rfl⟩:=HAo.out (by omega)
      obtain ⟨hgL1,hgL2⟩:=HBase2.out gL rfl
      have hOr:=owns_of_block (w':=wr) HOB.out (fun q hq=>by
        have e:q=gL:=by simp [Value.ownBlock] at hq;exact hq.symm
        subst e;exact hblk q rfl)
      obtain ⟨d0,d1⟩:=owns_sp hOr m hml
      have HPa:=hide (Num.pcOk_at l ax ay HPc.out m hml)
      have HSt:Hid (∀i j:Int,Num.sumP i j ax ay (l.take (m+1))=Num.sumP i j ax ay (l.take m)+(if Num.inRow j (Num.lastS ax ay (l.take m)).2 l[m].2=true then Num.pieceA i (Num.lastS ax ay (l.take m)).1 (Num.lastS ax ay (l.take m)).2 l[m].1 l[m].2 else 0)):=fun i j=>Num.sumP_take i j ax ay l m hml
      have HLs:=hide (Num.lastS_take ax ay l m hml)
      have hin1:=Num.inB_yes (lastS_in' (l:=l) m HA.out HInL.out)
      have hin2:=Num.inB_yes (HInL.out l[m] (List.getElem_mem hml))
      rw [hlast] at HPa HSt hin1
      obtain ⟨p,hp⟩:∃p,p=l[m]:=⟨_,rfl⟩
      rw [←hp] at HPa HSt HLs hin2 d0 d1
      clear hp
      obtain ⟨tx,ty⟩:=p
      simp only at HPa HSt hin1 hin2 d0 d1
      have hSlt:∀q,S' q→q<wr.heap.size:=fun q hq=>hcv.lt hq
      have hFS:¬S' FB:=fun e=>by
        rcases hS' FB e with h | h
        · have:=HSl.out FB h;omega
        · omega
      have hgS:¬S' gL:=fun e=>by
        rcases hS' gL e with h | h
        · have:=HSl.out gL h;omega
        · omega
      have hTS:¬S' wr.heap.size:=fun e=>by have:=hSlt _ e;omega
      have HCall:=hide (layPiece_any b W H tk tt _ (P+m) st fx fy tx ty t S' _ (hcv.below ((Below.refl _ _).alloc (Nat.le_refl _) (.cells #[.int .i64 tx,.int .i64 ty] 42))) hW hH (by omega) ht hin1.1 hin1.2 hin2.1 hin2.2 HPa.out.1 HPa.out.2)
      have HEq:Hid (∀i j:Nat,A i j+t*Num.sumP i j ax ay (l.take m)+Num.pcV t fx fy tx ty i j=A i j+t*Num.sumP i j ax ay (l.take (m+1))):=fun i j=>by
        rw [HSt.out,Num.pcV_eq HPa.out.1 HPa.out.2 (by omega) (by omega),Int.mul_add];omega
      have HTR:=hide (sp2_row tx ty wr 42)
      have HFr1:=hide (hrow.alloc (.cells #[.int .i64 tx,.int .i64 ty] 42))
      have HTo:=hide (hto.alloc (.cells #[.int .i64 tx,.int .i64 ty] 42))
      have HSn:=hide (And.intro hFS (And.intro hgS hTS))
      have HS':=hide hS'
      have hgLw:gL<wr.heap.size:=by omega
      have HBl:=hide (hblk gL rfl)
      obtain ⟨f0,f1⟩:=sp2_cells hrow
      have hd1:decide ((m:Int)<(n:Int))=true:=by simp;omega
      have i0':(0:Int)≤(m:Int):=by omega
      have i1':(m:Int)<(n:Int):=by omega
      clear hOr hcv hto hrow hblk hS' hFS hgS hTS hSlt hlast
      go_wp2_with fail
      refine HCall.out.mono ?_
      rintro e w3 ⟨rfl,hT3,S2,hC3,hS2⟩
      have hs3:=hT3.size
      rw [nblk_alloc] at hs3
      have hFr3:=hT3.row HFr1.out HSn.out.1
      have hTr3:=hT3.row HTR.out HSn.out.2.2
      obtain ⟨g0,g1⟩:=sp2_cells hTr3
      obtain ⟨f0',f1'⟩:=sp2_cells hFr3
      have z0:=hFr3.frozen 0
      have z1:=hFr3.frozen 1
      have hFl3:=hFr3.lt
      have HF3:=hide (sp2_set hFr3 tx ty)
      have HT3:Hid (Touch S w w3):=HTo.out.trans' hT3 (fun q e=>by rcases HS'.out q e with h | h;exact .inl h;exact .inr (by omega))
      have HT4:Hid (Touch S w ((w3.setCell ⟨FB,0,none⟩ (.int .i64 tx)).setCell ⟨FB,1,none⟩ (.int .i64 ty))):=(HT3.out.setCell (.inr (by show w.heap.size≤FB;omega)) _).setCell (.inr (by show w.heap.size≤FB;omega)) _
      have hgF:gL≠FB:=by omega
      have HBl3:Hid (((w3.setCell ⟨FB,0,none⟩ (.int .i64 tx)).setCell ⟨FB,1,none⟩ (.int .i64 ty)).heap[gL]? = wB.heap[gL]?):=by
        unfold Hid
        rw [set_otherB hgF,set_otherB hgF,hT3.block gL (by simp;omega) HSn.out.2.1,blk_alloc_lt _ _ _ hgLw]
        exact HBl.out
      have HC4:Hid (Cnv ((w3.setCell ⟨FB,0,none⟩ (.int .i64 tx)).setCell ⟨FB,1,none⟩ (.int .i64 ty)) b tt W H tk (fun i j=>A i j+t*Num.sumP i j ax ay (l.take (m+1))) (P+((m+1:Nat):Int)) S2 st):=by
        have hFS2:∀q,S2 q→¬q=FB:=fun q hq e=>by
          rcases hS2 q hq with h | h
          · rw [e] at h;exact HSn.out.1 h
          · simp at h;omega
        have t1:Touch (fun q=>q=FB) w3 ((w3.setCell ⟨FB,0,none⟩ (.int .i64 tx)).setCell ⟨FB,1,none⟩ (.int .i64 ty)):=((Touch.refl (fun q=>q=FB) w3).setCell (p:=⟨FB,0,none⟩) (.inl rfl) _).setCell (p:=⟨FB,1,none⟩) (.inl rfl) _
        exact (hC3.touch t1 hFS2).mono (fun i j _ _=>(HEq.out i j).symm) (by omega)
      have HS4:Hid (∀q,S2 q→S q∨FB<q):=fun q hq=>by
        rcases hS2 q hq with h | h
        · exact HS'.out q h
        · simp at h;exact .inr (by omega)
      have hw3:wr.heap.size<w3.heap.size:=by omega
      clear hT3 hC3 hS2 hFr3 hTr3 HCall
      go_wp2
      go_roundw
      case rel=>exact ⟨m+1,tx,ty,S2,by omega,by go_num,HLs.out,HT4.out,by simp;omega,HF3.out,fun q e=>by cases e;exact HBl3.out,HC4.out,HS4.out⟩
      case measure=>simp [intOf];omega
    · have e:m=n:=by omega
      have hd0:decide ((m:Int)<(n:Int))=false:=by simp;omega
      have HFin:Hid (Touch S w wr∧∃S',Cnv wr b tt W H tk (fun i j=>A i j+t*Num.chordV ax ay bx b2 i j) (P+1100000) S' st∧∀q,S' q→S q∨w.heap.size≤q):=by
        refine ⟨hto,S',hcv.mono (fun i j _ _=>?_) (by omega),fun q hq=>?_⟩
        · rw [e,HN.out,List.take_length,HSum.out]
        · rcases hS' q hq with h | h
          · exact .inl h
          · exact .inr (by omega)
      clear hto hrow hblk hcv hS'
      go_wp2
      go_end0
      exact ⟨rfl,HFin.out⟩
end Go.Proofs.YtkhcjkmifddlbabGreatDoor
