import Derived.Test.YtkhcjkmifddlbabGreatDoorPart4
import Derived.Test.YtkhcjkmifddlbabGreatDoorPart3
import Derived.Test.YtkhcjkmifddlbabGreatDoorPart1
set_option maxHeartbeats 8000000
namespace Go.Proofs.YtkhcjkmifddlbabGreatDoor
open Go.RowKit Go.Deep
set_option maxRecDepth 100000 in
theorem refLines_any (p q:Int) (w:World) :
    Calls Tryz.prog 85 #[.int .i64 p,.int .i64 q] w fun e w'=>∃v,e=.returned v∧Below w.heap.size w w'∧w'.ownsRow w.heap.size 3 1 v (Num.linesV p q).length (intC (Num.linesV p q)):=by
  obtain ⟨i0,hi0,hz0,hz1,hz2⟩:=info_parts info_int
  go_enter Tryz.func85,Tryz.ntmps85
  go_wp2_with fail
  go_loopw [5,6] (fun v t wr=>∃j:Nat,j≤513∧t=.int .i64 ((j:Int)-256)∧Below w.heap.size w wr∧wr.ownsRow w.heap.size 3 1 v (Num.upR p q j).length (intC (Num.upR p q j))) (fun _ t _=>(400-intOf t).toNat)
  case atStart=>exact ⟨0,by omega,by rfl,Below.refl _ _,World.ownsRow_nil _ _ _ _⟩
  case round=>
    obtain ⟨v,rfl⟩:∃v,v=u5:=⟨_,rfl⟩
    obtain ⟨j,hj,rfl,hb,hown⟩:=hrel
    have hsz:=hb.size
    have hlen:=Num.upR_len p q j
    by_cases hlt:j<513
    · have hd1:decide ((j:Int)-256≤256)=true:=by simp;omega
      have HSu:=hide (Num.upR_succ p q j)
      have hU:Num.upK j=((j:Int)-256)*64:=by unfold Num.upK;omega
      rw [hU] at HSu
      clear hU
      by_cases h1:p<((j:Int)-256)*64
      · by_cases h2:((j:Int)-256)*64<q
        · have HE:Hid (Num.upR p q (j+1)=Num.upR p q j++[((j:Int)-256)*64]):=by unfold Hid;rw [HSu.out,if_pos ⟨h1,h2⟩]
          obtain ⟨M,hM⟩:∃M,M=Num.upR p q j:=⟨_,rfl⟩
          rw [←hM] at HE hown hlen
          obtain ⟨ln,hln⟩:∃ln,ln=M.length:=⟨_,rfl⟩
          obtain ⟨xs,hxs⟩:∃xs,xs=intC M:=⟨_,rfl⟩
          rw [←hln,←hxs] at hown
          rw [←hln] at hlen
          have HLn:=hide hln
          have HXs:=hide hxs
          clear hM hln hxs
          go_wp2_with (at_builtin;refine wpList_append_lies _ rfl _ _ 152 rfl w.heap.size 3 i0 (.int .i64 0) 1 8 Tryz.underlying152 hi0 hz0 hz1 hz2 rfl (by omega) v ln xs rfl (hown.alloc _) ⟨wr.heap.size,0,none⟩ 1 1 [.int .i64 (((j:Int)-256)*64)] rfl rfl ?e1 ?e2 (by omega) ?e3 ?e4 ?e5 (wr.heap.size+1) (by simp) ?_)
          try (case e1=>exact news_sp wr [.int .i64 (((j:Int)-256)*64)] _ _ rfl)
          case e2=>first | rfl | (intro u hu;simp at hu;subst hu;rfl)
          case e3=>unfold maxLen;omega
          case e4=>omega
          case e5=>first | omega | (simp;omega)
          intro g cap w2 hown2 hgrow hat hlt2
          have hb2:Below w.heap.size w w2:=(hb.alloc (by omega) _).grown hgrow (by simp;omega) (fun q hq=>(hown.lt q hq).1)
          have HO2:Hid (w2.ownsRow w.heap.size 3 1 (.slice (some ⟨g,0,none⟩) (ln+1) cap) (Num.upR p q (j+1)).length (intC (Num.upR p q (j+1)))):=by
            unfold Hid
            rw [HE.out,intC_snoc,←HXs.out,List.length_append,←HLn.out]
            exact hown2
          clear hown2 hgrow hat hown hb
          go_wp2
          go_roundw
          case rel=>exact ⟨j+1,by omega,by go_num,hb2,HO2.out⟩
          case measure=>simp [intOf];omega
        · have HE:Hid (Num.upR p q (j+1)=Num.upR p q j):=by unfold Hid;rw [HSu.out,if_neg (fun h=>h2 h.2),List.append_nil]
          have HO:=hide hown
          clear hown
          go_wp2
          go_roundw
          case rel=>exact ⟨j+1,by omega,by go_num,hb,by rw [HE.out];exact HO.out⟩
          case measure=>simp [intOf];omega
      · have HE:Hid (Num.upR p q (j+1)=Num.upR p q j):=by unfold Hid;rw [HSu.out,if_neg (fun h=>h1 h.1),List.append_nil]
        have HO:=hide hown
        clear hown
        go_wp2
        go_roundw
        case rel=>exact ⟨j+1,by omega,by go_num,hb,by rw [HE.out];exact HO.out⟩
        case measure=>simp [intOf];omega
    · have e:j=513:=by omega
      subst e
      have HO:=hide hown
      have HB:=hide hb
      clear hown hb hlen
      go_wp2_with fail
      go_loopw [5,8] (fun v t wr=>∃j:Nat,j≤513∧t=.int .i64 (256-(j:Int))∧Below w.heap.size w wr∧wr.ownsRow w.heap.size 3 1 v (Num.upR p q 513++Num.dnR p q j).length (intC (Num.upR p q 513++Num.dnR p q j))) (fun _ t _=>(400+intOf t).toNat)
      case atStart=>exact ⟨0,by omega,by rfl,HB.out,by simpa [Num.dnR] using HO.out⟩
      case round=>
        obtain ⟨va,rfl⟩:∃va,va=u5:=⟨_,rfl⟩
        obtain ⟨j,hj,rfl,hb,hown⟩:=hrel
        have hsz:=hb.size
        have hlen:(Num.upR p q 513++Num.dnR p q j).length≤513+j:=by
          rw [List.length_append]
          have:=Num.upR_len p q 513
          have:=Num.dnR_len p q j
          omega
        by_cases hlt2:j<513
        · have hd1:decide (-256≤256-(j:Int))=true:=by simp;omega
          have HSu:=hide (Num.dnR_succ p q j)
          have hU:Num.dnK j=(256-(j:Int))*64:=by unfold Num.dnK;omega
          rw [hU] at HSu
          clear hU
          by_cases h1:q<(256-(j:Int))*64
          · by_cases h2:(256-(j:Int))*64<p
            · have HE:Hid (Num.upR p q 513++Num.dnR p q (j+1)=(Num.upR p q 513++Num.dnR p q j)++[(256-(j:Int))*64]):=by unfold Hid;rw [HSu.out,if_pos ⟨h1,h2⟩,List.append_assoc]
              obtain ⟨M,hM⟩:∃M,M=Num.upR p q 513++Num.dnR p q j:=⟨_,rfl⟩
              rw [←hM] at HE hown hlen
              obtain ⟨ln,hln⟩:∃ln,ln=M.length:=⟨_,rfl⟩
              obtain ⟨xs,hxs⟩:∃xs,xs=intC M:=⟨_,rfl⟩
              rw [←hln,←hxs] at hown
              rw [←hln] at hlen
              have HLn:=hide hln
              have HXs:=hide hxs
              clear hM hln hxs
              go_wp2_with (at_builtin;refine wpList_append_lies _ rfl _ _ 152 rfl w.heap.size 3 i0 (.int .i64 0) 1 8 Tryz.underlying152 hi0 hz0 hz1 hz2 rfl (by omega) va ln xs rfl (hown.alloc _) ⟨wr.heap.size,0,none⟩ 1 1 [.int .i64 ((256-(j:Int))*64)] rfl rfl ?f1 ?f2 (by omega) ?f3 ?f4 ?f5 (wr.heap.size+1) (by simp) ?_)
              try (case f1=>exact news_sp wr [.int .i64 ((256-(j:Int))*64)] _ _ rfl)
              case f2=>first | rfl | (intro u hu;simp at hu;subst hu;rfl)
              case f3=>unfold maxLen;omega
              case f4=>omega
              case f5=>first | omega | (simp;omega)
              intro g cap w2 hown2 hgrow hat hlt3
              have hb2:Below w.heap.size w w2:=(hb.alloc (by omega) _).grown hgrow (by simp;omega) (fun q hq=>(hown.lt q hq).1)
              have HO2:Hid (w2.ownsRow w.heap.size 3 1 (.slice (some ⟨g,0,none⟩) (ln+1) cap) (Num.upR p q 513++Num.dnR p q (j+1)).length (intC (Num.upR p q 513++Num.dnR p q (j+1)))):=by
                unfold Hid
                rw [HE.out,intC_snoc,←HXs.out,List.length_append,←HLn.out]
                exact hown2
              clear hown2 hgrow hat hown hb
              go_wp2
              refine ⟨⟨_,_,_,_,_,_,_,_,_,_,_,_,_,_,_,_,_,_,_,_,_,⟨j+1,by omega,?_,hb2,HO2.out⟩,rfl⟩,?_⟩
              · go_num
              · simp [intOf];omega
            · have HE:Hid (Num.dnR p q (j+1)=Num.dnR p q j):=by unfold Hid;rw [HSu.out,if_neg (fun h=>h2 h.2),List.append_nil]
              have HO2:=hide hown
              clear hown
              go_wp2
              go_roundw
              case rel=>exact ⟨j+1,by omega,by go_num,hb,by rw [HE.out];exact HO2.out⟩
              case measure=>simp [intOf];omega
          · have HE:Hid (Num.dnR p q (j+1)=Num.dnR p q j):=by unfold Hid;rw [HSu.out,if_neg (fun h=>h1 h.1),List.append_nil]
            have HO2:=hide hown
            clear hown
            go_wp2
            go_roundw
            case rel=>exact ⟨j+1,by omega,by go_num,hb,by rw [HE.out];exact HO2.out⟩
            case measure=>simp [intOf];omega
        · have e:j=513:=by omega
          subst e
          have HO2:=hide hown
          clear hown
          go_wp2
          go_ret
          exact ⟨va,rfl,hb,HO2.out⟩
theorem xat_any (ax ay bx b2 y:Int) (w:World) (hpq:ay≠b2) (ha:(-16384≤ax∧ax≤16384) ∧ -16384≤ay∧ay≤16384) (hb:(-16384≤bx∧bx≤16384) ∧ -16384≤b2∧b2≤16384) (hy:-16384≤y∧y≤16384) :
    Calls Tryz.prog 86 #[.agg #[.int .i64 ax,.int .i64 ay],.agg #[.int .i64 bx,.int .i64 b2],.int .i64 y] w fun e w'=>e=.returned (.int .i64 (Num.atV ax bx ay b2 y))∧w'=(w.alloc (.cells #[.int .i64 ax,.int .i64 ay] 42)).alloc (.cells #[.int .i64 bx,.int .i64 b2] 42):=by
  have m1:=Num.mul_bd ax (b2-y) 16384 32768 ha.1 (by omega)
  have m2:=Num.mul_bd bx (y-ay) 16384 32768 hb.1 (by omega)
  by_cases hlt:b2-ay<0
  · have HE:Hid (Num.atV ax bx ay b2 y=Num.hu (-(ax*(b2-y)+bx*(y-ay))) (-(b2-ay))):=by unfold Hid Num.atV;rw [if_pos hlt]
    go_enter Tryz.func86,Tryz.ntmps86
    go_wp2_with (go_at_call 75;refine (half_any _ _ _ (by omega) (by omega) (by omega) (by omega)).mono ?_;rintro e w' ⟨rfl,rfl⟩)
    go_ret
    exact ⟨ret_int HE.out.symm,rfl⟩
  · have HE:Hid (Num.atV ax bx ay b2 y=Num.hu (ax*(b2-y)+bx*(y-ay)) (b2-ay)):=by unfold Hid Num.atV;rw [if_neg hlt]
    go_enter Tryz.func86,Tryz.ntmps86
    go_wp2_with (go_at_call 75;refine (half_any _ _ _ (by omega) (by omega) (by omega) (by omega)).mono ?_;rintro e w' ⟨rfl,rfl⟩)
    go_ret
    exact ⟨ret_int HE.out.symm,rfl⟩
theorem yat_any (ax ay bx b2 x:Int) (w:World) (hpq:ax≠bx) (ha:(-16384≤ax∧ax≤16384) ∧ -16384≤ay∧ay≤16384) (hb:(-16384≤bx∧bx≤16384) ∧ -16384≤b2∧b2≤16384) (hx:-16384≤x∧x≤16384) :
    Calls Tryz.prog 87 #[.agg #[.int .i64 ax,.int .i64 ay],.agg #[.int .i64 bx,.int .i64 b2],.int .i64 x] w fun e w'=>e=.returned (.int .i64 (Num.atV ay b2 ax bx x))∧w'=(((w.alloc (.cells #[.int .i64 ax,.int .i64 ay] 42)).alloc (.cells #[.int .i64 bx,.int .i64 b2] 42)).alloc (.cells #[.int .i64 ay,.int .i64 ax] 42)).alloc (.cells #[.int .i64 b2,.int .i64 bx] 42):=by
  have HC:=hide (fun w=>xat_any ay ax b2 bx x w hpq ⟨ha.2,ha.1⟩ ⟨hb.2,hb.1⟩ hx)
  clear ha hb hx
  go_enter Tryz.func87,Tryz.ntmps87
  go_wp2_with fail
  refine (HC.out _).mono ?_
  rintro e w1 ⟨rfl,rfl⟩
  go_wp2
  go_ret
  exact ⟨rfl,rfl⟩
end Go.Proofs.YtkhcjkmifddlbabGreatDoor
namespace Go.Proofs.YtkhcjkmifddlbabGreatDoor
namespace Num
def cl (v:Int):Int:=if v<0 then 0 else if 64<v then 64 else v
def pieceA (i x0 y0 x1 y1:Int):Int:=(y1-y0)*(cl (64*i+64-x0)+cl (64*i+64-x1))
def inRow (j y0 y1:Int):Bool:=decide (64*j≤y0) && decide (y0≤64*j+64) && (decide (64*j≤y1) && decide (y1≤64*j+64))
def sumP (i j:Int):Int→Int→List (Int×Int)→Int
  | _,_,[]=>0
  | x,y,t::r=>(if inRow j y t.2=true then pieceA i x y t.1 t.2 else 0)+sumP i j t.1 t.2 r
theorem sumP_append (i j:Int) (l r:List (Int×Int)):∀x y,sumP i j x y (l++r)=sumP i j x y l+sumP i j (lastS x y l).1 (lastS x y l).2 r:=by
  induction l with
  | nil=>intro x y;simp [sumP,lastS]
  | cons t l ih=>intro x y;simp only [List.cons_append,sumP,lastS,ih];omega
def reachV (px py qx qy x:Int):Int:=if x≤px then py else if qx≤x then qy else atV py qy px qx x
def lsV (a b:Int):Int:=if a<b then a else b
def clipV (v lo hi:Int):Int:=gr lo (lsV v hi)
def partV (ax ay bx b2 i:Int):Int:=
  if bx<ax then
    128*sz (reachV bx b2 ax ay (64*i)-b2)+sz (reachV bx b2 ax ay (64*i+64)-reachV bx b2 ax ay (64*i))*(64*i+64-clipV (64*i) bx ax+(64*i+64)-clipV (64*i+64) bx ax)
  else
    128*sz (reachV ax ay bx b2 (64*i)-ay)+sz (reachV ax ay bx b2 (64*i+64)-reachV ax ay bx b2 (64*i))*(64*i+64-clipV (64*i) ax bx+(64*i+64)-clipV (64*i+64) ax bx)
def downV (ax ay bx b2 i j:Int):Int:=
  if lsV b2 (64*j+64)≤gr ay (64*j) then 0
  else partV (atV ax bx ay b2 (gr ay (64*j))) (gr ay (64*j)) (atV ax bx ay b2 (lsV b2 (64*j+64))) (lsV b2 (64*j+64)) i
def chordV (ax ay bx b2 i j:Int):Int:=if b2<ay then -downV bx b2 ax ay i j else downV ax ay bx b2 i j
theorem hu_mono {n m d:Int} (hd:0<d) (h:n≤m):hu n d≤hu m d:=by
  unfold hu
  exact Int.ediv_le_ediv (by omega) (by omega)
theorem hu_le_of {n d B:Int} (hd:0<d) (h:n≤B*d):hu n d≤B:=by
  have h1:=hu_mono hd h
  have h2:hu (B*d) d=B:=by
    have:=hu_add B 0 d hd
    rw [Int.add_zero] at this
    rw [this]
    have h0:hu 0 d=0:=hu_of 0 d 0 hd (by omega) (by omega)
    omega
  omega
theorem hu_ge_of {n d B:Int} (hd:0<d) (h:B*d≤n):B≤hu n d:=by
  have h1:=hu_mono hd h
  have h2:hu (B*d) d=B:=by
    have:=hu_add B 0 d hd
    rw [Int.add_zero] at this
    rw [this]
    have h0:hu 0 d=0:=hu_of 0 d 0 hd (by omega) (by omega)
    omega
  omega
theorem atV_symm {a b p q n:Int} (h:p≠q):atV a b p q n=atV b a q p n:=by
  unfold atV
  have e1:a*(q-n)+b*(n-p) = -(b*(p-n)+a*(n-q)):=by
    have x1:a*(q-n) = -(a*(n-q)):=by rw [←Int.mul_neg];congr 1;omega
    have x2:b*(n-p) = -(b*(p-n)):=by rw [←Int.mul_neg];congr 1;omega
    omega
  by_cases c:q-p<0
  · rw [if_pos c,if_neg (by omega),e1,Int.neg_neg,show -(q-p)=p-q by omega]
  · rw [if_neg c,if_pos (by omega),e1,show -(p-q)=q-p by omega]
theorem atV_begin {a b p q:Int} (h:p≠q):atV a b p q p=a:=by
  rw [atV_eq h]
  rw [Int.sub_self,Int.mul_zero,Int.neg_zero]
  split
  · have h0:hu 0 (-(q-p))=0:=hu_of 0 _ 0 (by omega) (by omega) (by omega)
    omega
  · have h0:hu 0 (q-p)=0:=hu_of 0 _ 0 (by omega) (by omega) (by omega)
    omega
theorem atV_end {a b p q:Int} (h:p≠q):atV a b p q q=b:=by
  rw [atV_symm h];exact atV_begin (fun e=>h e.symm)
theorem atV_mono {a b p q n m:Int} (hpq:p<q) (hab:a≤b) (h:n≤m):atV a b p q n≤atV a b p q m:=by
  rw [atV_eq (by omega),atV_eq (by omega),if_neg (by omega),if_neg (by omega)]
  have:=Int.mul_le_mul_of_nonneg_left (show n-p≤m-p by omega) (show 0≤b-a by omega)
  have:=hu_mono (show 0<q-p by omega) this
  omega
theorem atV_anti {a b p q n m:Int} (hpq:p<q) (hab:b≤a) (h:n≤m):atV a b p q m≤atV a b p q n:=by
  rw [atV_eq (by omega),atV_eq (by omega),if_neg (by omega),if_neg (by omega)]
  have h1:=Int.mul_le_mul_of_nonneg_left (show n-p≤m-p by omega) (show 0≤a-b by omega)
  have e1:(b-a)*(n-p) = -((a-b)*(n-p)):=by rw [←Int.neg_mul];congr 1;omega
  have e2:(b-a)*(m-p) = -((a-b)*(m-p)):=by rw [←Int.neg_mul];congr 1;omega
  have:=hu_mono (n:=(b-a)*(m-p)) (m:=(b-a)*(n-p)) (show 0<q-p by omega) (by omega)
  omega
theorem atV_in {a b p q n:Int} (hab:a≤b) (hpq:p<q) (h1:p≤n) (h2:n≤q):a≤atV a b p q n∧atV a b p q n≤b:=by
  have x:=atV_mono (a:=a) (b:=b) hpq hab h1
  have y:=atV_mono (a:=a) (b:=b) hpq hab h2
  rw [atV_begin (by omega)] at x
  rw [atV_end (by omega)] at y
  exact ⟨x,y⟩
end Num
end Go.Proofs.YtkhcjkmifddlbabGreatDoor
namespace Go.Proofs.YtkhcjkmifddlbabGreatDoor
namespace Num
theorem clip_lo {v lo hi:Int} (h:v≤lo):clipV v lo hi=lo:=by unfold clipV gr lsV;split <;> split at * <;> omega
theorem clip_hi {v lo hi:Int} (h:hi≤v) (h2:lo≤hi):clipV v lo hi=hi:=by unfold clipV gr lsV;split <;> split at * <;> omega
theorem clip_mid {v lo hi:Int} (h:lo≤v) (h2:v≤hi):clipV v lo hi=v:=by unfold clipV gr lsV;split <;> split at * <;> omega
theorem clip_up {v lo lo' hi:Int} (h:lo≤lo') (h1:lo'≤v) (h2:lo'≤hi):clipV v lo hi=clipV v lo' hi:=by
  unfold clipV gr lsV;repeat' split
  all_goals omega
theorem clip_dn {v lo hi hi':Int} (h:hi'≤hi) (h1:v≤hi'):clipV v lo hi=clipV v lo hi':=by
  unfold clipV gr lsV;repeat' split
  all_goals omega
theorem cl_far {v:Int} (h:64≤v):cl v=64:=by
  unfold cl;repeat' split
  all_goals omega
theorem cl_none {v:Int} (h:v≤0):cl v=0:=by
  unfold cl;repeat' split
  all_goals omega
theorem cl_in {v:Int} (h:0≤v) (h2:v≤64):cl v=v:=by
  unfold cl;repeat' split
  all_goals omega
def noLine (x y:Int):Prop:=∀k:Int,¬(x<64*k∧64*k<y)
def StepsU:Int→List Int→Prop
  | _,[]=>True
  | x,y::r=>x<y∧noLine x y∧(r=[]∨∃k:Int,y=64*k)∧StepsU y r
def StepsD:Int→List Int→Prop
  | _,[]=>True
  | x,y::r=>y<x∧noLine y x∧(r=[]∨∃k:Int,y=64*k)∧StepsD y r
def lastI (x:Int):List Int→Int
  | []=>x
  | y::r=>lastI y r
theorem lastU:∀l x,StepsU x l→x≤lastI x l:=by
  intro l
  induction l with
  | nil=>intro x _;exact Int.le_refl _
  | cons y r ih=>intro x h;have:=ih y h.2.2.2;have:=h.1;simp only [lastI];omega
theorem lastD:∀l x,StepsD x l→lastI x l≤x:=by
  intro l
  induction l with
  | nil=>intro x _;exact Int.le_refl _
  | cons y r ih=>intro x h;have:=ih y h.2.2.2;have:=h.1;simp only [lastI];omega
def sumY (Y:Int→Int) (i:Int):Int→List Int→Int
  | _,[]=>0
  | x,y::r=>(Y y-Y x)*(cl (64*i+64-x)+cl (64*i+64-y))+sumY Y i y r
def formY (Y:Int→Int) (i lo hi:Int):Int:=
  128*(Y (clipV (64*i) lo hi)-Y lo)+(Y (clipV (64*i+64) lo hi)-Y (clipV (64*i) lo hi))*(64*i+64-clipV (64*i) lo hi+(64*i+64)-clipV (64*i+64) lo hi)
theorem formY_self (Y:Int→Int) (i x:Int):formY Y i x x=0:=by
  have h : ∀ v, clipV v x x = x := by intro v; unfold clipV gr lsV; repeat' split
                                      all_goals omega
  unfold formY;rw [h,h,Int.sub_self,Int.zero_mul];omega
theorem sumU (Y:Int→Int) (i:Int):∀l x,StepsU x l→sumY Y i x l=formY Y i x (lastI x l):=by
  intro l
  induction l with
  | nil=>intro x _;simp only [sumY,lastI,formY_self]
  | cons y r ih=>
    intro x h
    obtain ⟨hxy',hn,hr,hs⟩:=h
    have hxy:=Int.le_of_lt hxy'
    have hl:=lastU r y hs
    simp only [sumY,lastI,ih y hs]
    generalize hz:lastI y r=z at *
    have n1:=hn i
    have n2:=hn (i+1)
    by_cases c1:y≤64*i
    · unfold formY
      rw [clip_up (v:=64*i) hxy c1 hl,clip_up (v:=64*i+64) hxy (by omega) hl,cl_far (by omega),cl_far (by omega)]
      generalize (Y (clipV (64*i+64) y z)-Y (clipV (64*i) y z))*_=M
      omega
    · have hx:64*i≤x:=by omega
      by_cases c2:64*i+64<y
      · have hx2:64*i+64≤x:=by omega
        unfold formY
        rw [clip_lo (v:=64*i) (lo:=y) (by omega),clip_lo (v:=64*i+64) (lo:=y) (by omega),clip_lo (v:=64*i) (lo:=x) (by omega),clip_lo (v:=64*i+64) (lo:=x) (by omega),cl_none (by omega),cl_none (by omega)]
        simp only [Int.sub_self,Int.zero_mul,Int.mul_zero,Int.add_zero]
      · have hR:clipV (64*i+64) x z=y∧formY Y i y z=0:=by
          rcases hr with hr | ⟨k,hk⟩
          · subst hr
            simp only [lastI] at hz
            subst hz
            exact ⟨clip_hi (by omega) hxy,formY_self _ _ _⟩
          · have:y=64*i+64:=by omega
            refine ⟨by rw [←this];exact clip_mid hxy hl,?_⟩
            unfold formY
            rw [clip_lo (v:=64*i) (lo:=y) (by omega),clip_lo (v:=64*i+64) (lo:=y) (by omega)]
            simp only [Int.sub_self,Int.zero_mul,Int.mul_zero,Int.add_zero]
        rw [hR.2]
        unfold formY
        rw [hR.1,clip_lo (v:=64*i) (lo:=x) (by omega),cl_in (by omega) (by omega),cl_in (by omega) (by omega)]
        rw [show 64*i+64-x+(64*i+64)-y=64*i+64-x+(64*i+64-y) by omega]
        generalize (Y y-Y x)*_=M
        omega
theorem sumD (Y:Int→Int) (i:Int):∀l x,StepsD x l→sumY Y i x l = -formY Y i (lastI x l) x:=by
  intro l
  induction l with
  | nil=>intro x _;simp only [sumY,lastI,formY_self,Int.neg_zero]
  | cons y r ih=>
    intro x h
    obtain ⟨hxy',hn,hr,hs⟩:=h
    have hxy:=Int.le_of_lt hxy'
    have hl:=lastD r y hs
    simp only [sumY,lastI,ih y hs]
    generalize hz:lastI y r=z at *
    have n1:=hn i
    have n2:=hn (i+1)
    by_cases c1:64*i+64≤y
    · unfold formY
      rw [clip_dn (v:=64*i) hxy (by omega),clip_dn (v:=64*i+64) hxy (by omega),cl_none (by omega),cl_none (by omega)]
      generalize (Y (clipV (64*i+64) z y)-Y (clipV (64*i) z y))*_=M
      omega
    · have hx:x≤64*i+64:=by omega
      by_cases c2:x≤64*i
      · unfold formY
        rw [clip_hi (v:=64*i) (hi:=y) (by omega) hl,clip_hi (v:=64*i+64) (hi:=y) (by omega) hl,clip_hi (v:=64*i) (hi:=x) (by omega) (by omega),clip_hi (v:=64*i+64) (hi:=x) (by omega) (by omega),cl_far (by omega),cl_far (by omega)]
        simp only [Int.sub_self,Int.zero_mul,Int.add_zero]
        omega
      · have hy:64*i≤y:=by omega
        have hR:clipV (64*i) z x=y∧clipV (64*i) z y=y:=by
          rcases hr with hr | ⟨k,hk⟩
          · subst hr
            simp only [lastI] at hz
            subst hz
            exact ⟨clip_lo (by omega),clip_lo (by omega)⟩
          · have:y=64*i:=by omega
            exact ⟨by rw [←this];exact clip_mid hl hxy,clip_hi (by omega) hl⟩
        unfold formY
        rw [hR.1,hR.2,clip_hi (v:=64*i+64) (hi:=y) (by omega) hl,clip_hi (v:=64*i+64) (hi:=x) (by omega) (by omega),cl_in (by omega) (by omega),cl_in (by omega) (by omega)]
        rw [show 64*i+64-y+(64*i+64)-x=64*i+64-x+(64*i+64-y) by omega]
        rw [show Y y-Y x = -(Y x-Y y) by omega,Int.neg_mul,Int.sub_self,Int.zero_mul]
        generalize (Y x-Y y)*_=M
        omega
theorem sumP_Y (Y:Int→Int) (i j:Int):∀(l:List Int) (x:Int),64*j≤Y x∧Y x≤64*j+64→(∀v∈l,64*j≤Y v∧Y v≤64*j+64)→sumP i j x (Y x) (l.map fun v=>(v,Y v))=sumY Y i x l:=by
  intro l
  induction l with
  | nil=>intro x _ _;rfl
  | cons v r ih=>
    intro x hx hl
    have hv:=hl v (by simp)
    have c:inRow j (Y x) (Y v)=true:=by unfold inRow;simp;omega
    simp only [List.map_cons,sumP,sumY,c,if_true,ih v hv (fun u hu=>hl u (by simp [hu])),pieceA]
theorem stepsU_go {p q:Int}:∀m s x,p≤x→x<q→(∀k:Int,x<64*k→64*k<q→upK s≤64*k∧64*k<upK (s+m))→(∀k,s≤k→p<upK k→x<upK k) →
    StepsU x (((List.range' s m).filter fun k=>decide (p<upK k) && decide (upK k<q)).map upK++[q]):=by
  intro m
  induction m with
  | zero=>
    intro s x _ hxq hk _
    refine ⟨hxq,fun k h=>?_,.inl rfl,trivial⟩
    have:=hk k h.1 h.2
    simp only [Nat.add_zero] at this
    omega
  | succ m ih=>
    intro s x hpx hxq hk hs
    rw [List.range'_succ]
    by_cases c:p<upK s∧upK s<q
    · rw [List.filter_cons_of_pos (by simp [c.1,c.2])]
      have hxs:=hs s (Nat.le_refl _) c.1
      refine ⟨hxs,fun k h=>?_,.inr ⟨(s:Int)-256,rfl⟩,?_⟩
      · have:=hk k h.1 (by omega)
        omega
      · apply ih (s+1) (upK s) (by omega) (by omega)
        · intro k h1 h2
          have h3:=hk k (by omega) h2
          have e:s+1+m=s+(m+1):=by omega
          rw [e]
          refine ⟨?_,h3.2⟩
          unfold upK at h1 ⊢
          omega
        · intro k hk2 _
          unfold upK
          omega
    · rw [List.filter_cons_of_neg (by simp;omega)]
      apply ih (s+1) x hpx hxq
      · intro k h1 h2
        have h3:=hk k h1 h2
        have e:s+1+m=s+(m+1):=by omega
        rw [e]
        refine ⟨?_,h3.2⟩
        unfold upK at h3 c ⊢
        omega
      · intro k hk2 h;exact hs k (by omega) h
theorem stepsD_go {p q:Int}:∀m s x,x≤p→q<x→(∀k:Int,q<64*k→64*k<x→64*k≤dnK s∧dnK (s+m)<64*k)→(∀k,s≤k→dnK k<p→dnK k<x) →
    StepsD x (((List.range' s m).filter fun k=>decide (dnK k<p) && decide (q<dnK k)).map dnK++[q]):=by
  intro m
  induction m with
  | zero=>
    intro s x _ hxq hk _
    refine ⟨hxq,fun k h=>?_,.inl rfl,trivial⟩
    have:=hk k h.1 h.2
    simp only [Nat.add_zero] at this
    omega
  | succ m ih=>
    intro s x hpx hxq hk hs
    rw [List.range'_succ]
    by_cases c:dnK s<p∧q<dnK s
    · rw [List.filter_cons_of_pos (by simp [c.1,c.2])]
      have hxs:=hs s (Nat.le_refl _) c.1
      refine ⟨hxs,fun k h=>?_,.inr ⟨256-(s:Int),rfl⟩,?_⟩
      · have:=hk k (by omega) h.2
        omega
      · apply ih (s+1) (dnK s) (by omega) (by omega)
        · intro k h1 h2
          have h3:=hk k h1 (by omega)
          have e:s+1+m=s+(m+1):=by omega
          rw [e]
          refine ⟨?_,h3.2⟩
          unfold dnK at h2 ⊢
          omega
        · intro k hk2 _
          unfold dnK
          omega
    · rw [List.filter_cons_of_neg (by simp;omega)]
      apply ih (s+1) x hpx hxq
      · intro k h1 h2
        have h3:=hk k h1 h2
        have e:s+1+m=s+(m+1):=by omega
        rw [e]
        refine ⟨?_,h3.2⟩
        unfold dnK at h3 c ⊢
        omega
      · intro k hk2 h;exact hs k (by omega) h
theorem steps_up {p q:Int} (h:p<q) (hp:-16384≤p) (hq:q≤16384) {l:List Int} (hl:l=linesV p q++[q]):StepsU p l:=by
  unfold linesV at hl
  rw [dnR_none _ (Int.le_of_lt h),List.append_nil] at hl
  unfold upR at hl
  rw [List.range_eq_range'] at hl
  revert hl
  generalize hm:(513:Nat)=m
  intro hl
  rw [hl]
  apply stepsU_go m 0 p (Int.le_refl _) h
  · subst hm
    intro k h1 h2;unfold upK;simp;omega
  · intro k _ h;exact h
theorem steps_dn {p q:Int} (h:q<p) (hp:p≤16384) (hq:-16384≤q) {l:List Int} (hl:l=linesV p q++[q]):StepsD p l:=by
  unfold linesV at hl
  rw [upR_none _ (Int.le_of_lt h),List.nil_append] at hl
  unfold dnR at hl
  rw [List.range_eq_range'] at hl
  revert hl
  generalize hm:(513:Nat)=m
  intro hl
  rw [hl]
  apply stepsD_go m 0 p (Int.le_refl _) h
  · subst hm
    intro k h1 h2;unfold dnK;simp;omega
  · intro k _ h;exact h
theorem lastI_snoc (l:List Int) (q:Int):∀x,lastI x (l++[q])=q:=by
  induction l with
  | nil=>intro x;rfl
  | cons u r ih=>intro x;simp only [List.cons_append,lastI,ih]
theorem sum_up (Y:Int→Int) (i:Int) {p q:Int} (h:p<q) (hp:-16384≤p) (hq:q≤16384):sumY Y i p (linesV p q++[q])=formY Y i p q:=by
  generalize hl:linesV p q++[q]=l
  rw [sumU Y i l p (steps_up h hp hq hl.symm),←hl,lastI_snoc]
theorem sum_dn (Y:Int→Int) (i:Int) {p q:Int} (h:q<p) (hp:p≤16384) (hq:-16384≤q):sumY Y i p (linesV p q++[q]) = -formY Y i q p:=by
  generalize hl:linesV p q++[q]=l
  rw [sumD Y i l p (steps_dn h hp hq hl.symm),←hl,lastI_snoc]
end Num
end Go.Proofs.YtkhcjkmifddlbabGreatDoor
namespace Go.Proofs.YtkhcjkmifddlbabGreatDoor
namespace Num
theorem sz_pos {n:Int} (h:0≤n):sz n=n:=by unfold sz;split <;> omega
theorem sz_neg {n:Int} (h:n≤0):sz n = -n:=by unfold sz;split <;> omega
theorem clip_le {lo hi v w:Int} (h:v≤w):clipV v lo hi≤clipV w lo hi:=by
  unfold clipV gr lsV;repeat' split
  all_goals omega
theorem clip_ge (lo hi v:Int):lo≤clipV v lo hi:=by
  unfold clipV gr lsV;repeat' split
  all_goals omega
theorem reach_eq {lo hi ylo yhi x:Int} (h:lo<hi):reachV lo ylo hi yhi x=atV ylo yhi lo hi (clipV x lo hi):=by
  unfold reachV
  split
  · rename_i c;rw [clip_lo c,atV_begin (by omega)]
  · split
    · rename_i c;rw [clip_hi c (by omega),atV_end (by omega)]
    · rw [clip_mid (by omega) (by omega)]
def docG (lo ylo hi yhi i:Int):Int:=
  128*sz (reachV lo ylo hi yhi (64*i)-ylo)+sz (reachV lo ylo hi yhi (64*i+64)-reachV lo ylo hi yhi (64*i))*(64*i+64-clipV (64*i) lo hi+(64*i+64)-clipV (64*i+64) lo hi)
theorem partV_eq (ax ay bx b2 i:Int):partV ax ay bx b2 i=if bx<ax then docG bx b2 ax ay i else docG ax ay bx b2 i:=rfl
theorem docG_up {lo hi ylo yhi:Int} (i:Int) (h:lo<hi) (hy:ylo≤yhi):docG lo ylo hi yhi i=formY (atV ylo yhi lo hi) i lo hi:=by
  unfold docG formY
  rw [reach_eq h,reach_eq h]
  have m1:=atV_mono h hy (clip_ge lo hi (64*i))
  have m2:=atV_mono h hy (clip_le (lo:=lo) (hi:=hi) (show 64*i≤64*i+64 by omega))
  rw [atV_begin (show lo≠hi by omega)] at m1 ⊢
  rw [sz_pos (by omega),sz_pos (by omega)]
theorem docG_dn {lo hi ylo yhi:Int} (i:Int) (h:lo<hi) (hy:yhi≤ylo):docG lo ylo hi yhi i = -formY (atV ylo yhi lo hi) i lo hi:=by
  unfold docG formY
  rw [reach_eq h,reach_eq h]
  have m1:=atV_anti h hy (clip_ge lo hi (64*i))
  have m2:=atV_anti h hy (clip_le (lo:=lo) (hi:=hi) (show 64*i≤64*i+64 by omega))
  rw [atV_begin (show lo≠hi by omega)] at m1 ⊢
  rw [sz_neg (by omega),sz_neg (by omega),Int.neg_mul]
  omega
theorem atV_rng {a b p q n lo hi:Int} (h:(p≤n∧n≤q∧p<q)∨(q≤n∧n≤p∧q<p)) (ha:lo≤a∧a≤hi) (hb:lo≤b∧b≤hi):lo≤atV a b p q n∧atV a b p q n≤hi:=by
  have key:∀{a b p q:Int},p≤n→n≤q→p<q→lo≤a∧a≤hi→lo≤b∧b≤hi→lo≤atV a b p q n∧atV a b p q n≤hi:=by
    intro a b p q h1 h2 h3 ha hb
    rcases Int.le_total a b with c | c
    · have:=atV_in c h3 h1 h2;omega
    · have x:=atV_anti h3 c h1
      have y:=atV_anti h3 c h2
      rw [atV_begin (by omega)] at x
      rw [atV_end (by omega)] at y
      omega
  rcases h with ⟨h1,h2,h3⟩ | ⟨h1,h2,h3⟩
  · exact key h1 h2 h3 ha hb
  · rw [atV_symm (by omega)];exact key h1 h2 h3 hb ha
theorem cols_part {px py qx qy:Int} (i j:Int) (hp:-16384≤px∧px≤16384) (hq:-16384≤qx∧qx≤16384) (h1:64*j≤py∧py≤64*j+64) (h2:64*j≤qy∧qy≤64*j+64) :
    sumP i j px py (colsV px py qx qy++[(qx,qy)])=if qy<py then -partV qx qy px py i else partV px py qx qy i:=by
  have glue:px≠qx→sumP i j px py (colsV px py qx qy++[(qx,qy)])=sumY (atV py qy px qx) i px (linesV px qx++[qx]):=by
    intro hne
    rw [←sumP_Y (atV py qy px qx) i j]
    · rw [atV_begin hne,List.map_append,List.map_cons,List.map_nil,atV_end hne];rfl
    · rw [atV_begin hne];exact h1
    · intro v hv
      rw [List.mem_append] at hv
      rcases hv with hv | hv
      · have:=linesV_mem hv
        exact atV_rng (by omega) h1 h2
      · rw [List.mem_singleton] at hv;subst hv
        rw [atV_end hne];exact h2
  rcases Int.lt_trichotomy px qx with c | c | c
  · rw [glue (by omega),sum_up _ i c hp.1 hq.2]
    by_cases d:qy<py
    · rw [if_pos d,partV_eq,if_pos c,docG_dn i c (by omega)];omega
    · rw [if_neg d,partV_eq,if_neg (by omega),docG_up i c (by omega)]
  · subst c
    have e:colsV px py px qy=[]:=by unfold colsV linesV;rw [upR_none _ (Int.le_refl _),dnR_none _ (Int.le_refl _)];rfl
    have r:inRow j py qy=true:=by unfold inRow;simp;omega
    rw [e]
    simp only [List.nil_append,sumP,r,if_true,pieceA,Int.add_zero]
    rw [partV_eq,partV_eq,if_neg (Int.lt_irrefl _),if_neg (Int.lt_irrefl _)]
    have k:∀a b:Int,a≤b→docG px a px b i=(b-a)*(cl (64*i+64-px)+cl (64*i+64-px)):=by
      intro a b hab
      have hc:∀v,clipV v px px=px:=by
        intro v;unfold clipV gr lsV;repeat' split
        all_goals omega
      unfold docG
      rw [hc,hc]
      unfold reachV
      by_cases c1:64*i≤px
      · rw [if_pos c1]
        by_cases c2:64*i+64≤px
        · rw [if_pos c2,cl_none (by omega),Int.sub_self,sz_pos (Int.le_refl _),Int.zero_mul];omega
        · rw [if_neg c2,if_pos (by omega),cl_in (by omega) (by omega),Int.sub_self,sz_pos (Int.le_refl _),sz_pos (by omega)]
          rw [show 64*i+64-px+(64*i+64)-px=64*i+64-px+(64*i+64-px) by omega]
          omega
      · rw [if_neg c1,if_pos (by omega),if_neg (by omega),if_pos (by omega),cl_far (by omega),sz_pos (by omega),Int.sub_self,sz_pos (Int.le_refl _),Int.zero_mul];omega
    split
    · rw [k qy py (by omega),←Int.neg_mul,show -(py-qy)=qy-py by omega]
    · rw [k py qy (by omega)]
  · rw [glue (by omega),sum_dn _ i c hp.2 hq.1]
    have e:formY (atV py qy px qx) i qx px=formY (atV qy py qx px) i qx px:=by
      have:atV py qy px qx=atV qy py qx px:=by funext n;exact atV_symm (by omega)
      rw [this]
    rw [e]
    by_cases d:qy<py
    · rw [if_pos d,partV_eq,if_neg (by omega),docG_up i c (by omega)]
    · rw [if_neg d,partV_eq,if_pos c,docG_dn i c (by omega)]
theorem cols_other {px py qx qy:Int} (i j k:Int) (hj:j≠k) (h1:64*k≤py∧py≤64*k+64) (h2:64*k≤qy∧qy≤64*k+64) :
    sumP i j px py (colsV px py qx qy++[(qx,qy)])=0:=by
  have key:∀(l:List (Int×Int)) x y,64*k≤y∧y≤64*k+64→(∀t∈l,64*k≤t.2∧t.2≤64*k+64)→sumP i j x y l=0:=by
    intro l
    induction l with
    | nil=>intro x y _ _;rfl
    | cons t r ih=>
      intro x y hy hl
      have ht:=hl t (by simp)
      simp only [sumP,ih t.1 t.2 ht (fun u hu=>hl u (by simp [hu])),Int.add_zero]
      split
      · rename_i c
        have:y=t.2:=by unfold inRow at c;simp at c;omega
        unfold pieceA;rw [this,Int.sub_self,Int.zero_mul]
      · rfl
  apply key _ _ _ h1
  intro t ht
  rw [List.mem_append] at ht
  rcases ht with ht | ht
  · unfold colsV at ht
    rw [List.mem_map] at ht
    obtain ⟨v,hv,rfl⟩:=ht
    have:=linesV_mem hv
    exact atV_rng (by omega) h1 h2
  · rw [List.mem_singleton] at ht;subst ht;exact h2
end Num
end Go.Proofs.YtkhcjkmifddlbabGreatDoor
namespace Go.Proofs.YtkhcjkmifddlbabGreatDoor
namespace Num
def sumR (X:Int→Int) (i j:Int):Int→List Int→Int
  | _,[]=>0
  | y,v::r=>sumP i j (X y) y (colsV (X y) y (X v) v++[(X v,v)])+sumR X i j v r
theorem sumP_R (X:Int→Int) (i j:Int):∀l y,sumP i j (X y) y (cutF (X y) y (l.map fun v=>(X v,v)))=sumR X i j y l:=by
  intro l
  induction l with
  | nil=>intro y;rfl
  | cons v r ih=>
    intro y
    simp only [List.map_cons,cutF,sumR]
    rw [show colsV (X y) y (X v) v++(X v,v)::cutF (X v) v (r.map fun v=>(X v,v))=(colsV (X y) y (X v) v++[(X v,v)])++cutF (X v) v (r.map fun v=>(X v,v)) by simp,sumP_append,lastS_snoc,ih]
def rowF (X:Int→Int) (i j lo hi:Int):Int:=
  if lsV hi (64*j+64)≤gr lo (64*j) then 0 else partV (X (gr lo (64*j))) (gr lo (64*j)) (X (lsV hi (64*j+64))) (lsV hi (64*j+64)) i
theorem gr_l {a b:Int} (h:b≤a):gr a b=a:=by unfold gr;split <;> omega
theorem gr_r {a b:Int} (h:a≤b):gr a b=b:=by unfold gr;split <;> omega
theorem ls_l {a b:Int} (h:a≤b):lsV a b=a:=by unfold lsV;split <;> omega
theorem ls_r {a b:Int} (h:b≤a):lsV a b=b:=by unfold lsV;split <;> omega
theorem gr_ge (a b:Int):a≤gr a b∧b≤gr a b:=by unfold gr;split <;> omega
theorem ls_le (a b:Int):lsV a b≤a∧lsV a b≤b:=by unfold lsV;split <;> omega
theorem rowsU (X:Int→Int) (i j:Int):∀l y,StepsU y l→(∀v∈y::l,-16384≤X v∧X v≤16384)→sumR X i j y l=rowF X i j y (lastI y l):=by
  intro l
  induction l with
  | nil=>
    intro y _ _
    have h1:=ls_le y (64*j+64)
    have h2:=gr_ge y (64*j)
    simp only [sumR,lastI]
    unfold rowF
    rw [if_pos (by omega)]
  | cons v r ih=>
    intro y h hX
    obtain ⟨hyv,hn,hr,hs⟩:=h
    have hl:=lastU r v hs
    simp only [sumR,lastI,ih v hs (fun u hu=>hX u (by simp at hu ⊢;exact .inr hu))]
    have xy:=hX y (by simp)
    have xv:=hX v (by simp)
    generalize hz:lastI v r=z at *
    have hk1:64*(y / 64)≤y:=by omega
    have hk2:y<64*(y / 64)+64:=by omega
    have hk3:v≤64*(y / 64)+64:=by have:=hn (y / 64+1);omega
    generalize y / 64=k at hk1 hk2 hk3
    rcases Int.lt_trichotomy k j with c | c | c
    · rw [cols_other i j k (by omega) (by omega) (by omega),Int.zero_add]
      unfold rowF
      rw [gr_r (show v≤64*j by omega),gr_r (show y≤64*j by omega)]
    · subst c
      rw [cols_part i k xy xv (by omega) (by omega),if_neg (by omega)]
      have e:lsV z (64*k+64)=v:=by
        rcases hr with hr | ⟨m,hm⟩
        · subst hr;simp only [lastI] at hz;subst hz;exact ls_l (by omega)
        · rw [ls_r (by omega)];omega
      have g:=gr_ge v (64*k)
      unfold rowF
      rw [e,if_pos g.1,gr_l hk1,if_neg (by omega),Int.add_zero]
    · rw [cols_other i j k (by omega) (by omega) (by omega),Int.zero_add]
      unfold rowF
      have h1:=ls_le z (64*j+64)
      have h2:=gr_ge y (64*j)
      have h3:=gr_ge v (64*j)
      rw [if_pos (by omega),if_pos (by omega)]
theorem rowsD (X:Int→Int) (i j:Int):∀l y,StepsD y l→(∀v∈y::l,-16384≤X v∧X v≤16384)→sumR X i j y l = -rowF X i j (lastI y l) y:=by
  intro l
  induction l with
  | nil=>
    intro y _ _
    have h1:=ls_le y (64*j+64)
    have h2:=gr_ge y (64*j)
    simp only [sumR,lastI]
    unfold rowF
    rw [if_pos (by omega),Int.neg_zero]
  | cons v r ih=>
    intro y h hX
    obtain ⟨hyv,hn,hr,hs⟩:=h
    have hl:=lastD r v hs
    simp only [sumR,lastI,ih v hs (fun u hu=>hX u (by simp at hu ⊢;exact .inr hu))]
    have xy:=hX y (by simp)
    have xv:=hX v (by simp)
    generalize hz:lastI v r=z at *
    have hk1:64*((y-1) / 64)<y:=by omega
    have hk2:y≤64*((y-1) / 64)+64:=by omega
    have hk3:64*((y-1) / 64)≤v:=by have:=hn ((y-1) / 64);omega
    generalize (y-1) / 64=k at hk1 hk2 hk3
    rcases Int.lt_trichotomy k j with c | c | c
    · rw [cols_other i j k (by omega) (by omega) (by omega),Int.zero_add]
      unfold rowF
      have h1:=gr_ge z (64*j)
      have h2:=ls_le y (64*j+64)
      have h3:=ls_le v (64*j+64)
      rw [if_pos (by omega),if_pos (by omega)]
    · subst c
      rw [cols_part i k xy xv (by omega) (by omega),if_pos hyv]
      have e:gr z (64*k)=v:=by
        rcases hr with hr | ⟨m,hm⟩
        · subst hr;simp only [lastI] at hz;subst hz;exact gr_l (by omega)
        · rw [gr_r (by omega)];omega
      have g:=ls_le v (64*k+64)
      unfold rowF
      rw [e,if_pos g.1,ls_l hk2,if_neg (by omega),Int.neg_zero,Int.add_zero]
    · rw [cols_other i j k (by omega) (by omega) (by omega),Int.zero_add]
      unfold rowF
      rw [ls_r (show 64*j+64≤v by omega),ls_r (show 64*j+64≤y by omega)]
theorem chord_sum {ax ay bx b2:Int} (i j:Int) (ha:inB ax ay=true) (hb:inB bx b2=true) :
    sumP i j ax ay (cutF ax ay (rowsV ax ay bx b2++[(bx,b2)]))=chordV ax ay bx b2 i j:=by
  have a:=inB_yes ha
  have b:=inB_yes hb
  have glue:ay≠b2→sumP i j ax ay (cutF ax ay (rowsV ax ay bx b2++[(bx,b2)]))=sumR (atV ax bx ay b2) i j ay (linesV ay b2++[b2]):=by
    intro hne
    rw [←sumP_R,atV_begin hne,List.map_append,List.map_cons,List.map_nil,atV_end hne];rfl
  have rng:ay≠b2→∀l,l=linesV ay b2++[b2]→∀v∈ay::l,-16384≤atV ax bx ay b2 v∧atV ax bx ay b2 v≤16384:=by
    intro hne l hl v hv
    rw [List.mem_cons,hl,List.mem_append,List.mem_singleton] at hv
    apply atV_rng _ (by omega) (by omega)
    rcases hv with hv | hv | hv
    · omega
    · have:=linesV_mem hv;omega
    · omega
  rcases Int.lt_trichotomy ay b2 with c | c | c
  · rw [glue (by omega)]
    have r:=rng (by omega)
    generalize hl:linesV ay b2++[b2]=l
    rw [rowsU _ i j l ay (steps_up c (by omega) (by omega) hl.symm) (r l hl.symm),←hl,lastI_snoc]
    unfold chordV
    rw [if_neg (by omega)];rfl
  · subst c
    have e:rowsV ax ay bx ay=[]:=by unfold rowsV linesV;rw [upR_none _ (Int.le_refl _),dnR_none _ (Int.le_refl _)];rfl
    have z:∀(l:List (Int×Int)) x,(∀t∈l,t.2=ay)→sumP i j x ay l=0:=by
      intro l
      induction l with
      | nil=>intro x _;rfl
      | cons t r ih=>
        intro x h
        have ht:=h t (by simp)
        simp only [sumP]
        rw [ht,ih t.1 (fun u hu=>h u (by simp [hu]))]
        unfold pieceA
        rw [Int.sub_self,Int.zero_mul]
        split <;> rfl
    rw [e,z]
    · unfold chordV downV
      have h1:=ls_le ay (64*j+64)
      have h2:=gr_ge ay (64*j)
      rw [if_neg (Int.lt_irrefl _),if_pos (by omega)]
    · intro t ht
      rw [List.nil_append] at ht
      simp only [cutF,List.mem_append,List.mem_singleton] at ht
      rcases ht with ht | ht
      · unfold colsV at ht
        rw [List.mem_map] at ht
        obtain ⟨v,hv,rfl⟩:=ht
        have:=linesV_mem hv
        have:=atV_rng (a:=ay) (b:=ay) (p:=ax) (q:=bx) (n:=v) (lo:=ay) (hi:=ay) (by omega) (by omega) (by omega)
        show atV ay ay ax bx v=ay
        omega
      · rw [ht]
  · rw [glue (by omega)]
    have r:=rng (by omega)
    generalize hl:linesV ay b2++[b2]=l
    rw [rowsD _ i j l ay (steps_dn c (by omega) (by omega) hl.symm) (r l hl.symm),←hl,lastI_snoc]
    unfold chordV
    rw [if_pos c]
    have:atV ax bx ay b2=atV bx ax b2 ay:=by funext n;exact atV_symm (by omega)
    rw [this];rfl
end Num
end Go.Proofs.YtkhcjkmifddlbabGreatDoor
namespace Go.Proofs.YtkhcjkmifddlbabGreatDoor
namespace Num
theorem clip_top {lo hi:Int} (v:Int) (h:lo≤hi):clipV v lo hi≤hi:=by
  unfold clipV gr lsV;repeat' split
  all_goals omega
theorem in_bd {a b n d B:Int} (hn:0≤n) (h:n=0∨(0≤d∧d≤128)) (ha:0≤a) (hb:a+n≤B) (e:b=128*a+n*d):0≤b∧b≤128*B:=by
  rcases h with h | ⟨h1,h2⟩
  · subst h;rw [Int.zero_mul] at e;omega
  · have m1:=Int.mul_nonneg hn h1
    have m2:=Int.mul_le_mul_of_nonneg_left h2 hn
    omega
theorem docG_bd {lo hi ylo yhi i B:Int} (h:lo≤hi) (hy:sz (yhi-ylo)≤B):0≤docG lo ylo hi yhi i∧docG lo ylo hi yhi i≤128*B:=by
  have hz:∀n:Int,0≤sz n:=by intro n;unfold sz;split <;> omega
  by_cases e:lo=hi
  · subst e
    have hc:∀v,clipV v lo lo=lo:=by
      intro v;unfold clipV gr lsV;repeat' split
      all_goals omega
    apply in_bd (a:=sz (reachV lo ylo lo yhi (64*i)-ylo)) (n:=sz (reachV lo ylo lo yhi (64*i+64)-reachV lo ylo lo yhi (64*i))) (d:=64*i+64-clipV (64*i) lo lo+(64*i+64)-clipV (64*i+64) lo lo) (hz _) _ (hz _) _ rfl
    · rw [hc,hc]
      unfold reachV sz;repeat' split
      all_goals omega
    · revert hy
      unfold reachV sz;repeat' split
      all_goals omega
  · have hlt:lo<hi:=by omega
    apply in_bd (a:=sz (reachV lo ylo hi yhi (64*i)-ylo)) (n:=sz (reachV lo ylo hi yhi (64*i+64)-reachV lo ylo hi yhi (64*i))) (d:=64*i+64-clipV (64*i) lo hi+(64*i+64)-clipV (64*i+64) lo hi) (hz _) _ (hz _) _ rfl
    · rw [reach_eq hlt,reach_eq hlt]
      by_cases c1:hi≤64*i
      · rw [clip_hi (v:=64*i) c1 h,clip_hi (v:=64*i+64) (by omega) h,Int.sub_self];exact .inl rfl
      · by_cases c2:64*i+64≤lo
        · rw [clip_lo (v:=64*i) (by omega),clip_lo (v:=64*i+64) c2,Int.sub_self];exact .inl rfl
        · right
          unfold clipV gr lsV;repeat' split
          all_goals omega
    · rw [reach_eq hlt,reach_eq hlt]
      have b:=clip_ge lo hi (64*i)
      have t:=clip_top (64*i+64) h
      have m:=clip_le (lo:=lo) (hi:=hi) (show 64*i≤64*i+64 by omega)
      have e1:=atV_begin (a:=ylo) (b:=yhi) e
      have e2:=atV_end (a:=ylo) (b:=yhi) e
      rcases Int.le_total ylo yhi with c | c
      · have m1:=atV_mono hlt c b
        have m2:=atV_mono hlt c m
        have m3:=atV_mono hlt c t
        rw [sz_pos (by omega)] at hy
        rw [sz_pos (by omega),sz_pos (by omega)]
        omega
      · have m1:=atV_anti hlt c b
        have m2:=atV_anti hlt c m
        have m3:=atV_anti hlt c t
        rw [sz_neg (by omega)] at hy
        rw [sz_neg (by omega),sz_neg (by omega)]
        omega
theorem downV_bd (ax ay bx b2 i j:Int):0≤downV ax ay bx b2 i j∧downV ax ay bx b2 i j≤8192:=by
  unfold downV
  have h1:=ls_le b2 (64*j+64)
  have h2:=gr_ge ay (64*j)
  by_cases c:lsV b2 (64*j+64)≤gr ay (64*j)
  · rw [if_pos c];omega
  · rw [if_neg c,partV_eq]
    split
    · exact docG_bd (B:=64) (by omega) (by rw [sz_neg (by omega)];omega)
    · exact docG_bd (B:=64) (by omega) (by rw [sz_pos (by omega)];omega)
theorem chordV_bd (ax ay bx b2 i j:Int):-8192≤chordV ax ay bx b2 i j∧chordV ax ay bx b2 i j≤8192:=by
  unfold chordV
  have:=downV_bd bx b2 ax ay i j
  have:=downV_bd ax ay bx b2 i j
  split <;> omega
end Num
end Go.Proofs.YtkhcjkmifddlbabGreatDoor
namespace Go.Proofs.YtkhcjkmifddlbabGreatDoor
namespace Num
end Num
end Go.Proofs.YtkhcjkmifddlbabGreatDoor
namespace Go.Proofs.YtkhcjkmifddlbabGreatDoor
namespace Num
end Num
end Go.Proofs.YtkhcjkmifddlbabGreatDoor
namespace Go.Proofs.YtkhcjkmifddlbabGreatDoor
namespace Num
def noL (x y:Int):Prop:=noLine x y∧noLine y x
def PcOk:Int→Int→List (Int×Int)→Prop
  | _,_,[]=>True
  | x,y,t::r=>noL x t.1∧noL y t.2∧PcOk t.1 t.2 r
theorem pcOk_append:∀(l r:List (Int×Int)) (x y:Int),PcOk x y l→PcOk (lastS x y l).1 (lastS x y l).2 r→PcOk x y (l++r):=by
  intro l
  induction l with
  | nil=>intro r x y _ h;exact h
  | cons t l ih=>intro r x y h h2;exact ⟨h.1,h.2.1,ih r t.1 t.2 h.2.2 h2⟩
theorem noL_in {a b j:Int} (h1:64*j≤a∧a≤64*j+64) (h2:64*j≤b∧b≤64*j+64):noL a b:=by
  constructor <;> intro k hk <;> omega
theorem noL_up {a b:Int} (h:a<b) (h2:noLine a b):noL a b:=⟨h2,fun k hk=>by omega⟩
theorem noL_dn {a b:Int} (h:b<a) (h2:noLine b a):noL a b:=⟨fun k hk=>by omega,h2⟩
theorem noL_row {a b:Int} (h:noL a b):∃j:Int,(64*j≤a∧a≤64*j+64)∧(64*j≤b∧b≤64*j+64):=by
  rcases Int.lt_or_le a b with c | c
  · have:=h.1 (a / 64+1)
    exact ⟨a / 64,by omega⟩
  · have:=h.2 (b / 64+1)
    exact ⟨b / 64,by omega⟩
theorem pcOk_U (Y:Int→Int) (j:Int):∀(l:List Int) (x:Int),StepsU x l→(64*j≤Y x∧Y x≤64*j+64)→(∀v∈l,64*j≤Y v∧Y v≤64*j+64)→PcOk x (Y x) (l.map fun v=>(v,Y v)):=by
  intro l
  induction l with
  | nil=>intro x _ _ _;trivial
  | cons v r ih=>
    intro x h h1 h2
    have hv:=h2 v (by simp)
    exact ⟨noL_up h.1 h.2.1,noL_in h1 hv,ih v h.2.2.2 hv (fun u hu=>h2 u (by simp [hu]))⟩
theorem pcOk_D (Y:Int→Int) (j:Int):∀(l:List Int) (x:Int),StepsD x l→(64*j≤Y x∧Y x≤64*j+64)→(∀v∈l,64*j≤Y v∧Y v≤64*j+64)→PcOk x (Y x) (l.map fun v=>(v,Y v)):=by
  intro l
  induction l with
  | nil=>intro x _ _ _;trivial
  | cons v r ih=>
    intro x h h1 h2
    have hv:=h2 v (by simp)
    exact ⟨noL_dn h.1 h.2.1,noL_in h1 hv,ih v h.2.2.2 hv (fun u hu=>h2 u (by simp [hu]))⟩
theorem pcOk_cols {px py qx qy:Int} (j:Int) (hp:-16384≤px∧px≤16384) (hq:-16384≤qx∧qx≤16384) (h1:64*j≤py∧py≤64*j+64) (h2:64*j≤qy∧qy≤64*j+64) {L:List (Int×Int)} (hL:L=colsV px py qx qy++[(qx,qy)]) :
    PcOk px py L:=by
  have glue:px≠qx→colsV px py qx qy++[(qx,qy)]=(linesV px qx++[qx]).map fun v=>(v,atV py qy px qx v):=by
    intro hne
    rw [List.map_append,List.map_cons,List.map_nil,atV_end hne];rfl
  have rng:px≠qx→∀l,l=linesV px qx++[qx]→∀v∈l,64*j≤atV py qy px qx v∧atV py qy px qx v≤64*j+64:=by
    intro hne l hl v hv
    rw [hl,List.mem_append,List.mem_singleton] at hv
    rcases hv with hv | hv
    · have:=linesV_mem hv
      exact atV_rng (by omega) h1 h2
    · subst hv;rw [atV_end hne];exact h2
  rcases Int.lt_trichotomy px qx with c | c | c
  · have r:=rng (by omega)
    rw [glue (by omega)] at hL
    generalize hl:linesV px qx++[qx]=l at hL
    subst hL
    have h:=pcOk_U (atV py qy px qx) j l px (steps_up c (by omega) (by omega) hl.symm) (by rw [atV_begin (by omega)];exact h1) (r l hl.symm)
    rw [atV_begin (by omega)] at h
    exact h
  · subst c
    have e:colsV px py px qy=[]:=by unfold colsV linesV;rw [upR_none _ (Int.le_refl _),dnR_none _ (Int.le_refl _)];rfl
    rw [e,List.nil_append] at hL
    subst hL
    exact ⟨⟨fun k hk=>by simp only at hk;omega,fun k hk=>by simp only at hk;omega⟩,noL_in h1 h2,trivial⟩
  · have r:=rng (by omega)
    rw [glue (by omega)] at hL
    generalize hl:linesV px qx++[qx]=l at hL
    subst hL
    have h:=pcOk_D (atV py qy px qx) j l px (steps_dn c (by omega) (by omega) hl.symm) (by rw [atV_begin (by omega)];exact h1) (r l hl.symm)
    rw [atV_begin (by omega)] at h
    exact h
theorem pcOk_R (X:Int→Int):∀(l:List Int) (y:Int),(StepsU y l∨StepsD y l)→(∀v∈y::l,-16384≤X v∧X v≤16384)→∀L,L=cutF (X y) y (l.map fun v=>(X v,v))→PcOk (X y) y L:=by
  intro l
  induction l with
  | nil=>intro y _ _ L hL;subst hL;trivial
  | cons v r ih=>
    intro y h hx L hL
    rw [List.map_cons,show cutF (X y) y ((X v,v)::r.map fun v=>(X v,v))=colsV (X y) y (X v) v++(X v,v)::cutF (X v) v (r.map fun v=>(X v,v)) from rfl] at hL
    rw [show colsV (X y) y (X v) v++(X v,v)::cutF (X v) v (r.map fun v=>(X v,v))=(colsV (X y) y (X v) v++[(X v,v)])++cutF (X v) v (r.map fun v=>(X v,v)) by simp] at hL
    generalize hc:colsV (X y) y (X v) v++[(X v,v)]=c at hL
    generalize hd:cutF (X v) v (r.map fun v=>(X v,v))=d at hL
    subst hL
    have hn:noL y v:=by
      rcases h with h | h
      · exact noL_up h.1 h.2.1
      · exact noL_dn h.1 h.2.1
    obtain ⟨j,h1,h2⟩:=noL_row hn
    refine pcOk_append _ _ _ _ (pcOk_cols j (hx y (by simp)) (hx v (by simp)) h1 h2 hc.symm) ?_
    rw [←hc,lastS_snoc]
    refine ih v ?_ (fun u hu=>hx u (by simp at hu ⊢;right;exact hu)) d hd.symm
    rcases h with h | h
    · exact .inl h.2.2.2
    · exact .inr h.2.2.2
theorem pcOk_cut {ax ay bx b2:Int} (ha:inB ax ay=true) (hb:inB bx b2=true) {L:List (Int×Int)} (hL:L=cutF ax ay (rowsV ax ay bx b2++[(bx,b2)])):PcOk ax ay L:=by
  have a:=inB_yes ha
  have b:=inB_yes hb
  by_cases hne:ay=b2
  · subst hne
    have e:rowsV ax ay bx ay=[]:=by unfold rowsV linesV;rw [upR_none _ (Int.le_refl _),dnR_none _ (Int.le_refl _)];rfl
    rw [e,List.nil_append,show cutF ax ay [(bx,ay)]=colsV ax ay bx ay++[(bx,ay)] from rfl] at hL
    exact pcOk_cols (ay / 64) (by omega) (by omega) (by omega) (by omega) hL
  · have rng:∀l,l=linesV ay b2++[b2]→∀v∈ay::l,-16384≤atV ax bx ay b2 v∧atV ax bx ay b2 v≤16384:=by
      intro l hl v hv
      rw [List.mem_cons,hl,List.mem_append,List.mem_singleton] at hv
      apply atV_rng _ (by omega) (by omega)
      rcases hv with hv | hv | hv
      · omega
      · have:=linesV_mem hv;omega
      · omega
    have glue:rowsV ax ay bx b2++[(bx,b2)]=(linesV ay b2++[b2]).map fun v=>(atV ax bx ay b2 v,v):=by
      rw [List.map_append,List.map_cons,List.map_nil,atV_end hne];rfl
    rw [glue] at hL
    generalize hl:linesV ay b2++[b2]=l at hL
    have hs:StepsU ay l∨StepsD ay l:=by
      rcases Int.lt_or_le ay b2 with c | c
      · exact .inl (steps_up c (by omega) (by omega) hl.symm)
      · exact .inr (steps_dn (by omega) (by omega) (by omega) hl.symm)
    have h:=pcOk_R (atV ax bx ay b2) l ay hs (rng l hl.symm) L (by rw [atV_begin hne];exact hL)
    rw [atV_begin hne] at h
    exact h
def rowV (y0 y1:Int):Int:=(lsV y0 y1).tdiv 64
def colV (x0 x1:Int):Int:=(lsV (gr x0 0) (gr x1 0)).tdiv 64
def hereV (t x0 y0 x1 y1:Int):Int:=t*(y1-y0)*(colV x0 x1*64+64-gr x0 0+(colV x0 x1*64+64)-gr x1 0)
def rightV (t y0 y1:Int):Int:=t*(y1-y0)*2*64
def skipB (y0 y1:Int):Bool:=decide (y0=y1) || decide (y0<0) || decide (y1<0)
def pcV (t x0 y0 x1 y1 i j:Int):Int:=
  if skipB y0 y1=true then 0 else if j=rowV y0 y1 then (if i<colV x0 x1 then 0 else if i=colV x0 x1 then hereV t x0 y0 x1 y1 else rightV t y0 y1) else 0
theorem gr0 (x:Int):(x≤0∧gr x 0=0)∨(0<x∧gr x 0=x):=by unfold gr;split <;> omega
theorem pcV_eq {t x0 y0 x1 y1 i j:Int} (hx:noL x0 x1) (hy:noL y0 y1) (hi:0≤i) (hj:0≤j):pcV t x0 y0 x1 y1 i j=t*(if inRow j y0 y1=true then pieceA i x0 y0 x1 y1 else 0):=by
  unfold pcV
  by_cases hs:skipB y0 y1=true
  · rw [if_pos hs]
    have:(if inRow j y0 y1=true then pieceA i x0 y0 x1 y1 else 0)=0:=by
      split
      · rename_i c
        have:y0=y1:=by
          unfold inRow at c;unfold skipB at hs;simp at c hs;omega
        unfold pieceA;rw [this,Int.sub_self,Int.zero_mul]
      · rfl
    rw [this,Int.mul_zero]
  · rw [if_neg hs]
    have hs':y0≠y1∧0≤y0∧0≤y1:=by unfold skipB at hs;simp at hs;omega
    obtain ⟨r,h1,h2⟩:=noL_row hy
    have hr:rowV y0 y1=r:=by
      unfold rowV lsV
      split
      · rw [Int.tdiv_eq_ediv_of_nonneg (by omega)];omega
      · rw [Int.tdiv_eq_ediv_of_nonneg (by omega)];omega
    rw [hr]
    by_cases e:j=r
    · subst e
      have c:inRow j y0 y1=true:=by unfold inRow;simp;omega
      rw [if_pos rfl,if_pos c]
      obtain ⟨c0,k1,k2⟩:=noL_row hx
      have g0:=gr0 x0
      have g1:=gr0 x1
      have hc:(gr x0 0=64*colV x0 x1∨64*colV x0 x1<gr x0 0)∧gr x0 0≤64*colV x0 x1+64∧(gr x1 0=64*colV x0 x1∨64*colV x0 x1<gr x1 0)∧gr x1 0≤64*colV x0 x1+64∧0≤colV x0 x1:=by
        unfold colV
        obtain ⟨m,hm⟩:∃m,m=lsV (gr x0 0) (gr x1 0):=⟨_,rfl⟩
        have hm2:(m=gr x0 0∨m=gr x1 0)∧m≤gr x0 0∧m≤gr x1 0:=by rw [hm];unfold lsV;split <;> omega
        rw [←hm,Int.tdiv_eq_ediv_of_nonneg (by omega)]
        omega
      obtain ⟨C,hC⟩:∃C,C=colV x0 x1:=⟨_,rfl⟩
      rw [←hC] at hc
      unfold hereV rightV
      rw [←hC]
      unfold pieceA
      by_cases d1:i<C
      · rw [if_pos d1,cl_none (by omega),cl_none (by omega)];simp
      · rw [if_neg d1]
        by_cases d2:i=C
        · rw [if_pos d2,Int.mul_assoc]
          congr 1
          congr 1
          have z0:cl (64*i+64-x0)=C*64+64-gr x0 0:=by
            rcases g0 with g0 | g0
            · rw [cl_far (by omega)];omega
            · rw [cl_in (by omega) (by omega)];omega
          have z1:cl (64*i+64-x1)=C*64+64-gr x1 0:=by
            rcases g1 with g1 | g1
            · rw [cl_far (by omega)];omega
            · rw [cl_in (by omega) (by omega)];omega
          rw [z0,z1];omega
        · rw [if_neg d2,cl_far (by omega),cl_far (by omega),Int.mul_assoc,Int.mul_assoc];rfl
    · rw [if_neg e]
      have c:¬inRow j y0 y1=true:=by
        intro c;unfold inRow at c;simp at c;omega
      rw [if_neg c,Int.mul_zero]
end Num
end Go.Proofs.YtkhcjkmifddlbabGreatDoor
namespace Go.Proofs.YtkhcjkmifddlbabGreatDoor
namespace Num
section
variable {X Y K:Nat→Int} {n:Nat}
theorem exists_on (hn:2≤n) (hs:∀i,i<n→badB K n i=false):∃t,t<2*n∧onB X Y K n t=true:=by
  by_cases hall:∃t,t<2*n∧onB X Y K n t=true
  · exact hall
  exfalso
  have hno:∀t,t<2*n→onB X Y K n t=false:=fun t ht=>by
    cases h:onB X Y K n t with
    | false=>rfl
    | true=>exact absurd ⟨t,ht,h⟩ hall
  have k0:∀i,i<n→K i≠0:=fun i hi h=>by
    have:=hno (2*i) (by omega)
    simp only [onB,stp,show 2*i % 2=0 by omega,if_pos,show 2*i / 2=i by omega,Nat.mod_eq_of_lt hi,h] at this
    simp at this
  have q0:¬(K 0=1∧K 1=1):=fun h=>by
    have:=hno 1 (by omega)
    simp only [onB,stp,show ¬1 % 2=0 by omega,show 1 / 2=0 by omega,Nat.zero_mod,Nat.zero_add,Nat.mod_eq_of_lt (show 1<n by omega),h] at this
    simp at this
  have m0:=may_all (by omega) hs 0
  have m1:=may_all (by omega) hs 1
  have z0:=k0 0 (by omega)
  have z1:=k0 1 (by omega)
  have za:=k0 ((0+n-1) % n) (Nat.mod_lt _ (by omega))
  have zb:=k0 ((1+n-1) % n) (Nat.mod_lt _ (by omega))
  have zc:=k0 ((0+1) % n) (Nat.mod_lt _ (by omega))
  have zd:=k0 ((1+1) % n) (Nat.mod_lt _ (by omega))
  rw [Nat.zero_mod] at m0
  rw [Nat.mod_eq_of_lt (show 1<n by omega)] at m1
  simp only [mayB,Bool.or_eq_true,Bool.and_eq_true,beq_iff_eq] at m0 m1
  omega
theorem segs_eq (hn:2≤n) (hs:∀i,i<n→badB K n i=false) :
    ∃(f:Nat) (p:Int×Int×Int),(imp X Y K n)[f]? = some p∧p.2.2=0∧(∀(j:Nat) (q:Int×Int×Int),j<f→(imp X Y K n)[j]? = some q→q.2.2≠0) ∧
      walkL ((imp X Y K n).drop (f+1)++(imp X Y K n).take (f+1)) (initS p)=refRing X Y K n:=by
  obtain ⟨t,ht,hon⟩:=exists_on (X:=X) (Y:=Y) hn hs
  rcases firstI_cases (onB X Y K n) (2*n) with ⟨_,hno⟩ | ⟨t0,ht0,hon0,hno,_⟩
  · rw [hno t ht] at hon;cases hon
  have hp:∃p,stp X Y K n t0=some p∧p.2.2=0:=by
    unfold onB at hon0
    cases h:stp X Y K n t0 with
    | none=>simp [h] at hon0
    | some p=>exact ⟨p,rfl,by simpa [h] using hon0⟩
  obtain ⟨p,hp,hp0⟩:=hp
  have hR:imp X Y K n=stops X Y K n 0 t0++(p::stops X Y K n (t0+1) (2*n-t0-1)):=by
    rw [imp_eq,List.range_eq_range']
    show stops X Y K n 0 (2*n)=_
    rw [show 2*n=t0+(1+(2*n-t0-1)) by omega,stops_add,stops_add,stops_one,Nat.zero_add,hp]
    rw [show t0+(1+(2*n-t0-1))-t0-1=2*n-t0-1 by omega]
    rfl
  have hlen:(imp X Y K n).drop ((stops X Y K n 0 t0).length+1)=stops X Y K n (t0+1) (2*n-t0-1):=by
    rw [hR,List.drop_append,List.drop_of_length_le (by omega),List.nil_append,show (stops X Y K n 0 t0).length+1-(stops X Y K n 0 t0).length=1 by omega]
    rfl
  have htk:(imp X Y K n).take ((stops X Y K n 0 t0).length+1)=stops X Y K n 0 t0++[p]:=by
    rw [hR,List.take_append,List.take_of_length_le (by omega),show (stops X Y K n 0 t0).length+1-(stops X Y K n 0 t0).length=1 by omega]
    rfl
  refine ⟨(stops X Y K n 0 t0).length,p,?_,hp0,?_,?_⟩
  · rw [hR,List.getElem?_append_right (Nat.le_refl _),Nat.sub_self];rfl
  · intro j q hj hq
    rw [hR,List.getElem?_append_left hj] at hq
    have hmem:=List.mem_of_getElem? hq
    unfold stops at hmem
    rw [List.mem_filterMap] at hmem
    obtain ⟨u,hu,hst⟩:=hmem
    rw [List.mem_range'_1] at hu
    have:=hno u (by omega)
    intro h0
    simp [onB,hst,h0] at this
  · rw [hlen,htk]
    have e1:stops X Y K n 0 t0++[p]=stops X Y K n (2*n) (t0+1):=by
      have h1:=stops_period (X:=X) (Y:=Y) (K:=K) (n:=n) 0 (t0+1)
      rw [Nat.zero_add] at h1
      rw [h1,stops_add,stops_one,Nat.zero_add,hp]
      rfl
    have e2:stops X Y K n (t0+1) (2*n-t0-1)++stops X Y K n (2*n) (t0+1)=stops X Y K n (t0+1) (2*n):=by
      have h1:=stops_add (X:=X) (Y:=Y) (K:=K) (n:=n) (t0+1) (2*n-t0-1) (t0+1)
      rw [show 2*n-t0-1+(t0+1)=2*n by omega,show t0+1+(2*n-t0-1)=2*n by omega] at h1
      exact h1.symm
    rw [e1,e2]
    have hE:onB X Y K n (t0+2*n)=true:=by rw [onB_period];exact hon0
    have hfrom:fromV X Y K n t0=scanR X Y K n (t0+2*n+1-(t0+1)) (t0+1) (initS p) 0:=by
      unfold fromV
      rw [stp_stv hp,show t0+2*n+1-(t0+1)=2*n by omega]
    have h:=walk_ref (X:=X) (Y:=Y) (show 0<n by omega) hs (t0+2*n) hE (2*n) (t0+1) t0 0 (initS p) (by omega) (by omega) (by omega) (by omega) hfrom (.inl ⟨rfl,rfl⟩) (by omega)
    rw [h]
    unfold refRing
    have hz:∀a d,(∀u,a≤u→u<a+d→onB X Y K n u=false)→(List.range' a d).filterMap (refF X Y K n)=[]:=by
      intro a d hu
      rw [List.filterMap_eq_nil_iff]
      intro u hm
      rw [List.mem_range'_1] at hm
      simp [refF,hu u hm.1 hm.2]
    have r1:List.range (2*n)=List.range' 0 t0++(t0::List.range' (t0+1) (2*n-t0-1)):=by
      rw [List.range_eq_range',show 2*n=t0+(2*n-t0-1+1) by omega,←List.range'_append_1,List.range'_succ,Nat.zero_add]
      rw [show t0+(2*n-t0-1+1)-t0-1=2*n-t0-1 by omega]
    have r2:List.range' (t0+1) (2*n-1)=List.range' (t0+1) (2*n-t0-1)++List.range' (2*n) t0:=by
      have:=List.range'_append_1 (s:=t0+1) (m:=2*n-t0-1) (n:=t0)
      rw [show t0+1+(2*n-t0-1)=2*n by omega,show 2*n-t0-1+t0=2*n-1 by omega] at this
      exact this.symm
    rw [r1,r2,List.filterMap_append,List.filterMap_append,List.filterMap_cons]
    rw [hz 0 t0 (fun u _ hu=>hno u (by omega)),hz (2*n) t0 (fun u h1 h2=>by
      have:=onB_period (X:=X) (Y:=Y) (K:=K) (n:=n) (u-2*n)
      rw [show u-2*n+2*n=u by omega] at this
      rw [this];exact hno _ (by omega))]
    simp [refF,hon0]
theorem imp_length (m:Nat):((List.range m).flatMap (impF X Y K n)).length≤2*m:=by
  induction m with
  | zero=>simp
  | succ m ih=>
    rw [List.range_succ,List.flatMap_append,List.length_append]
    have:((List.flatMap (impF X Y K n) [m])).length≤2:=by
      simp [impF];split <;> simp
    omega
end
end Num
end Go.Proofs.YtkhcjkmifddlbabGreatDoor
namespace Go.Proofs.YtkhcjkmifddlbabGreatDoor
namespace Num
structure Mp where
  a:Int
  b:Int
  c:Int
  d:Int
  x:Int
  y:Int
def pl (m:Mp) (s t:Int):Int×Int×Int:=placeV m.a m.b m.c m.d m.x m.y s t
def putOk (m:Mp) (g:Sg):Bool:=(pl m g.x0 g.y0).2.2 == 0 && (pl m g.x1 g.y1).2.2 == 0 && (pl m g.x2 g.y2).2.2 == 0 && (pl m g.x3 g.y3).2.2 == 0
def putV (m:Mp) (g:Sg):Sg:=⟨g.k,(pl m g.x0 g.y0).1,(pl m g.x0 g.y0).2.1,(pl m g.x1 g.y1).1,(pl m g.x1 g.y1).2.1,(pl m g.x2 g.y2).1,(pl m g.x2 g.y2).2.1,(pl m g.x3 g.y3).1,(pl m g.x3 g.y3).2.1⟩
def putG (m:Mp) (g:Sg):Sg:=if putOk m g=true then putV m g else ⟨0,0,0,0,0,0,0,0,0⟩
def putE (m:Mp) (g:Sg):Int:=if putOk m g=true then 0 else 6
theorem place_in {a b c d x y s t:Int} (h:(placeV a b c d x y s t).2.2=0):inB (placeV a b c d x y s t).1 (placeV a b c d x y s t).2.1=true:=by
  unfold placeV at h ⊢
  by_cases h1:(wi s 8192 && wi t 8192)=false
  · rw [if_pos h1] at h;simp at h
  · rw [if_neg h1] at h ⊢
    by_cases h2:fairB a b c d x y=false
    · rw [if_pos h2] at h;simp at h
    · rw [if_neg h2] at h ⊢
      by_cases h3:inB (x+hu (a*s+b*t) 2048) (y+hu (c*s+d*t) 2048)=false
      · rw [if_pos h3] at h;simp at h
      · rw [if_neg h3]
        simpa using h3
theorem put_curve {m:Mp} {g:Sg} (h:putOk m g=true) (hk:g.k=0∨g.k=1∨g.k=2):curveE (putV m g)=0:=by
  simp only [putOk,Bool.and_eq_true,beq_iff_eq] at h
  obtain ⟨⟨⟨h0,h1⟩,h2⟩,h3⟩:=h
  have i0:=place_in h0
  have i1:=place_in h1
  have i2:=place_in h2
  have i3:=place_in h3
  have e1:kindB (putV m g)=true:=by
    simp only [kindB,putV];rcases hk with h | h | h <;> simp [h]
  have e2:rangeB (putV m g)=true:=by
    simp only [rangeB,putV,pl]
    rw [i0,i1,i2,i3];simp
  unfold curveE
  rw [e1,e2];rfl
def Kd (z:Int):Prop:=z=0∨z=1∨z=2
theorem may_kd {K:Nat→Int} {n i:Nat} (h:badB K n i=false):Kd (K i):=by
  simp [badB,mayB] at h
  unfold Kd
  omega
theorem stp_kd {X Y K:Nat→Int} {n t:Nat} {p:Int×Int×Int} (hn:0<n) (hK:∀i,i<n→Kd (K i)) (h:stp X Y K n t=some p):Kd p.2.2:=by
  unfold stp at h
  split at h
  · simp at h;subst h;exact hK _ (Nat.mod_lt _ hn)
  · split at h
    · simp at h;subst h;exact .inl rfl
    · cases h
theorem scan_kd {X Y K:Nat→Int} {n:Nat} (hn:0<n) (hK:∀i,i<n→Kd (K i)):∀(d k:Nat) (g:Sg) (m:Nat),Kd g.k→Kd (scanR X Y K n d k g m).k:=by
  intro d
  induction d with
  | zero=>intro k g m hg;exact hg
  | succ d ih=>
    intro k g m hg
    unfold scanR
    split
    · exact ih _ _ _ hg
    · rename_i p hp
      split
      · exact hg
      · refine ih _ _ _ ?_
        have:=stp_kd hn hK hp
        unfold addR
        split <;> exact this
theorem ring_kd {X Y K:Nat→Int} {n:Nat} (hn:0<n) (hK:∀i,i<n→Kd (K i)):∀g∈refRing X Y K n,Kd g.k:=by
  intro g hg
  unfold refRing at hg
  rw [List.mem_filterMap] at hg
  obtain ⟨t,_,ht⟩:=hg
  unfold refF at ht
  split at ht
  · simp at ht;subst ht;exact scan_kd hn hK _ _ _ _ (.inl rfl)
  · cases ht
def segSp (m:Mp) (g:Sg):List (Int×Int):=(curveL (putV m g)).dropLast
def ringSp (m:Mp) (L:List Sg):List (Int×Int):=L.flatMap (segSp m)
def ringOk (m:Mp) (L:List Sg):Bool:=L.all (putOk m)
theorem curveL_pos {g:Sg} (h:curveE g=0):0<(curveL g).length:=by
  unfold curveL;rw [if_pos h];simp
theorem curveL_le (g:Sg):(curveL g).length≤112:=by
  unfold curveL
  split
  · rename_i h
    have hb:=needV_bd (curve_ok h).2
    have h2:=stepsV_le hb.2
    simp [curveN];omega
  · simp
theorem segSp_le (m:Mp) (g:Sg):(segSp m g).length≤111:=by
  unfold segSp;have:=curveL_le (putV m g);simp;omega
theorem ringSp_snoc (m:Mp) (L:List Sg) (g:Sg):ringSp m (L++[g])=ringSp m L++segSp m g:=by simp [ringSp]
theorem ringSp_le (m:Mp) (L:List Sg):(ringSp m L).length≤111*L.length:=by
  induction L with
  | nil=>simp [ringSp]
  | cons g r ih=>
    have:=segSp_le m g
    simp only [ringSp,List.flatMap_cons,List.length_append,List.length_cons] at ih ⊢
    omega
theorem ringOk_at {m:Mp} {L:List Sg} (h:ringOk m L=true) {i:Nat} (hi:i<L.length):putOk m L[i]=true:=by
  unfold ringOk at h
  rw [List.all_eq_true] at h
  exact h _ (List.getElem_mem hi)
theorem ringOk_no {m:Mp} {L:List Sg} {i:Nat} (hi:i<L.length) (h:putOk m L[i]=false):ringOk m L=false:=by
  cases e:ringOk m L
  · rfl
  · rw [ringOk_at e hi] at h;cases h
theorem dropLast_take_succ {α:Type} (l:List α) (i:Nat):(i+1<l.length→∀h:i<l.length,l.dropLast.take (i+1)=l.dropLast.take i++[l[i]])∧(¬i+1<l.length→l.dropLast.take (i+1)=l.dropLast.take i):=by
  constructor
  · intro h1 h
    have hl:i<l.dropLast.length:=by simp;omega
    rw [List.take_succ_eq_append_getElem hl,List.getElem_dropLast]
  · intro h1
    have hl:l.dropLast.length≤i:=by simp;omega
    rw [List.take_of_length_le hl,List.take_of_length_le (by omega)]
end Num
end Go.Proofs.YtkhcjkmifddlbabGreatDoor
