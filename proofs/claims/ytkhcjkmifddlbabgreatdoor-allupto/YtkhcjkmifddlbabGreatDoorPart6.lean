import Derived.Test.YtkhcjkmifddlbabGreatDoorPart5
import Derived.Test.YtkhcjkmifddlbabGreatDoorPart3
import Derived.Test.YtkhcjkmifddlbabGreatDoorPart4
import Derived.Test.YtkhcjkmifddlbabGreatDoorPart1
set_option maxHeartbeats 8000000
namespace Go.Proofs.YtkhcjkmifddlbabGreatDoor
namespace Num
theorem mx_bd {u i a b B:Int} (hu:0≤u) (hi:0≤i) (ha:-B≤a∧a≤B) (hb:-B≤b∧b≤B):-(B*(u+i))≤mx u i a b∧mx u i a b≤B*(u+i):=by
  have h1:=mul_ge ha hu
  have h2:=mul_ge hb hi
  unfold mx
  rw [Int.mul_comm u a,Int.mul_comm i b,Int.mul_add]
  omega
theorem quad_bd {n i a b c:Int} (h0:0≤i) (h1:i≤n) (hn:0<n) (ha:-16384≤a∧a≤16384) (hb:-16384≤b∧b≤16384) (hc:-16384≤c∧c≤16384):-16384≤hu (qSum (n-i) i a b c) (n*n)∧hu (qSum (n-i) i a b c) (n*n)≤16384:=by
  have e:n-i+i=n:=by omega
  have x:=mx_bd (u:=n-i) (i:=i) (by omega) h0 ha hb
  have y:=mx_bd (u:=n-i) (i:=i) (by omega) h0 hb hc
  have z:=mx_bd (u:=n-i) (i:=i) (by omega) h0 x y
  rw [mx_quad,e] at z
  refine hu_between (Int.mul_pos hn hn) ?_ ?_
  · rw [←Int.mul_assoc];exact z.1
  · rw [←Int.mul_assoc];exact z.2
theorem cubic_bd {n i a b c d:Int} (h0:0≤i) (h1:i≤n) (hn:0<n) (ha:-16384≤a∧a≤16384) (hb:-16384≤b∧b≤16384) (hc:-16384≤c∧c≤16384) (hd:-16384≤d∧d≤16384):-16384≤hu (cSum (n-i) i a b c d) (n*n*n)∧hu (cSum (n-i) i a b c d) (n*n*n)≤16384:=by
  have e:n-i+i=n:=by omega
  have x:=mx_bd (u:=n-i) (i:=i) (by omega) h0 ha hb
  have y:=mx_bd (u:=n-i) (i:=i) (by omega) h0 hb hc
  have w:=mx_bd (u:=n-i) (i:=i) (by omega) h0 hc hd
  have p:=mx_bd (u:=n-i) (i:=i) (by omega) h0 x y
  have q:=mx_bd (u:=n-i) (i:=i) (by omega) h0 y w
  have z:=mx_bd (u:=n-i) (i:=i) (by omega) h0 p q
  rw [mx_cubic,e] at z
  refine hu_between (Int.mul_pos (Int.mul_pos hn hn) hn) ?_ ?_
  · rw [←Int.mul_assoc,←Int.mul_assoc];exact z.1
  · rw [←Int.mul_assoc,←Int.mul_assoc];exact z.2
theorem inB_of {x y:Int} (h1:-16384≤x∧x≤16384) (h2:-16384≤y∧y≤16384):inB x y=true:=by
  simp [inB,wi];omega
theorem spot_in {g:Sg} {n i:Int} (h:rangeB g=true) (h0:0≤i) (h1:i≤n) (hn:0<n):inB (spotX g n i) (spotY g n i)=true:=by
  obtain ⟨a,b,c,d⟩:=range_yes h
  have a:=inB_yes a
  have b:=inB_yes b
  unfold spotX spotY
  by_cases e1:g.k=1
  · have c:=inB_yes (c (.inl e1))
    rw [if_pos e1,if_pos e1]
    exact inB_of (quad_bd h0 h1 hn a.1 c.1 b.1) (quad_bd h0 h1 hn a.2 c.2 b.2)
  · rw [if_neg e1,if_neg e1]
    by_cases e2:g.k=2
    · have c:=inB_yes (c (.inr e2))
      have d:=inB_yes (d e2)
      rw [if_pos e2,if_pos e2]
      exact inB_of (cubic_bd h0 h1 hn a.1 c.1 d.1 b.1) (cubic_bd h0 h1 hn a.2 c.2 d.2 b.2)
    · rw [if_neg e2,if_neg e2]
      split
      · exact inB_of b.1 b.2
      · exact inB_of a.1 a.2
theorem curveL_in {g:Sg}:∀p∈curveL g,inB p.1 p.2=true:=by
  intro p hp
  unfold curveL at hp
  split at hp
  · rename_i h
    have hr:=(curve_ok h).2
    have hb:=needV_bd hr
    have hs:=stepsV_pos hb.2
    rw [List.mem_map] at hp
    obtain ⟨i,hi,rfl⟩:=hp
    have hi:i<curveN g+1:=by simpa using hi
    have hn:(0:Int)<(curveN g:Int):=by unfold curveN;omega
    exact spot_in hr (by omega) (by omega) hn
  · cases hp
theorem ringSp_in {m:Mp} {L:List Sg}:∀p∈ringSp m L,inB p.1 p.2=true:=by
  intro p hp
  unfold ringSp at hp
  rw [List.mem_flatMap] at hp
  obtain ⟨g,_,hg⟩:=hp
  exact curveL_in p (List.mem_of_mem_take (by rw [segSp,List.dropLast_eq_take] at hg;exact hg))
theorem colsV_in {ax ay bx b2:Int} (ha:inB ax ay=true) (hb:inB bx b2=true):∀t∈colsV ax ay bx b2,inB t.1 t.2=true:=by
  intro t ht
  unfold colsV at ht
  rw [List.mem_map] at ht
  obtain ⟨x,hx,rfl⟩:=ht
  have h:=linesV_mem hx
  have a:=inB_yes ha
  have b:=inB_yes hb
  have hy:=atV_bd (n:=x) a.2 b.2 h
  exact inB_of (by omega) hy
theorem cutF_in:∀(r:List (Int×Int)) (x y:Int),inB x y=true→(∀t∈r,inB t.1 t.2=true)→∀t∈cutF x y r,inB t.1 t.2=true:=by
  intro r
  induction r with
  | nil=>intro x y _ _ t ht;cases ht
  | cons u r ih=>
    intro x y h hr t ht
    have hu:=hr u (by simp)
    simp only [cutF,List.mem_append,List.mem_cons] at ht
    rcases ht with ht | ht | ht
    · exact colsV_in h hu t ht
    · rw [ht];exact hu
    · exact ih u.1 u.2 hu (fun v hv=>hr v (by simp [hv])) t ht
theorem cutsL_in {ax ay bx b2:Int}:∀t∈cutsL ax ay bx b2,inB t.1 t.2=true:=by
  intro t ht
  unfold cutsL at ht
  split at ht
  · rename_i h
    obtain ⟨a,b⟩:=cuts_ok h
    rw [List.mem_cons] at ht
    rcases ht with ht | ht
    · rw [ht];exact a
    · refine cutF_in _ _ _ a (fun u hu=>?_) t ht
      rw [List.mem_append,List.mem_singleton] at hu
      rcases hu with hu | hu
      · exact rowsV_in a b u hu
      · rw [hu];exact b
  · cases ht
theorem cutsL_len (ax ay bx b2:Int):(cutsL ax ay bx b2).length≤1100000:=by
  unfold cutsL
  split
  · have h:=cutF_len (rowsV ax ay bx b2++[(bx,b2)]) ax ay
    have h2:=rowsV_len ax ay bx b2
    simp only [List.length_append,List.length_cons,List.length_nil] at h ⊢
    omega
  · simp
theorem pcOk_at:∀(l:List (Int×Int)) (x y:Int),PcOk x y l→∀(m:Nat) (hm:m<l.length),noL (lastS x y (l.take m)).1 l[m].1∧noL (lastS x y (l.take m)).2 l[m].2:=by
  intro l
  induction l with
  | nil=>intro x y _ m hm;simp at hm
  | cons t r ih=>
    intro x y h m hm
    cases m with
    | zero=>exact ⟨h.1,h.2.1⟩
    | succ m=>exact ih t.1 t.2 h.2.2 m (by simpa using hm)
theorem pcOk_cuts {ax ay bx b2:Int} {L:List (Int×Int)} (hL:L=cutsL ax ay bx b2):PcOk ax ay L:=by
  unfold cutsL at hL
  split at hL
  · rename_i h
    obtain ⟨a,b⟩:=cuts_ok h
    generalize hc:cutF ax ay (rowsV ax ay bx b2++[(bx,b2)])=c at hL
    subst hL
    exact ⟨⟨fun k hk=>by simp only at hk;omega,fun k hk=>by simp only at hk;omega⟩,⟨fun k hk=>by simp only at hk;omega,fun k hk=>by simp only at hk;omega⟩,pcOk_cut a b hc.symm⟩
  · subst hL;trivial
theorem sumP_take (i j x y:Int) (l:List (Int×Int)) (m:Nat) (hm:m<l.length):sumP i j x y (l.take (m+1))=sumP i j x y (l.take m)+(if inRow j (lastS x y (l.take m)).2 l[m].2=true then pieceA i (lastS x y (l.take m)).1 (lastS x y (l.take m)).2 l[m].1 l[m].2 else 0):=by
  rw [List.take_succ_eq_append_getElem hm,sumP_append]
  simp only [sumP,Int.add_zero]
theorem lastS_take (x y:Int) (l:List (Int×Int)) (m:Nat) (hm:m<l.length):lastS x y (l.take (m+1))=l[m]:=by
  rw [List.take_succ_eq_append_getElem hm,lastS_snoc]
theorem sumP_cuts {ax ay bx b2:Int} (i j:Int) (ha:inB ax ay=true) (hb:inB bx b2=true):sumP i j ax ay (cutsL ax ay bx b2)=chordV ax ay bx b2 i j:=by
  have e:cutsE ax ay bx b2=0:=by unfold cutsE;rw [ha,hb];rfl
  unfold cutsL
  rw [if_pos e]
  show (if inRow j ay ay=true then pieceA i ax ay ax ay else 0)+sumP i j ax ay _=_
  rw [chord_sum i j ha hb]
  have:(if inRow j ay ay=true then pieceA i ax ay ax ay else 0)=0:=by
    unfold pieceA;rw [Int.sub_self,Int.zero_mul];split <;> rfl
  omega
def sumZ (f:Nat→Int):Nat→Int
  | 0=>0
  | k+1=>sumZ f k+f k
theorem sumZ_congr {f g:Nat→Int}:∀n,(∀k,k<n→f k=g k)→sumZ f n=sumZ g n:=by
  intro n
  induction n with
  | zero=>intro _;rfl
  | succ n ih=>intro h;simp only [sumZ];rw [ih (fun k hk=>h k (by omega)),h n (by omega)]
theorem sumZ_bd {f:Nat→Int} {B:Int}:∀n:Nat,(∀k,k<n → -B≤f k∧f k≤B) → -(B*n)≤sumZ f n∧sumZ f n≤B*n:=by
  intro n
  induction n with
  | zero=>intro _;simp [sumZ]
  | succ n ih=>
    intro h
    have h1:=ih (fun k hk=>h k (by omega))
    have h2:=h n (by omega)
    simp only [sumZ]
    rw [show ((n+1:Nat):Int)=(n:Int)+1 by omega,Int.mul_add,Int.mul_one]
    omega
def ats (l:List (Int×Int)) (k:Nat):Int×Int:=l[k]?.getD (0,0)
def nxR (n k:Nat):Nat:=if k+1<n then k+1 else 0
theorem ats_at {l:List (Int×Int)} {k:Nat} (h:k<l.length):ats l k=l[k]:=by unfold ats;simp [h]
theorem nxR_lt {n k:Nat} (h:k<n):nxR n k<n:=by unfold nxR;split <;> omega
theorem nxR_mod {n k:Nat} (h:k<n):nxR n k=(k+1) % n:=by
  unfold nxR
  split
  · rename_i c;rw [Nat.mod_eq_of_lt c]
  · have:k+1=n:=by omega
    rw [this,Nat.mod_self]
def chF (F:Int→Int→Int→Int→Int) (l:List (Int×Int)) (k:Nat):Int:=F (ats l k).1 (ats l k).2 (ats l (nxR l.length k)).1 (ats l (nxR l.length k)).2
def ringF (F:Int→Int→Int→Int→Int) (l:List (Int×Int)):Int:=sumZ (chF F l) l.length
def outF (F:Int→Int→Int→Int→Int) (L:Nat→List (Int×Int)) (N:Nat):Int:=sumZ (fun r=>ringF F (L r)) N
def chA (i j:Int) (ax ay bx b2:Int):Int:=chordV ax ay bx b2 i j
def areaV (L:Nat→List (Int×Int)) (N:Nat) (i j:Int):Int:=outF (chA i j) L N
theorem ringA_bd (l:List (Int×Int)) (i j:Int):-(8192*(l.length:Int))≤ringF (chA i j) l∧ringF (chA i j) l≤8192*(l.length:Int):=
  sumZ_bd (f:=chF (chA i j) l) (B:=8192) _ (fun k _=>chordV_bd (ats l k).1 (ats l k).2 (ats l (nxR l.length k)).1 (ats l (nxR l.length k)).2 i j)
theorem areaV_bd {L:Nat→List (Int×Int)} {N M:Nat} (i j:Int) (h:∀r,r<N→(L r).length≤M):-(8192*(M:Int)*N)≤areaV L N i j∧areaV L N i j≤8192*(M:Int)*N:=
  sumZ_bd (f:=fun r=>ringF (chA i j) (L r)) (B:=8192*(M:Int)) _ (fun r hr=>by have:=ringA_bd (L r) i j;have:=h r hr;omega)
end Num
end Go.Proofs.YtkhcjkmifddlbabGreatDoor
namespace Go.Proofs.YtkhcjkmifddlbabGreatDoor
namespace Num
theorem gr_or (a b:Int):gr a b=a∨gr a b=b:=by unfold gr;split <;> simp
theorem ls_or (a b:Int):lsV a b=a∨lsV a b=b:=by unfold lsV;split <;> simp
theorem mul_lt_row {j r W:Nat} (h:j<r):j*W+W≤r*W:=by
  have:=Nat.mul_le_mul_right W (show j+1≤r from h)
  rw [Nat.add_mul,Nat.one_mul] at this
  exact this
theorem idx_in {W H i j:Nat} (hi:i<W) (hj:j<H):j*W+i<W*H:=by
  have:=mul_lt_row (W:=W) hj
  rw [Nat.mul_comm W H];omega
def tabAdd (W r c:Nat) (a b:Int) (T:Nat→Int) (k:Nat):Int:=if k=r*W+c then T k+a else if r*W+c<k∧k<r*W+W then T k+b else T k
theorem tabAdd_at {W i j c r:Nat} {a b:Int} {T:Nat→Int} (hi:i<W) (hc:c<W) :
    tabAdd W r c a b T (j*W+i)=T (j*W+i)+(if j=r then (if i<c then 0 else if i=c then a else b) else 0):=by
  unfold tabAdd
  rcases Nat.lt_trichotomy j r with h | h | h
  · have:=mul_lt_row (W:=W) h
    rw [if_neg (by omega),if_neg (by omega),if_neg (by omega)];omega
  · subst h
    rw [if_pos rfl]
    by_cases e:i=c
    · subst e;rw [if_pos rfl,if_neg (by omega),if_pos rfl]
    · rw [if_neg (by omega)]
      by_cases d:i<c
      · rw [if_neg (by omega),if_pos d];omega
      · rw [if_pos (by omega),if_neg d,if_neg e]
  · have:=mul_lt_row (W:=W) h
    rw [if_neg (by omega),if_neg (by omega),if_neg (by omega)];omega
theorem tabAdd_bd {W r c:Nat} {a b B D:Int} {T:Nat→Int} {n:Nat} (hT:∀k,k<n → -B≤T k∧T k≤B) (ha:-D≤a∧a≤D) (hb:-D≤b∧b≤D):∀k,k<n → -(B+D)≤tabAdd W r c a b T k∧tabAdd W r c a b T k≤B+D:=by
  intro k hk
  have:=hT k hk
  unfold tabAdd
  split
  · omega
  · split <;> omega
abbrev Cl:=Int×Int×Int
def cellA (x:Int) (c:Cl):Int:=(if c.1<x then c.2.2 else 0)+(if c.1=x then c.2.1 else 0)
def rowA (x:Int):List Cl→Int
  | []=>0
  | c::r=>cellA x c+rowA x r
def mass:List Cl→Int
  | []=>0
  | c::r=>sz c.2.1+sz c.2.2+mass r
theorem sz_nn (n:Int):0≤sz n:=by unfold sz;split <;> omega
theorem sz_ge (n:Int):-sz n≤n∧n≤sz n:=by unfold sz;split <;> omega
theorem sz_add (a b:Int):sz (a+b)≤sz a+sz b:=by
  unfold sz;repeat' split
  all_goals omega
theorem rowA_append (x:Int) (l r:List Cl):rowA x (l++r)=rowA x l+rowA x r:=by
  induction l with
  | nil=>simp [rowA]
  | cons c l ih=>simp only [List.cons_append,rowA,ih];omega
theorem mass_append (l r:List Cl):mass (l++r)=mass l+mass r:=by
  induction l with
  | nil=>simp [mass]
  | cons c l ih=>simp only [List.cons_append,mass,ih];omega
theorem mass_nn (l:List Cl):0≤mass l:=by
  induction l with
  | nil=>simp [mass]
  | cons c l ih=>have:=sz_nn c.2.1;have:=sz_nn c.2.2;simp only [mass];omega
theorem rowA_bd (x:Int) (l:List Cl):-mass l≤rowA x l∧rowA x l≤mass l:=by
  induction l with
  | nil=>simp [mass,rowA]
  | cons c l ih=>
    have h1:=sz_ge c.2.1
    have h2:=sz_ge c.2.2
    simp only [mass,rowA,cellA]
    split <;> split <;> omega
theorem mass_take (l:List Cl) (k:Nat):mass (l.take k)≤mass l:=by
  have e:l=l.take k++l.drop k:=(List.take_append_drop k l).symm
  have h:mass l=mass (l.take k)+mass (l.drop k):=by rw [←mass_append,List.take_append_drop]
  have:=mass_nn (l.drop k)
  omega
theorem mass_mem {l:List Cl} {c:Cl} (h:c∈l):sz c.2.1+sz c.2.2≤mass l:=by
  induction l with
  | nil=>cases h
  | cons d l ih=>
    have h1:=sz_nn d.2.1
    have h2:=sz_nn d.2.2
    have h3:=mass_nn l
    simp only [mass]
    rw [List.mem_cons] at h
    rcases h with h | h
    · subst h;omega
    · have:=ih h;omega
def insC (l:List Cl) (k:Nat) (s:Cl):List Cl:=l.take k++s::l.drop k
theorem rowA_ins (x:Int) (l:List Cl) (k:Nat) (s:Cl):rowA x (insC l k s)=rowA x l+cellA x s:=by
  have h:rowA x l=rowA x (l.take k)+rowA x (l.drop k):=by rw [←rowA_append,List.take_append_drop]
  unfold insC
  rw [rowA_append,h];simp only [rowA];omega
theorem mass_ins (l:List Cl) (k:Nat) (s:Cl):mass (insC l k s)=mass l+(sz s.2.1+sz s.2.2):=by
  have h:mass l=mass (l.take k)+mass (l.drop k):=by rw [←mass_append,List.take_append_drop]
  unfold insC
  rw [mass_append,h];simp only [mass];omega
def setC (l:List Cl) (k:Nat) (s:Cl):List Cl:=l.set k (s.1,(l[k]?.getD s).2.1+s.2.1,(l[k]?.getD s).2.2+s.2.2)
theorem split_at {l:List Cl} {k:Nat} (hk:k<l.length):l=l.take k++l[k]::l.drop (k+1):=by
  rw [List.getElem_cons_drop,List.take_append_drop]
theorem set_at {l:List Cl} {k:Nat} {s:Cl} (hk:k<l.length):setC l k s=l.take k++(s.1,l[k].2.1+s.2.1,l[k].2.2+s.2.2)::l.drop (k+1):=by
  unfold setC
  rw [List.set_eq_take_append_cons_drop,if_pos hk]
  simp [hk]
theorem rowA_set (x:Int) {l:List Cl} {k:Nat} {s:Cl} (hk:k<l.length) (hc:l[k].1=s.1):rowA x (setC l k s)=rowA x l+cellA x s:=by
  have h:rowA x l=rowA x (l.take k)+(cellA x l[k]+rowA x (l.drop (k+1))):=by
    have:=congrArg (rowA x) (split_at hk)
    rw [rowA_append] at this
    simpa only [rowA] using this
  rw [set_at hk,rowA_append,h]
  simp only [rowA,cellA,hc]
  split <;> split <;> omega
theorem mass_set {l:List Cl} {k:Nat} {s:Cl} (hk:k<l.length):mass (setC l k s)≤mass l+(sz s.2.1+sz s.2.2):=by
  have h:mass l=mass (l.take k)+(sz l[k].2.1+sz l[k].2.2+mass (l.drop (k+1))):=by
    have:=congrArg mass (split_at hk)
    rw [mass_append] at this
    simpa only [mass] using this
  rw [set_at hk,mass_append,h]
  simp only [mass]
  have:=sz_add l[k].2.1 s.2.1
  have:=sz_add l[k].2.2 s.2.2
  omega
def fullB (c:Cl):Bool:=!(c.2.1 == 0) || !(c.2.2 == 0)
theorem rowA_filter (x:Int) (l:List Cl):rowA x (l.filter fullB)=rowA x l:=by
  induction l with
  | nil=>rfl
  | cons c l ih=>
    by_cases h:fullB c=true
    · rw [List.filter_cons_of_pos h];simp only [rowA,ih]
    · rw [List.filter_cons_of_neg h]
      simp [fullB] at h
      simp only [rowA,ih,cellA,h.1,h.2]
      split <;> split <;> omega
theorem mass_filter (l:List Cl):mass (l.filter fullB)=mass l:=by
  induction l with
  | nil=>rfl
  | cons c l ih=>
    by_cases h:fullB c=true
    · rw [List.filter_cons_of_pos h];simp only [mass,ih]
    · rw [List.filter_cons_of_neg h]
      simp [fullB] at h
      simp only [mass,ih,h.1,h.2]
      have:sz 0=0:=rfl
      omega
theorem cellA_share {i c a b:Int}:cellA i (c,a,b)=if i<c then 0 else if i=c then a else b:=by
  unfold cellA
  simp only
  split <;> split <;> split <;> (try split) <;> omega
theorem piece_bd {t x0 y0 x1 y1:Int} (ht:t=1∨t = -1) (hx:noL x0 x1) (hy:noL y0 y1):(-8192≤hereV t x0 y0 x1 y1∧hereV t x0 y0 x1 y1≤8192) ∧ -8192≤rightV t y0 y1∧rightV t y0 y1≤8192:=by
  obtain ⟨r,h1,h2⟩:=noL_row hy
  have hh:-64≤t*(y1-y0)∧t*(y1-y0)≤64:=by rcases ht with rfl | rfl <;> omega
  have hc:0≤colV x0 x1*64+64-gr x0 0+(colV x0 x1*64+64)-gr x1 0∧colV x0 x1*64+64-gr x0 0+(colV x0 x1*64+64)-gr x1 0≤128:=by
    obtain ⟨c0,k1,k2⟩:=noL_row hx
    have g0:=gr0 x0
    have g1:=gr0 x1
    unfold colV
    obtain ⟨m,hm⟩:∃m,m=lsV (gr x0 0) (gr x1 0):=⟨_,rfl⟩
    have hm2:(m=gr x0 0∨m=gr x1 0)∧m≤gr x0 0∧m≤gr x1 0:=by rw [hm];unfold lsV;split <;> omega
    rw [←hm,Int.tdiv_eq_ediv_of_nonneg (by omega)]
    omega
  refine ⟨?_,?_⟩
  · unfold hereV
    have:=mul_bd (t*(y1-y0)) (colV x0 x1*64+64-gr x0 0+(colV x0 x1*64+64)-gr x1 0) 64 128 (by omega) (by omega)
    omega
  · unfold rightV;omega
end Num
end Go.Proofs.YtkhcjkmifddlbabGreatDoor
namespace Go.Proofs.YtkhcjkmifddlbabGreatDoor
open Go.RowKit Go.Deep
theorem rleast_any (a b:Int) (w:World):Calls Tryz.prog 148 #[.int .i64 a,.int .i64 b] w fun e w'=>e=.returned (.int .i64 (Num.lsV a b))∧w'=w:=by
  by_cases h:a<b
  · go_enter Tryz.func148,Tryz.ntmps148
    go_wp2
    go_ret
    exact ⟨ret_int (by unfold Num.lsV;rw [if_pos (by omega)]),rfl⟩
  · go_enter Tryz.func148,Tryz.ntmps148
    go_wp2
    go_ret
    exact ⟨ret_int (by unfold Num.lsV;rw [if_neg (by omega)]),rfl⟩
theorem rclip_any (v lo hi:Int) (w:World):Calls Tryz.prog 205 #[.int .i64 v,.int .i64 lo,.int .i64 hi] w fun e w'=>e=.returned (.int .i64 (Num.clipV v lo hi))∧w'=w:=by
  go_enter Tryz.func205,Tryz.ntmps205
  go_wp2_with (first | (go_at_call 148;refine (rleast_any _ _ _).mono ?_;rintro e w' ⟨rfl,rfl⟩) | (go_at_call 129;refine (most_any _ _ _).mono ?_;rintro e w' ⟨rfl,rfl⟩))
  go_ret
  exact ⟨rfl,rfl⟩
theorem reaches_any (px py qx qy x:Int) (w:World) (hp:(-16384≤px∧px≤16384) ∧ -16384≤py∧py≤16384) (hq:(-16384≤qx∧qx≤16384) ∧ -16384≤qy∧qy≤16384) :
    Calls Tryz.prog 204 #[.agg #[.int .i64 px,.int .i64 py],.agg #[.int .i64 qx,.int .i64 qy],.int .i64 x] w fun e w'=>e=.returned (.int .i64 (Num.reachV px py qx qy x))∧Below w.heap.size w w':=by
  by_cases h1:x≤px
  · have HE:Hid (Num.reachV px py qx qy x=py):=by unfold Hid Num.reachV;rw [if_pos h1]
    go_enter Tryz.func204,Tryz.ntmps204
    go_wp2
    go_ret
    exact ⟨ret_int HE.out.symm,by (repeat any_goals first | exact .refl _ _ | assumption | refine .drew ?_ | refine below_drewN ?_ _ | refine .setCell ?_ ?_ _ | refine .alloc ?_ ?_ _ | omega | (simp <;> omega))⟩
  · by_cases h2:qx≤x
    · have HE:Hid (Num.reachV px py qx qy x=qy):=by unfold Hid Num.reachV;rw [if_neg h1,if_pos h2]
      go_enter Tryz.func204,Tryz.ntmps204
      go_wp2
      go_ret
      exact ⟨ret_int HE.out.symm,by (repeat any_goals first | exact .refl _ _ | assumption | refine .drew ?_ | refine below_drewN ?_ _ | refine .setCell ?_ ?_ _ | refine .alloc ?_ ?_ _ | omega | (simp <;> omega))⟩
    · have HE:Hid (Num.reachV px py qx qy x=Num.atV py qy px qx x):=by unfold Hid Num.reachV;rw [if_neg h1,if_neg h2]
      have HC:=hide (fun w'=>yat_any px py qx qy x w' (by omega) hp hq (by omega))
      go_enter Tryz.func204,Tryz.ntmps204
      go_wp2_with fail
      refine (HC.out _).mono ?_
      rintro e w1 ⟨rfl,rfl⟩
      go_wp2
      go_ret
      exact ⟨ret_int HE.out.symm,by (repeat any_goals first | exact .refl _ _ | assumption | refine .drew ?_ | refine below_drewN ?_ _ | refine .setCell ?_ ?_ _ | refine .alloc ?_ ?_ _ | omega | (simp <;> omega))⟩
theorem reach_bd {px py qx qy x:Int} (hp:-16384≤py∧py≤16384) (hq:-16384≤qy∧qy≤16384):-16384≤Num.reachV px py qx qy x∧Num.reachV px py qx qy x≤16384:=by
  unfold Num.reachV
  split
  · exact hp
  · split
    · exact hq
    · exact Num.atV_rng (by omega) hp hq
theorem clip_bd {v lo hi:Int} (h:lo≤hi):lo≤Num.clipV v lo hi∧Num.clipV v lo hi≤hi:=by
  unfold Num.clipV Num.gr Num.lsV
  repeat' split
  all_goals omega
theorem four_rows (a0 a1 b0 b1 p0 p1 q0 q1:Int) (w:World) (t:TypeId) :
    ((((w.alloc (.cells #[.int .i64 a0,.int .i64 a1] t)).alloc (.cells #[.int .i64 b0,.int .i64 b1] t)).alloc (.cells #[.int .i64 p0,.int .i64 p1] t)).alloc (.cells #[.int .i64 q0,.int .i64 q1] t)).rowIs (w.heap.size+1+1) t 2 (sp2 p0 p1) ∧
    ((((w.alloc (.cells #[.int .i64 a0,.int .i64 a1] t)).alloc (.cells #[.int .i64 b0,.int .i64 b1] t)).alloc (.cells #[.int .i64 p0,.int .i64 p1] t)).alloc (.cells #[.int .i64 q0,.int .i64 q1] t)).rowIs (w.heap.size+1+1+1) t 2 (sp2 q0 q1):=by
  have h1:=(sp2_row p0 p1 ((w.alloc (.cells #[.int .i64 a0,.int .i64 a1] t)).alloc (.cells #[.int .i64 b0,.int .i64 b1] t)) t).alloc (.cells #[.int .i64 q0,.int .i64 q1] t)
  have h2:=sp2_row q0 q1 (((w.alloc (.cells #[.int .i64 a0,.int .i64 a1] t)).alloc (.cells #[.int .i64 b0,.int .i64 b1] t)).alloc (.cells #[.int .i64 p0,.int .i64 p1] t)) t
  rw [nblk_alloc,nblk_alloc] at h1
  rw [nblk_alloc,nblk_alloc,nblk_alloc] at h2
  exact ⟨h1,h2⟩
set_option maxRecDepth 100000 in
theorem part_any (ax ay bx b2 i:Int) (w:World) (ha:(-16384≤ax∧ax≤16384) ∧ -16384≤ay∧ay≤16384) (hb:(-16384≤bx∧bx≤16384) ∧ -16384≤b2∧b2≤16384) (hi:0≤i∧i≤64) :
    Calls Tryz.prog 197 #[.agg #[.int .i64 ax,.int .i64 ay],.agg #[.int .i64 bx,.int .i64 b2],.int .i64 i] w fun e w'=>e=.returned (.int .i64 (Num.partV ax ay bx b2 i))∧Below w.heap.size w w':=by
  by_cases h:bx<ax
  · have HE:Hid (Num.partV ax ay bx b2 i=128*Num.sz (Num.reachV bx b2 ax ay (64*i)-b2)+Num.sz (Num.reachV bx b2 ax ay (64*i+64)-Num.reachV bx b2 ax ay (64*i))*(64*i+64-Num.clipV (64*i) bx ax+(64*i+64)-Num.clipV (64*i+64) bx ax)):=by unfold Hid Num.partV;rw [if_pos h]
    have r1:=reach_bd (px:=bx) (qx:=ax) (x:=64*i) hb.2 ha.2
    have r2:=reach_bd (px:=bx) (qx:=ax) (x:=64*i+64) hb.2 ha.2
    have c1:=clip_bd (v:=64*i) (show bx≤ax by omega)
    have c2:=clip_bd (v:=64*i+64) (show bx≤ax by omega)
    have z1:=Num.sz_bd (n:=Num.reachV bx b2 ax ay (64*i)-b2) (B:=32768) (by omega) (by omega)
    have z2:=Num.sz_bd (n:=Num.reachV bx b2 ax ay (64*i+64)-Num.reachV bx b2 ax ay (64*i)) (B:=32768) (by omega) (by omega)
    have m1:=Num.mul_bd (Num.sz (Num.reachV bx b2 ax ay (64*i+64)-Num.reachV bx b2 ax ay (64*i))) (64*i+64-Num.clipV (64*i) bx ax+(64*i+64)-Num.clipV (64*i+64) bx ax) 32768 65536 (by omega) (by omega)
    have HR:=hide (fun x w'=>reaches_any bx b2 ax ay x w' hb ha)
    have HF:=hide (four_rows ax ay bx b2 bx b2 ax ay w 42)
    go_enter Tryz.func197,Tryz.ntmps197
    go_wp2_with fail
    refine (HR.out _ _).mono ?_
    rintro e w1 ⟨rfl,hb1⟩
    have hs1:=hb1.size
    rw [nblk_alloc,nblk_alloc,nblk_alloc,nblk_alloc] at hs1
    obtain ⟨d0,d1⟩:=sp2_cells (row_below HF.out.1 hb1 HF.out.1.lt)
    obtain ⟨e0,e1⟩:=sp2_cells (row_below HF.out.2 hb1 HF.out.2.lt)
    have HP1:=hide (row_below HF.out.1 hb1 HF.out.1.lt)
    have HQ1:=hide (row_below HF.out.2 hb1 HF.out.2.lt)
    have HB1:Hid (Below w.heap.size w w1):=Below.trans (by (repeat any_goals first | exact .refl _ _ | assumption | refine .drew ?_ | refine below_drewN ?_ _ | refine .setCell ?_ ?_ _ | refine .alloc ?_ ?_ _ | omega | (simp <;> omega))) (hb1.mono (by simp;omega))
    have l1:w.heap.size+1+1<w1.heap.size:=by omega
    have l2:w.heap.size+1+1+1<w1.heap.size:=by omega
    clear hb1 HF
    go_wp2_with fail
    refine (HR.out _ _).mono ?_
    rintro e w2 ⟨rfl,hb2⟩
    have hs2:=hb2.size
    have HB2:=hide (HB1.out.trans (hb2.mono (by omega)))
    obtain ⟨d0,d1⟩:=sp2_cells (row_below HP1.out hb2 l1)
    obtain ⟨e0,e1⟩:=sp2_cells (row_below HQ1.out hb2 l2)
    have l1:w.heap.size+1+1<w2.heap.size:=by omega
    have l2:w.heap.size+1+1+1<w2.heap.size:=by omega
    clear hb2 HP1 HQ1
    go_wp2_with (first | (go_at_call 163;refine (apart_any _ _ (by omega) (by omega)).mono ?_;rintro e w' ⟨rfl,rfl⟩) | (go_at_call 205;refine (rclip_any _ _ _ _).mono ?_;rintro e w' ⟨rfl,rfl⟩))
    go_ret
    exact ⟨ret_int HE.out.symm,HB2.out⟩
  · have HE:Hid (Num.partV ax ay bx b2 i=128*Num.sz (Num.reachV ax ay bx b2 (64*i)-ay)+Num.sz (Num.reachV ax ay bx b2 (64*i+64)-Num.reachV ax ay bx b2 (64*i))*(64*i+64-Num.clipV (64*i) ax bx+(64*i+64)-Num.clipV (64*i+64) ax bx)):=by unfold Hid Num.partV;rw [if_neg h]
    have r1:=reach_bd (px:=ax) (qx:=bx) (x:=64*i) ha.2 hb.2
    have r2:=reach_bd (px:=ax) (qx:=bx) (x:=64*i+64) ha.2 hb.2
    have c1:=clip_bd (v:=64*i) (show ax≤bx by omega)
    have c2:=clip_bd (v:=64*i+64) (show ax≤bx by omega)
    have z1:=Num.sz_bd (n:=Num.reachV ax ay bx b2 (64*i)-ay) (B:=32768) (by omega) (by omega)
    have z2:=Num.sz_bd (n:=Num.reachV ax ay bx b2 (64*i+64)-Num.reachV ax ay bx b2 (64*i)) (B:=32768) (by omega) (by omega)
    have m1:=Num.mul_bd (Num.sz (Num.reachV ax ay bx b2 (64*i+64)-Num.reachV ax ay bx b2 (64*i))) (64*i+64-Num.clipV (64*i) ax bx+(64*i+64)-Num.clipV (64*i+64) ax bx) 32768 65536 (by omega) (by omega)
    have HR:=hide (fun x w'=>reaches_any ax ay bx b2 x w' ha hb)
    have HF:=hide (four_rows ax ay bx b2 ax ay bx b2 w 42)
    go_enter Tryz.func197,Tryz.ntmps197
    go_wp2_with fail
    refine (HR.out _ _).mono ?_
    rintro e w1 ⟨rfl,hb1⟩
    have hs1:=hb1.size
    rw [nblk_alloc,nblk_alloc,nblk_alloc,nblk_alloc] at hs1
    obtain ⟨d0,d1⟩:=sp2_cells (row_below HF.out.1 hb1 HF.out.1.lt)
    obtain ⟨e0,e1⟩:=sp2_cells (row_below HF.out.2 hb1 HF.out.2.lt)
    have HP1:=hide (row_below HF.out.1 hb1 HF.out.1.lt)
    have HQ1:=hide (row_below HF.out.2 hb1 HF.out.2.lt)
    have HB1:Hid (Below w.heap.size w w1):=Below.trans (by (repeat any_goals first | exact .refl _ _ | assumption | refine .drew ?_ | refine below_drewN ?_ _ | refine .setCell ?_ ?_ _ | refine .alloc ?_ ?_ _ | omega | (simp <;> omega))) (hb1.mono (by simp;omega))
    have l1:w.heap.size+1+1<w1.heap.size:=by omega
    have l2:w.heap.size+1+1+1<w1.heap.size:=by omega
    clear hb1 HF
    go_wp2_with fail
    refine (HR.out _ _).mono ?_
    rintro e w2 ⟨rfl,hb2⟩
    have hs2:=hb2.size
    have HB2:=hide (HB1.out.trans (hb2.mono (by omega)))
    obtain ⟨d0,d1⟩:=sp2_cells (row_below HP1.out hb2 l1)
    obtain ⟨e0,e1⟩:=sp2_cells (row_below HQ1.out hb2 l2)
    have l1:w.heap.size+1+1<w2.heap.size:=by omega
    have l2:w.heap.size+1+1+1<w2.heap.size:=by omega
    clear hb2 HP1 HQ1
    go_wp2_with (first | (go_at_call 163;refine (apart_any _ _ (by omega) (by omega)).mono ?_;rintro e w' ⟨rfl,rfl⟩) | (go_at_call 205;refine (rclip_any _ _ _ _).mono ?_;rintro e w' ⟨rfl,rfl⟩))
    go_ret
    exact ⟨ret_int HE.out.symm,HB2.out⟩
set_option maxRecDepth 100000 in
theorem down_any (ax ay bx b2 i j:Int) (w:World) (ha:(-16384≤ax∧ax≤16384) ∧ -16384≤ay∧ay≤16384) (hb:(-16384≤bx∧bx≤16384) ∧ -16384≤b2∧b2≤16384) (hi:0≤i∧i≤64) (hj:0≤j∧j≤64) (hab:ay≤b2) :
    Calls Tryz.prog 190 #[.agg #[.int .i64 ax,.int .i64 ay],.agg #[.int .i64 bx,.int .i64 b2],.int .i64 i,.int .i64 j] w fun e w'=>e=.returned (.int .i64 (Num.downV ax ay bx b2 i j))∧Below w.heap.size w w':=by
  have g1:=Num.gr_ge ay (64*j)
  have l1:=Num.ls_le b2 (64*j+64)
  have g2:=Num.gr_or ay (64*j)
  have l2:=Num.ls_or b2 (64*j+64)
  by_cases h:Num.lsV b2 (64*j+64)≤Num.gr ay (64*j)
  · have HE:Hid (Num.downV ax ay bx b2 i j=0):=by unfold Hid Num.downV;rw [if_pos h]
    go_enter Tryz.func190,Tryz.ntmps190
    go_wp2_with (first | (go_at_call 148;refine (rleast_any _ _ _).mono ?_;rintro e w' ⟨rfl,rfl⟩) | (go_at_call 129;refine (most_any _ _ _).mono ?_;rintro e w' ⟨rfl,rfl⟩))
    go_ret
    exact ⟨ret_int HE.out.symm,by (repeat any_goals first | exact .refl _ _ | assumption | refine .drew ?_ | refine below_drewN ?_ _ | refine .setCell ?_ ?_ _ | refine .alloc ?_ ?_ _ | omega | (simp <;> omega))⟩
  · have hlt:ay<b2:=by omega
    have HE:Hid (Num.downV ax ay bx b2 i j=Num.partV (Num.atV ax bx ay b2 (Num.gr ay (64*j))) (Num.gr ay (64*j)) (Num.atV ax bx ay b2 (Num.lsV b2 (64*j+64))) (Num.lsV b2 (64*j+64)) i):=by unfold Hid Num.downV;rw [if_neg h]
    have r1:=Num.atV_rng (n:=Num.gr ay (64*j)) (p:=ay) (q:=b2) (by omega) ha.1 hb.1
    have r2:=Num.atV_rng (n:=Num.lsV b2 (64*j+64)) (p:=ay) (q:=b2) (by omega) ha.1 hb.1
    have HX:=hide (fun y w' (h:-16384≤y∧y≤16384)=>xat_any ax ay bx b2 y w' (by omega) ha hb h)
    have HPt:=hide (fun w'=>part_any (Num.atV ax bx ay b2 (Num.gr ay (64*j))) (Num.gr ay (64*j)) (Num.atV ax bx ay b2 (Num.lsV b2 (64*j+64))) (Num.lsV b2 (64*j+64)) i w' ⟨r1,by omega⟩ ⟨r2,by omega⟩ hi)
    go_enter Tryz.func190,Tryz.ntmps190
    go_wp2_with (first | (go_at_call 148;refine (rleast_any _ _ _).mono ?_;rintro e w' ⟨rfl,rfl⟩) | (go_at_call 129;refine (most_any _ _ _).mono ?_;rintro e w' ⟨rfl,rfl⟩) | (go_at_call 86;refine (HX.out _ _ (by omega)).mono ?_;rintro e w' ⟨rfl,rfl⟩))
    refine (HPt.out _).mono ?_
    rintro e w5 ⟨rfl,hb5⟩
    go_wp2
    go_ret
    exact ⟨ret_int HE.out.symm,Below.trans (by (repeat any_goals first | exact .refl _ _ | assumption | refine .drew ?_ | refine below_drewN ?_ _ | refine .setCell ?_ ?_ _ | refine .alloc ?_ ?_ _ | omega | (simp <;> omega))) (hb5.mono (by simp;omega))⟩
set_option maxRecDepth 100000 in
theorem refChord_any (ax ay bx b2 i j:Int) (w:World) (ha:(-16384≤ax∧ax≤16384) ∧ -16384≤ay∧ay≤16384) (hb:(-16384≤bx∧bx≤16384) ∧ -16384≤b2∧b2≤16384) (hi:0≤i∧i≤64) (hj:0≤j∧j≤64) :
    Calls Tryz.prog 179 #[.agg #[.int .i64 ax,.int .i64 ay],.agg #[.int .i64 bx,.int .i64 b2],.int .i64 i,.int .i64 j] w fun e w'=>e=.returned (.int .i64 (Num.chordV ax ay bx b2 i j))∧Below w.heap.size w w':=by
  by_cases h:b2<ay
  · have HE:Hid (Num.chordV ax ay bx b2 i j = -Num.downV bx b2 ax ay i j):=by unfold Hid Num.chordV;rw [if_pos h]
    have bd:=Num.downV_bd bx b2 ax ay i j
    have HD:=hide (fun w'=>down_any bx b2 ax ay i j w' hb ha hi hj (by omega))
    go_enter Tryz.func179,Tryz.ntmps179
    go_wp2_with fail
    refine (HD.out _).mono ?_
    rintro e w5 ⟨rfl,hb5⟩
    go_wp2
    go_ret
    exact ⟨ret_int HE.out.symm,Below.trans (by (repeat any_goals first | exact .refl _ _ | assumption | refine .drew ?_ | refine below_drewN ?_ _ | refine .setCell ?_ ?_ _ | refine .alloc ?_ ?_ _ | omega | (simp <;> omega))) (hb5.mono (by simp;omega))⟩
  · have HE:Hid (Num.chordV ax ay bx b2 i j=Num.downV ax ay bx b2 i j):=by unfold Hid Num.chordV;rw [if_neg h]
    have HD:=hide (fun w'=>down_any ax ay bx b2 i j w' ha hb hi hj (by omega))
    go_enter Tryz.func179,Tryz.ntmps179
    go_wp2_with fail
    refine (HD.out _).mono ?_
    rintro e w5 ⟨rfl,hb5⟩
    go_wp2
    go_ret
    exact ⟨ret_int HE.out.symm,Below.trans (by (repeat any_goals first | exact .refl _ _ | assumption | refine .drew ?_ | refine below_drewN ?_ _ | refine .setCell ?_ ?_ _ | refine .alloc ?_ ?_ _ | omega | (simp <;> omega))) (hb5.mono (by simp;omega))⟩
end Go.Proofs.YtkhcjkmifddlbabGreatDoor
namespace Go.Proofs.YtkhcjkmifddlbabGreatDoor
open Go.RowKit
theorem fair_false {a b c d x y:Int} (h:Num.wi a 65536=false∨Num.wi b 65536=false∨Num.wi c 65536=false∨Num.wi d 65536=false∨Num.wi x 16384=false∨Num.wi y 16384=false):false=Num.fairB a b c d x y:=by
  unfold Num.fairB
  rcases h with h | h | h | h | h | h <;> simp [h]
theorem refFair_any (a b c d x y:Int) (w:World) :
    Calls Tryz.prog 74 #[.agg #[.int .i64 a,.int .i64 b,.int .i64 c,.int .i64 d,.int .i64 x,.int .i64 y]] w fun e w'=>e=.returned (.bool (Num.fairB a b c d x y))∧Below w.heap.size w w':=by
  go_enter Tryz.func74,Tryz.ntmps74
  go_wp2
  go_loop [4] (fun i=>∃k:Nat,k≤4∧i=.int .i64 k∧(1≤k→Num.wi a 65536=true)∧(2≤k→Num.wi b 65536=true)∧(3≤k→Num.wi c 65536=true)∧(4≤k→Num.wi d 65536=true)) (fun i=>4-(intOf i).toNat)
  case atStart=>exact ⟨0,by omega,rfl,by omega,by omega,by omega,by omega⟩
  case round=>
    obtain ⟨k,hk,rfl,r1,r2,r3,r4⟩:=hrel
    have R:=hide (And.intro r1 (And.intro r2 (And.intro r3 r4)))
    clear r1 r2 r3 r4
    rcases (show k=0∨k=1∨k=2∨k=3∨k=4 by omega) with rfl | rfl | rfl | rfl | rfl
    · cases hw:Num.wi a 65536
      · rcases Num.wi_no hw with h | h
        · go_wp2
          go_ret
          exact ⟨ret_bool (fair_false (by simp [hw])),by (repeat any_goals first | exact .refl _ _ | assumption | refine .drew ?_ | refine below_drewN ?_ _ | refine .setCell ?_ ?_ _ | refine .alloc ?_ ?_ _ | omega | (simp <;> omega))⟩
        · go_wp2
          go_ret
          exact ⟨ret_bool (fair_false (by simp [hw])),by (repeat any_goals first | exact .refl _ _ | assumption | refine .drew ?_ | refine below_drewN ?_ _ | refine .setCell ?_ ?_ _ | refine .alloc ?_ ?_ _ | omega | (simp <;> omega))⟩
      · have h:=Num.wi_yes hw
        go_wp2
        go_round
        case rel=>exact ⟨1,by omega,rfl,fun _=>by first | exact hw | trivial,by omega,by omega,by omega⟩
        case measure=>simp [intOf]
    · cases hw:Num.wi b 65536
      · rcases Num.wi_no hw with h | h
        · go_wp2
          go_ret
          exact ⟨ret_bool (fair_false (by simp [hw])),by (repeat any_goals first | exact .refl _ _ | assumption | refine .drew ?_ | refine below_drewN ?_ _ | refine .setCell ?_ ?_ _ | refine .alloc ?_ ?_ _ | omega | (simp <;> omega))⟩
        · go_wp2
          go_ret
          exact ⟨ret_bool (fair_false (by simp [hw])),by (repeat any_goals first | exact .refl _ _ | assumption | refine .drew ?_ | refine below_drewN ?_ _ | refine .setCell ?_ ?_ _ | refine .alloc ?_ ?_ _ | omega | (simp <;> omega))⟩
      · have h:=Num.wi_yes hw
        go_wp2
        go_round
        case rel=>exact ⟨2,by omega,rfl,fun _=>R.out.1 (by omega),fun _=>by first | exact hw | trivial,by omega,by omega⟩
        case measure=>simp [intOf]
    · cases hw:Num.wi c 65536
      · rcases Num.wi_no hw with h | h
        · go_wp2
          go_ret
          exact ⟨ret_bool (fair_false (by simp [hw])),by (repeat any_goals first | exact .refl _ _ | assumption | refine .drew ?_ | refine below_drewN ?_ _ | refine .setCell ?_ ?_ _ | refine .alloc ?_ ?_ _ | omega | (simp <;> omega))⟩
        · go_wp2
          go_ret
          exact ⟨ret_bool (fair_false (by simp [hw])),by (repeat any_goals first | exact .refl _ _ | assumption | refine .drew ?_ | refine below_drewN ?_ _ | refine .setCell ?_ ?_ _ | refine .alloc ?_ ?_ _ | omega | (simp <;> omega))⟩
      · have h:=Num.wi_yes hw
        go_wp2
        go_round
        case rel=>exact ⟨3,by omega,rfl,fun _=>R.out.1 (by omega),fun _=>R.out.2.1 (by omega),fun _=>by first | exact hw | trivial,by omega⟩
        case measure=>simp [intOf]
    · cases hw:Num.wi d 65536
      · rcases Num.wi_no hw with h | h
        · go_wp2
          go_ret
          exact ⟨ret_bool (fair_false (by simp [hw])),by (repeat any_goals first | exact .refl _ _ | assumption | refine .drew ?_ | refine below_drewN ?_ _ | refine .setCell ?_ ?_ _ | refine .alloc ?_ ?_ _ | omega | (simp <;> omega))⟩
        · go_wp2
          go_ret
          exact ⟨ret_bool (fair_false (by simp [hw])),by (repeat any_goals first | exact .refl _ _ | assumption | refine .drew ?_ | refine below_drewN ?_ _ | refine .setCell ?_ ?_ _ | refine .alloc ?_ ?_ _ | omega | (simp <;> omega))⟩
      · have h:=Num.wi_yes hw
        go_wp2
        go_round
        case rel=>exact ⟨4,by omega,rfl,fun _=>R.out.1 (by omega),fun _=>R.out.2.1 (by omega),fun _=>R.out.2.2.1 (by omega),fun _=>by first | exact hw | trivial⟩
        case measure=>simp [intOf]
    · have e1:=R.out.1 (by omega)
      have e2:=R.out.2.1 (by omega)
      have e3:=R.out.2.2.1 (by omega)
      have e4:=R.out.2.2.2 (by omega)
      have E:Num.fairB a b c d x y=Num.inB x y:=by simp [Num.fairB,Num.inB,e1,e2,e3,e4]
      have HE:=hide E
      clear E e1 e2 e3 e4
      go_wp2
      all_goals
        go_ret
        refine ⟨ret_bool ?_,by (repeat any_goals first | exact .refl _ _ | assumption | refine .drew ?_ | refine below_drewN ?_ _ | refine .setCell ?_ ?_ _ | refine .alloc ?_ ?_ _ | omega | (simp <;> omega))⟩
        rw [HE.out]
        simp only [Num.inB,Num.wi]
        simp [*]
        try omega
theorem refPlace_any (a b c d x y s t:Int) (w:World) :
    Calls Tryz.prog 33 #[.agg #[.int .i64 a,.int .i64 b,.int .i64 c,.int .i64 d,.int .i64 x,.int .i64 y],.agg #[.int .i64 s,.int .i64 t]] w fun e w'=>
      e=.returned (.tuple #[.agg #[.int .i64 (Num.placeV a b c d x y s t).1,.int .i64 (Num.placeV a b c d x y s t).2.1],.int .i64 (Num.placeV a b c d x y s t).2.2])∧Below w.heap.size w w':=by
  by_cases hs:(Num.wi s 8192 && Num.wi t 8192)=false
  · have hV:Num.placeV a b c d x y s t=(0,0,4):=by unfold Num.placeV;rw [if_pos hs]
    rw [hV]
    clear hV
    have hs':(s < -8192∨8192<s)∨((-8192≤s∧s≤8192)∧(t < -8192∨8192<t)):=by
      simp [Num.wi] at hs;omega
    clear hs
    rcases hs' with (h | h) | ⟨h0,(h | h)⟩
    all_goals
      go_enter Tryz.func33,Tryz.ntmps33
      go_wp2_with fail
      refine bodyPost_ret (v:=.tuple #[.agg #[.int .i64 0,.int .i64 0],.int .i64 4]) (by simp [results,Tryz.results33,go_sem]) rfl ⟨rfl,?_⟩
      (repeat any_goals first | exact .refl _ _ | assumption | refine .drew ?_ | refine below_drewN ?_ _ | refine .setCell ?_ ?_ _ | refine .alloc ?_ ?_ _ | omega | (simp <;> omega))
  simp at hs
  obtain ⟨hs,ht⟩:=hs
  have k:=Num.wi_yes hs
  have k2:=Num.wi_yes ht
  cases hf:Num.fairB a b c d x y
  · have hV:Num.placeV a b c d x y s t=(0,0,5):=by unfold Num.placeV;rw [hs,ht,hf];rfl
    rw [hV]
    clear hV
    go_enter Tryz.func33,Tryz.ntmps33
    go_wp2_with fail
    refine (refFair_any _ _ _ _ _ _ _).mono ?_
    rintro e w1 ⟨rfl,hb⟩
    obtain ⟨hc,hfz⟩:=bcell hb
    have hz:w.heap.size+1+1<w1.heap.size:=by have:=hb.size;simp at this;omega
    have hb0:Below w.heap.size w w1:=Below.trans (by (repeat any_goals first | exact .refl _ _ | assumption | refine .drew ?_ | refine below_drewN ?_ _ | refine .setCell ?_ ?_ _ | refine .alloc ?_ ?_ _ | omega | (simp <;> omega))) (hb.mono (by simp;omega))
    clear hb
    go_wp2
    refine bodyPost_ret (v:=.tuple #[.agg #[.int .i64 0,.int .i64 0],.int .i64 5]) (by simp [results,Tryz.results33,go_sem,hc]) rfl ⟨rfl,?_⟩
    (repeat any_goals first | exact .refl _ _ | assumption | refine .drew ?_ | refine below_drewN ?_ _ | refine .setCell ?_ ?_ _ | refine .alloc ?_ ?_ _ | omega | (simp <;> omega))
  have kf:Num.wi a 65536=true∧Num.wi b 65536=true∧Num.wi c 65536=true∧Num.wi d 65536=true∧Num.wi x 16384=true∧Num.wi y 16384=true:=by
    simp [Num.fairB] at hf;simp [hf]
  obtain ⟨f1,f2,f3,f4,f5,f6⟩:=kf
  have f1:=Num.wi_yes f1;have f2:=Num.wi_yes f2;have f3:=Num.wi_yes f3;have f4:=Num.wi_yes f4;have f5:=Num.wi_yes f5;have f6:=Num.wi_yes f6
  have m1:=Num.mul_bd a s _ _ f1 k
  have m2:=Num.mul_bd b t _ _ f2 k2
  have m3:=Num.mul_bd c s _ _ f3 k
  have m4:=Num.mul_bd d t _ _ f4 k2
  have n1:=Num.hu_le (a*s+b*t) 2048 10000000000 (by omega) (by omega) (by omega) (by omega)
  have n2:=Num.hu_le (c*s+d*t) 2048 10000000000 (by omega) (by omega) (by omega) (by omega)
  go_enter Tryz.func33,Tryz.ntmps33
  go_wp2_with fail
  refine (refFair_any _ _ _ _ _ _ _).mono ?_
  rintro e w1 ⟨rfl,hb⟩
  obtain ⟨hc,hfz⟩:=bcell hb
  have hz:w.heap.size+1+1<w1.heap.size:=by have:=hb.size;simp at this;omega
  have hb0:Below w.heap.size w w1:=Below.trans (by (repeat any_goals first | exact .refl _ _ | assumption | refine .drew ?_ | refine below_drewN ?_ _ | refine .setCell ?_ ?_ _ | refine .alloc ?_ ?_ _ | omega | (simp <;> omega))) (hb.mono (by simp;omega))
  clear hb
  go_wp2_with fail
  refine (half_any _ _ _ (by omega) (by omega) (by omega) (by omega)).mono ?_
  rintro e w1 ⟨rfl,rfl⟩
  go_wp2_with fail
  refine (half_any _ _ _ (by omega) (by omega) (by omega) (by omega)).mono ?_
  rintro e w1 ⟨rfl,rfl⟩
  go_wp2_with fail
  refine (refInRange_any _ _ _).mono ?_
  rintro e w2 ⟨rfl,hb2⟩
  obtain ⟨hc2,hfz2⟩:=bcell hb2
  have hz2':w1.heap.size<w2.heap.size:=by have:=hb2.size;simp at this;omega
  have hb3:Below w.heap.size w w2:=Below.trans (by (repeat any_goals first | exact .refl _ _ | assumption | refine .drew ?_ | refine below_drewN ?_ _ | refine .setCell ?_ ?_ _ | refine .alloc ?_ ?_ _ | omega | (simp <;> omega))) (hb2.mono (by simp;omega))
  clear hb2 hb0
  have HB3:=hide hb3
  clear hb3
  have q20:w2.cell? ⟨w.heap.size+1+1,0,none⟩=some (.int .i64 0):=by rw [hc2 _ _ (by simp;omega)];go_simp
  have q21:w2.cell? ⟨w.heap.size+1+1,1,none⟩=some (.int .i64 0):=by rw [hc2 _ _ (by simp;omega)];go_simp
  have z20:w2.frozen? ⟨w.heap.size+1+1,0,none⟩=false:=by rw [hfz2 _ _ (by simp;omega)];go_simp
  have z21:w2.frozen? ⟨w.heap.size+1+1,1,none⟩=false:=by rw [hfz2 _ _ (by simp;omega)];go_simp
  have u20:w2.cell? ⟨w1.heap.size,0,none⟩=some (.int .i64 (x+Num.hu (a*s+b*t) 2048)):=by rw [hc2 _ _ (by simp)];go_simp
  have u21:w2.cell? ⟨w1.heap.size,1,none⟩=some (.int .i64 (y+Num.hu (c*s+d*t) 2048)):=by rw [hc2 _ _ (by simp)];go_simp
  have hz3:w.heap.size+1+1<w2.heap.size:=by omega
  clear hc2 hfz2 hc hfz
  cases hi:Num.inB (x+Num.hu (a*s+b*t) 2048) (y+Num.hu (c*s+d*t) 2048)
  · have hV:Num.placeV a b c d x y s t=(0,0,6):=by unfold Num.placeV;rw [hs,ht,hf,hi];rfl
    have HV:=hide hV
    clear hV
    go_wp2
    refine bodyPost_ret (v:=.tuple #[.agg #[.int .i64 0,.int .i64 0],.int .i64 6]) (by simp [results,Tryz.results33,go_sem,q20,q21]) rfl ⟨by rw [HV.out],?_⟩
    have:=HB3.out
    (repeat any_goals first | exact .refl _ _ | assumption | refine .drew ?_ | refine below_drewN ?_ _ | refine .setCell ?_ ?_ _ | refine .alloc ?_ ?_ _ | omega | (simp <;> omega))
  · have hV:Num.placeV a b c d x y s t=(x+Num.hu (a*s+b*t) 2048,y+Num.hu (c*s+d*t) 2048,0):=by unfold Num.placeV;rw [hs,ht,hf,hi];rfl
    have HV:=hide hV
    clear hV
    go_wp2
    refine bodyPost_ret (v:=.tuple #[.agg #[.int .i64 (x+Num.hu (a*s+b*t) 2048),.int .i64 (y+Num.hu (c*s+d*t) 2048)],.int .i64 0]) (by simp [results,Tryz.results33,go_sem,q20,q21]) rfl ⟨by rw [HV.out],?_⟩
    have:=HB3.out
    (repeat any_goals first | exact .refl _ _ | assumption | refine .drew ?_ | refine below_drewN ?_ _ | refine .setCell ?_ ?_ _ | refine .alloc ?_ ?_ _ | omega | (simp <;> omega))
end Go.Proofs.YtkhcjkmifddlbabGreatDoor
namespace Go.Proofs.YtkhcjkmifddlbabGreatDoor
open Go.RowKit Go.Deep
def mp6 (a b c d x y:Int) (q:Nat):Value:=[Value.int .i64 a,.int .i64 b,.int .i64 c,.int .i64 d,.int .i64 x,.int .i64 y][q]?.getD undef
theorem mp6_row (a b c d x y:Int) (w:World) (t:TypeId):(w.alloc (.cells #[.int .i64 a,.int .i64 b,.int .i64 c,.int .i64 d,.int .i64 x,.int .i64 y] t)).rowIs w.heap.size t 6 (mp6 a b c d x y):=by
  refine World.rowIs_alloc w #[.int .i64 a,.int .i64 b,.int .i64 c,.int .i64 d,.int .i64 x,.int .i64 y] t (mp6 a b c d x y) (fun i hi=>?_)
  have hi:i<6:=hi
  rcases (show i=0∨i=1∨i=2∨i=3∨i=4∨i=5 by omega) with rfl | rfl | rfl | rfl | rfl | rfl <;> rfl
theorem mp6_cells {a b c d x y:Int} {w:World} {p:Nat} {t:TypeId} (h:w.rowIs p t 6 (mp6 a b c d x y)) :
    w.cell? ⟨p,0,none⟩=some (.int .i64 a)∧w.cell? ⟨p,1,none⟩=some (.int .i64 b)∧w.cell? ⟨p,2,none⟩=some (.int .i64 c)∧w.cell? ⟨p,3,none⟩=some (.int .i64 d)∧w.cell? ⟨p,4,none⟩=some (.int .i64 x)∧w.cell? ⟨p,5,none⟩=some (.int .i64 y):=
  ⟨h.cell (i:=0) (by omega),h.cell (i:=1) (by omega),h.cell (i:=2) (by omega),h.cell (i:=3) (by omega),h.cell (i:=4) (by omega),h.cell (i:=5) (by omega)⟩
def tp2 (x y:Int) (q:Nat):Value:=[Value.int .i64 x,.int .i64 y][q]?.getD undef
theorem tp2_row (x y:Int) (w:World) (t:TypeId):(w.alloc (.cells #[.int .i64 x,.int .i64 y] t)).rowIs w.heap.size t 2 (tp2 x y):=by
  refine World.rowIs_alloc w #[.int .i64 x,.int .i64 y] t (tp2 x y) (fun i hi=>?_)
  have hi:i<2:=hi
  rcases (show i=0∨i=1 by omega) with rfl | rfl <;> rfl
theorem tp2_cells {x y:Int} {w:World} {b:Nat} {t:TypeId} (h:w.rowIs b t 2 (tp2 x y)):w.cell? ⟨b,0,none⟩=some (.int .i64 x)∧w.cell? ⟨b,1,none⟩=some (.int .i64 y):=
  ⟨h.cell (i:=0) (by omega),h.cell (i:=1) (by omega)⟩
theorem set9sg {w:World} {b:Nat} {t:TypeId} {f:Nat→Value} (h:w.rowIs b t 9 f) (v0 v1 v2 v3 v4 v5 v6 v7 v8:Int) :
    (((((((((w.setCell ⟨b,0,none⟩ (.int .i64 v0)).setCell ⟨b,1,none⟩ (.int .i64 v1)).setCell ⟨b,2,none⟩ (.int .i64 v2)).setCell ⟨b,3,none⟩ (.int .i64 v3)).setCell ⟨b,4,none⟩ (.int .i64 v4)).setCell ⟨b,5,none⟩ (.int .i64 v5)).setCell ⟨b,6,none⟩ (.int .i64 v6)).setCell ⟨b,7,none⟩ (.int .i64 v7)).setCell ⟨b,8,none⟩ (.int .i64 v8)).rowIs b t 9 (sg9 v0 v1 v2 v3 v4 v5 v6 v7 v8):=by
  refine (((((((((h.set 0 _).set 1 _).set 2 _).set 3 _).set 4 _).set 5 _).set 6 _).set 7 _).set 8 _).congr fun q hq=>?_
  rcases (show q=0∨q=1∨q=2∨q=3∨q=4∨q=5∨q=6∨q=7∨q=8 by omega) with rfl | rfl | rfl | rfl | rfl | rfl | rfl | rfl | rfl <;> rfl
theorem zero_frozen {w:World} {b:Nat} {t:TypeId} {f:Nat→Value} (h:w.rowIs b t 9 f):w.frozen? ⟨b,0,none⟩=false∧w.frozen? ⟨b,1,none⟩=false∧w.frozen? ⟨b,2,none⟩=false∧w.frozen? ⟨b,3,none⟩=false∧w.frozen? ⟨b,4,none⟩=false∧w.frozen? ⟨b,5,none⟩=false∧w.frozen? ⟨b,6,none⟩=false∧w.frozen? ⟨b,7,none⟩=false∧w.frozen? ⟨b,8,none⟩=false:=
  ⟨h.frozen 0,h.frozen 1,h.frozen 2,h.frozen 3,h.frozen 4,h.frozen 5,h.frozen 6,h.frozen 7,h.frozen 8⟩
set_option maxRecDepth 100000 in
theorem segPut_any (k x0 y0 x1 y1 x2 y2 x3 y3 a b c d x y:Int) (w:World) :
    Calls Tryz.prog 164 #[.agg #[.int .i64 k,.int .i64 x0,.int .i64 y0,.int .i64 x1,.int .i64 y1,.int .i64 x2,.int .i64 y2,.int .i64 x3,.int .i64 y3],.agg #[.int .i64 a,.int .i64 b,.int .i64 c,.int .i64 d,.int .i64 x,.int .i64 y]] w fun e w'=>e=.returned (.tuple #[.agg #[.int .i64 (Num.putG (⟨a,b,c,d,x,y⟩:Num.Mp) (⟨k,x0,y0,x1,y1,x2,y2,x3,y3⟩:Num.Sg)).k,.int .i64 (Num.putG (⟨a,b,c,d,x,y⟩:Num.Mp) (⟨k,x0,y0,x1,y1,x2,y2,x3,y3⟩:Num.Sg)).x0,.int .i64 (Num.putG (⟨a,b,c,d,x,y⟩:Num.Mp) (⟨k,x0,y0,x1,y1,x2,y2,x3,y3⟩:Num.Sg)).y0,.int .i64 (Num.putG (⟨a,b,c,d,x,y⟩:Num.Mp) (⟨k,x0,y0,x1,y1,x2,y2,x3,y3⟩:Num.Sg)).x1,.int .i64 (Num.putG (⟨a,b,c,d,x,y⟩:Num.Mp) (⟨k,x0,y0,x1,y1,x2,y2,x3,y3⟩:Num.Sg)).y1,.int .i64 (Num.putG (⟨a,b,c,d,x,y⟩:Num.Mp) (⟨k,x0,y0,x1,y1,x2,y2,x3,y3⟩:Num.Sg)).x2,.int .i64 (Num.putG (⟨a,b,c,d,x,y⟩:Num.Mp) (⟨k,x0,y0,x1,y1,x2,y2,x3,y3⟩:Num.Sg)).y2,.int .i64 (Num.putG (⟨a,b,c,d,x,y⟩:Num.Mp) (⟨k,x0,y0,x1,y1,x2,y2,x3,y3⟩:Num.Sg)).x3,.int .i64 (Num.putG (⟨a,b,c,d,x,y⟩:Num.Mp) (⟨k,x0,y0,x1,y1,x2,y2,x3,y3⟩:Num.Sg)).y3],.int .i64 (Num.putE (⟨a,b,c,d,x,y⟩:Num.Mp) (⟨k,x0,y0,x1,y1,x2,y2,x3,y3⟩:Num.Sg))])∧Below w.heap.size w w':=by
  obtain ⟨Q0,hQ0⟩:∃Q,Q=Num.placeV a b c d x y x0 y0:=⟨_,rfl⟩
  obtain ⟨Q1,hQ1⟩:∃Q,Q=Num.placeV a b c d x y x1 y1:=⟨_,rfl⟩
  obtain ⟨Q2,hQ2⟩:∃Q,Q=Num.placeV a b c d x y x2 y2:=⟨_,rfl⟩
  obtain ⟨Q3,hQ3⟩:∃Q,Q=Num.placeV a b c d x y x3 y3:=⟨_,rfl⟩
  have HOk:Hid (Num.putOk (⟨a,b,c,d,x,y⟩:Num.Mp) (⟨k,x0,y0,x1,y1,x2,y2,x3,y3⟩:Num.Sg)=(Q0.2.2 == 0 && Q1.2.2 == 0 && Q2.2.2 == 0 && Q3.2.2 == 0)):=by unfold Hid;rw [hQ0,hQ1,hQ2,hQ3];rfl
  have HVv:Hid (Num.putV (⟨a,b,c,d,x,y⟩:Num.Mp) (⟨k,x0,y0,x1,y1,x2,y2,x3,y3⟩:Num.Sg)=⟨k,Q0.1,Q0.2.1,Q1.1,Q1.2.1,Q2.1,Q2.2.1,Q3.1,Q3.2.1⟩):=by unfold Hid;rw [hQ0,hQ1,hQ2,hQ3];rfl
  have HNo:Hid (Num.putOk (⟨a,b,c,d,x,y⟩:Num.Mp) (⟨k,x0,y0,x1,y1,x2,y2,x3,y3⟩:Num.Sg)=false→Num.putG (⟨a,b,c,d,x,y⟩:Num.Mp) (⟨k,x0,y0,x1,y1,x2,y2,x3,y3⟩:Num.Sg)=⟨0,0,0,0,0,0,0,0,0⟩∧Num.putE (⟨a,b,c,d,x,y⟩:Num.Mp) (⟨k,x0,y0,x1,y1,x2,y2,x3,y3⟩:Num.Sg)=6):=fun h=>by unfold Num.putG Num.putE;rw [h];exact ⟨rfl,rfl⟩
  have HYe:Hid (Num.putOk (⟨a,b,c,d,x,y⟩:Num.Mp) (⟨k,x0,y0,x1,y1,x2,y2,x3,y3⟩:Num.Sg)=true→Num.putG (⟨a,b,c,d,x,y⟩:Num.Mp) (⟨k,x0,y0,x1,y1,x2,y2,x3,y3⟩:Num.Sg)=Num.putV (⟨a,b,c,d,x,y⟩:Num.Mp) (⟨k,x0,y0,x1,y1,x2,y2,x3,y3⟩:Num.Sg)∧Num.putE (⟨a,b,c,d,x,y⟩:Num.Mp) (⟨k,x0,y0,x1,y1,x2,y2,x3,y3⟩:Num.Sg)=0):=fun h=>by unfold Num.putG Num.putE;rw [h];exact ⟨rfl,rfl⟩
  obtain ⟨PG,hPG⟩:∃PG,PG=Num.putG (⟨a,b,c,d,x,y⟩:Num.Mp) (⟨k,x0,y0,x1,y1,x2,y2,x3,y3⟩:Num.Sg):=⟨_,rfl⟩
  obtain ⟨PE,hPE⟩:∃PE,PE=Num.putE (⟨a,b,c,d,x,y⟩:Num.Mp) (⟨k,x0,y0,x1,y1,x2,y2,x3,y3⟩:Num.Sg):=⟨_,rfl⟩
  rw [←hPG,←hPE] at HNo HYe ⊢
  rw [HOk.out] at HNo HYe
  rw [HVv.out] at HYe
  have HQ0:=hide hQ0
  have HQ1:=hide hQ1
  have HQ2:=hide hQ2
  have HQ3:=hide hQ3
  clear hQ0 hQ1 hQ2 hQ3 hPG hPE HOk HVv
  have HR0:=hide (sg9_row k x0 y0 x1 y1 x2 y2 x3 y3 w 44)
  have HM0:Hid (((w.alloc (.cells #[.int .i64 k,.int .i64 x0,.int .i64 y0,.int .i64 x1,.int .i64 y1,.int .i64 x2,.int .i64 y2,.int .i64 x3,.int .i64 y3] 44)).alloc (.cells #[.int .i64 a,.int .i64 b,.int .i64 c,.int .i64 d,.int .i64 x,.int .i64 y] 40)).rowIs (w.heap.size+1) 40 6 (mp6 a b c d x y)):=by
    have h:=mp6_row a b c d x y (w.alloc (.cells #[.int .i64 k,.int .i64 x0,.int .i64 y0,.int .i64 x1,.int .i64 y1,.int .i64 x2,.int .i64 y2,.int .i64 x3,.int .i64 y3] 44)) 40
    rw [nblk_alloc] at h
    exact h
  have HZ0:Hid ((((w.alloc (.cells #[.int .i64 k,.int .i64 x0,.int .i64 y0,.int .i64 x1,.int .i64 y1,.int .i64 x2,.int .i64 y2,.int .i64 x3,.int .i64 y3] 44)).alloc (.cells #[.int .i64 a,.int .i64 b,.int .i64 c,.int .i64 d,.int .i64 x,.int .i64 y] 40)).alloc (.cells #[.int .i64 0,.int .i64 0,.int .i64 0,.int .i64 0,.int .i64 0,.int .i64 0,.int .i64 0,.int .i64 0,.int .i64 0] 44)).rowIs (w.heap.size+1+1) 44 9 (sg9 0 0 0 0 0 0 0 0 0)):=by
    have h:=sg9_row 0 0 0 0 0 0 0 0 0 ((w.alloc (.cells #[.int .i64 k,.int .i64 x0,.int .i64 y0,.int .i64 x1,.int .i64 y1,.int .i64 x2,.int .i64 y2,.int .i64 x3,.int .i64 y3] 44)).alloc (.cells #[.int .i64 a,.int .i64 b,.int .i64 c,.int .i64 d,.int .i64 x,.int .i64 y] 40)) 44
    rw [nblk_alloc,nblk_alloc] at h
    exact h
  go_enter Tryz.func164,Tryz.ntmps164
  go_wp2_with fail
  refine (place_any _ _ _ _ _ _ _ _ _).mono ?_
  rw [←HQ0.out]
  rintro e w1 ⟨rfl,hb⟩
  have hz1:w.heap.size+1+1<w1.heap.size:=by have:=hb.size;simp at this;omega
  have HR1:=hide (row_below ((HR0.out.alloc _).alloc _) hb (by simp;omega))
  have HM1:=hide (row_below (HM0.out.alloc _) hb (by simp))
  have HZ1:=hide (row_below HZ0.out hb (by simp))
  have HB1:Hid (Below w.heap.size w w1):=Below.trans (by (repeat any_goals first | exact .refl _ _ | assumption | refine .drew ?_ | refine below_drewN ?_ _ | refine .setCell ?_ ?_ _ | refine .alloc ?_ ?_ _ | omega | (simp <;> omega))) (hb.mono (by simp;omega))
  have ya1:w.heap.size<w1.heap.size:=by omega
  have yb1:w.heap.size+1<w1.heap.size:=by omega
  have yc1:w.heap.size+1+1<w1.heap.size:=by omega
  clear hb
  obtain ⟨c0,c1,c2,c3,c4,c5,c6,c7,c8⟩:=sg9_cells HR1.out
  obtain ⟨d0,d1,d2,d3,d4,d5⟩:=mp6_cells HM1.out
  go_wp2_with fail
  clear c0 c1 c2 c3 c4 c5 c6 c7 c8 d0 d1 d2 d3 d4 d5
  refine (place_any _ _ _ _ _ _ _ _ _).mono ?_
  rw [←HQ1.out]
  rintro e w2 ⟨rfl,hb⟩
  have hz2:w1.heap.size<w2.heap.size:=by have:=hb.size;simp at this;omega
  have HR2:=hide (row_below (HR1.out.alloc (.cells #[.int .i64 Q0.1,.int .i64 Q0.2.1] 42)) hb (by simp;omega))
  have HM2:=hide (row_below (HM1.out.alloc (.cells #[.int .i64 Q0.1,.int .i64 Q0.2.1] 42)) hb (by simp;omega))
  have HZ2:=hide (row_below (HZ1.out.alloc (.cells #[.int .i64 Q0.1,.int .i64 Q0.2.1] 42)) hb (by simp;omega))
  have HB2:Hid (Below w.heap.size w w2):=HB1.out.trans (((Below.refl _ _).alloc (Nat.le_refl _) (.cells #[.int .i64 Q0.1,.int .i64 Q0.2.1] 42)).trans (hb.mono (by simp)) |>.mono (by omega))
  have HS1_2:=hide (row_below (tp2_row Q0.1 Q0.2.1 w1 42) hb (by simp))
  have ya2:w.heap.size<w2.heap.size:=by omega
  have yb2:w.heap.size+1<w2.heap.size:=by omega
  have yc2:w.heap.size+1+1<w2.heap.size:=by omega
  clear hb
  obtain ⟨c0,c1,c2,c3,c4,c5,c6,c7,c8⟩:=sg9_cells HR2.out
  obtain ⟨d0,d1,d2,d3,d4,d5⟩:=mp6_cells HM2.out
  go_wp2_with fail
  clear c0 c1 c2 c3 c4 c5 c6 c7 c8 d0 d1 d2 d3 d4 d5
  refine (place_any _ _ _ _ _ _ _ _ _).mono ?_
  rw [←HQ2.out]
  rintro e w3 ⟨rfl,hb⟩
  have hz3:w2.heap.size<w3.heap.size:=by have:=hb.size;simp at this;omega
  have HR3:=hide (row_below (HR2.out.alloc (.cells #[.int .i64 Q1.1,.int .i64 Q1.2.1] 42)) hb (by simp;omega))
  have HM3:=hide (row_below (HM2.out.alloc (.cells #[.int .i64 Q1.1,.int .i64 Q1.2.1] 42)) hb (by simp;omega))
  have HZ3:=hide (row_below (HZ2.out.alloc (.cells #[.int .i64 Q1.1,.int .i64 Q1.2.1] 42)) hb (by simp;omega))
  have HB3:Hid (Below w.heap.size w w3):=HB2.out.trans (((Below.refl _ _).alloc (Nat.le_refl _) (.cells #[.int .i64 Q1.1,.int .i64 Q1.2.1] 42)).trans (hb.mono (by simp)) |>.mono (by omega))
  have HS1_3:=hide (row_below (HS1_2.out.alloc (.cells #[.int .i64 Q1.1,.int .i64 Q1.2.1] 42)) hb (by simp;omega))
  have HS2_3:=hide (row_below (tp2_row Q1.1 Q1.2.1 w2 42) hb (by simp))
  have ya3:w.heap.size<w3.heap.size:=by omega
  have yb3:w.heap.size+1<w3.heap.size:=by omega
  have yc3:w.heap.size+1+1<w3.heap.size:=by omega
  have yd1_3:w1.heap.size<w3.heap.size:=by omega
  clear hb
  obtain ⟨c0,c1,c2,c3,c4,c5,c6,c7,c8⟩:=sg9_cells HR3.out
  obtain ⟨d0,d1,d2,d3,d4,d5⟩:=mp6_cells HM3.out
  go_wp2_with fail
  clear c0 c1 c2 c3 c4 c5 c6 c7 c8 d0 d1 d2 d3 d4 d5
  refine (place_any _ _ _ _ _ _ _ _ _).mono ?_
  rw [←HQ3.out]
  rintro e w4 ⟨rfl,hb⟩
  have hz4:w3.heap.size<w4.heap.size:=by have:=hb.size;simp at this;omega
  have HR4:=hide (row_below (HR3.out.alloc (.cells #[.int .i64 Q2.1,.int .i64 Q2.2.1] 42)) hb (by simp;omega))
  have HM4:=hide (row_below (HM3.out.alloc (.cells #[.int .i64 Q2.1,.int .i64 Q2.2.1] 42)) hb (by simp;omega))
  have HZ4:=hide (row_below (HZ3.out.alloc (.cells #[.int .i64 Q2.1,.int .i64 Q2.2.1] 42)) hb (by simp;omega))
  have HB4:Hid (Below w.heap.size w w4):=HB3.out.trans (((Below.refl _ _).alloc (Nat.le_refl _) (.cells #[.int .i64 Q2.1,.int .i64 Q2.2.1] 42)).trans (hb.mono (by simp)) |>.mono (by omega))
  have HS1_4:=hide (row_below (HS1_3.out.alloc (.cells #[.int .i64 Q2.1,.int .i64 Q2.2.1] 42)) hb (by simp;omega))
  have HS2_4:=hide (row_below (HS2_3.out.alloc (.cells #[.int .i64 Q2.1,.int .i64 Q2.2.1] 42)) hb (by simp;omega))
  have HS3_4:=hide (row_below (tp2_row Q2.1 Q2.2.1 w3 42) hb (by simp))
  have ya4:w.heap.size<w4.heap.size:=by omega
  have yb4:w.heap.size+1<w4.heap.size:=by omega
  have yc4:w.heap.size+1+1<w4.heap.size:=by omega
  have yd1_4:w1.heap.size<w4.heap.size:=by omega
  have yd2_4:w2.heap.size<w4.heap.size:=by omega
  clear hb
  obtain ⟨c0,c1,c2,c3,c4,c5,c6,c7,c8⟩:=sg9_cells HR4.out
  obtain ⟨r0,r1,r2,r3,r4,r5,r6,r7,r8⟩:=sg9_cells HZ4.out
  obtain ⟨z0,z1,z2,z3,z4,z5,z6,z7,z8⟩:=zero_frozen HZ4.out
  obtain ⟨s10,s11⟩:=tp2_cells HS1_4.out
  obtain ⟨s20,s21⟩:=tp2_cells HS2_4.out
  obtain ⟨s30,s31⟩:=tp2_cells HS3_4.out
  by_cases h0:Q0.2.2=0
  case neg=>
    obtain ⟨rfl,rfl⟩:=HNo.out (by simp [h0])
    have t0:(Q0.2.2 != 0)=true:=by simpa using h0
    clear h0 HYe HNo
    go_wp2
    obtain ⟨wF,hwF⟩:∃wF,wF=(((((((((w4.setCell ⟨w.heap.size+1+1,0,none⟩ (.int .i64 0)).setCell ⟨w.heap.size+1+1,1,none⟩ (.int .i64 0)).setCell ⟨w.heap.size+1+1,2,none⟩ (.int .i64 0)).setCell ⟨w.heap.size+1+1,3,none⟩ (.int .i64 0)).setCell ⟨w.heap.size+1+1,4,none⟩ (.int .i64 0)).setCell ⟨w.heap.size+1+1,5,none⟩ (.int .i64 0)).setCell ⟨w.heap.size+1+1,6,none⟩ (.int .i64 0)).setCell ⟨w.heap.size+1+1,7,none⟩ (.int .i64 0)).setCell ⟨w.heap.size+1+1,8,none⟩ (.int .i64 0)).alloc (.cells #[.int .i64 Q3.1,.int .i64 Q3.2.1] 42):=⟨_,rfl⟩
    rw [←hwF]
    have hRF:wF.rowIs (w.heap.size+1+1) 44 9 (sg9 0 0 0 0 0 0 0 0 0):=by rw [hwF];exact (set9sg HZ4.out 0 0 0 0 0 0 0 0 0).alloc _
    have hp:∀q:Nat,w.heap.size≤(⟨w.heap.size+1+1,q,none⟩:Addr).block:=fun q=>by show w.heap.size≤w.heap.size+1+1;omega
    have hBF:Below w.heap.size w wF:=by rw [hwF];exact (((((((((HB4.out.setCell (hp 0) _).setCell (hp 1) _).setCell (hp 2) _).setCell (hp 3) _).setCell (hp 4) _).setCell (hp 5) _).setCell (hp 6) _).setCell (hp 7) _).setCell (hp 8) _).alloc (by simp;omega) _
    obtain ⟨g0,g1,g2,g3,g4,g5,g6,g7,g8⟩:=sg9_cells hRF
    exact bodyPost_ret (v:=.tuple #[.agg #[.int .i64 0,.int .i64 0,.int .i64 0,.int .i64 0,.int .i64 0,.int .i64 0,.int .i64 0,.int .i64 0,.int .i64 0],.int .i64 6]) (by simp [results,Tryz.results164,go_sem,g0,g1,g2,g3,g4,g5,g6,g7,g8]) rfl ⟨rfl,hBF⟩
  by_cases h1:Q1.2.2=0
  case neg=>
    obtain ⟨rfl,rfl⟩:=HNo.out (by simp [h0,h1])
    have t1:(Q1.2.2 != 0)=true:=by simpa using h1
    have t0:(Q0.2.2 != 0)=false:=by simpa using h0
    clear h0 h1 HYe HNo
    go_wp2
    obtain ⟨wF,hwF⟩:∃wF,wF=(((((((((w4.setCell ⟨w.heap.size+1+1,0,none⟩ (.int .i64 0)).setCell ⟨w.heap.size+1+1,1,none⟩ (.int .i64 0)).setCell ⟨w.heap.size+1+1,2,none⟩ (.int .i64 0)).setCell ⟨w.heap.size+1+1,3,none⟩ (.int .i64 0)).setCell ⟨w.heap.size+1+1,4,none⟩ (.int .i64 0)).setCell ⟨w.heap.size+1+1,5,none⟩ (.int .i64 0)).setCell ⟨w.heap.size+1+1,6,none⟩ (.int .i64 0)).setCell ⟨w.heap.size+1+1,7,none⟩ (.int .i64 0)).setCell ⟨w.heap.size+1+1,8,none⟩ (.int .i64 0)).alloc (.cells #[.int .i64 Q3.1,.int .i64 Q3.2.1] 42):=⟨_,rfl⟩
    rw [←hwF]
    have hRF:wF.rowIs (w.heap.size+1+1) 44 9 (sg9 0 0 0 0 0 0 0 0 0):=by rw [hwF];exact (set9sg HZ4.out 0 0 0 0 0 0 0 0 0).alloc _
    have hp:∀q:Nat,w.heap.size≤(⟨w.heap.size+1+1,q,none⟩:Addr).block:=fun q=>by show w.heap.size≤w.heap.size+1+1;omega
    have hBF:Below w.heap.size w wF:=by rw [hwF];exact (((((((((HB4.out.setCell (hp 0) _).setCell (hp 1) _).setCell (hp 2) _).setCell (hp 3) _).setCell (hp 4) _).setCell (hp 5) _).setCell (hp 6) _).setCell (hp 7) _).setCell (hp 8) _).alloc (by simp;omega) _
    obtain ⟨g0,g1,g2,g3,g4,g5,g6,g7,g8⟩:=sg9_cells hRF
    exact bodyPost_ret (v:=.tuple #[.agg #[.int .i64 0,.int .i64 0,.int .i64 0,.int .i64 0,.int .i64 0,.int .i64 0,.int .i64 0,.int .i64 0,.int .i64 0],.int .i64 6]) (by simp [results,Tryz.results164,go_sem,g0,g1,g2,g3,g4,g5,g6,g7,g8]) rfl ⟨rfl,hBF⟩
  by_cases h2:Q2.2.2=0
  case neg=>
    obtain ⟨rfl,rfl⟩:=HNo.out (by simp [h0,h1,h2])
    have t2:(Q2.2.2 != 0)=true:=by simpa using h2
    have t0:(Q0.2.2 != 0)=false:=by simpa using h0
    have t1:(Q1.2.2 != 0)=false:=by simpa using h1
    clear h0 h1 h2 HYe HNo
    go_wp2
    obtain ⟨wF,hwF⟩:∃wF,wF=(((((((((w4.setCell ⟨w.heap.size+1+1,0,none⟩ (.int .i64 0)).setCell ⟨w.heap.size+1+1,1,none⟩ (.int .i64 0)).setCell ⟨w.heap.size+1+1,2,none⟩ (.int .i64 0)).setCell ⟨w.heap.size+1+1,3,none⟩ (.int .i64 0)).setCell ⟨w.heap.size+1+1,4,none⟩ (.int .i64 0)).setCell ⟨w.heap.size+1+1,5,none⟩ (.int .i64 0)).setCell ⟨w.heap.size+1+1,6,none⟩ (.int .i64 0)).setCell ⟨w.heap.size+1+1,7,none⟩ (.int .i64 0)).setCell ⟨w.heap.size+1+1,8,none⟩ (.int .i64 0)).alloc (.cells #[.int .i64 Q3.1,.int .i64 Q3.2.1] 42):=⟨_,rfl⟩
    rw [←hwF]
    have hRF:wF.rowIs (w.heap.size+1+1) 44 9 (sg9 0 0 0 0 0 0 0 0 0):=by rw [hwF];exact (set9sg HZ4.out 0 0 0 0 0 0 0 0 0).alloc _
    have hp:∀q:Nat,w.heap.size≤(⟨w.heap.size+1+1,q,none⟩:Addr).block:=fun q=>by show w.heap.size≤w.heap.size+1+1;omega
    have hBF:Below w.heap.size w wF:=by rw [hwF];exact (((((((((HB4.out.setCell (hp 0) _).setCell (hp 1) _).setCell (hp 2) _).setCell (hp 3) _).setCell (hp 4) _).setCell (hp 5) _).setCell (hp 6) _).setCell (hp 7) _).setCell (hp 8) _).alloc (by simp;omega) _
    obtain ⟨g0,g1,g2,g3,g4,g5,g6,g7,g8⟩:=sg9_cells hRF
    exact bodyPost_ret (v:=.tuple #[.agg #[.int .i64 0,.int .i64 0,.int .i64 0,.int .i64 0,.int .i64 0,.int .i64 0,.int .i64 0,.int .i64 0,.int .i64 0],.int .i64 6]) (by simp [results,Tryz.results164,go_sem,g0,g1,g2,g3,g4,g5,g6,g7,g8]) rfl ⟨rfl,hBF⟩
  by_cases h3:Q3.2.2=0
  case neg=>
    obtain ⟨rfl,rfl⟩:=HNo.out (by simp [h0,h1,h2,h3])
    have t3:(Q3.2.2 != 0)=true:=by simpa using h3
    have t0:(Q0.2.2 != 0)=false:=by simpa using h0
    have t1:(Q1.2.2 != 0)=false:=by simpa using h1
    have t2:(Q2.2.2 != 0)=false:=by simpa using h2
    clear h0 h1 h2 h3 HYe HNo
    go_wp2
    obtain ⟨wF,hwF⟩:∃wF,wF=(((((((((w4.setCell ⟨w.heap.size+1+1,0,none⟩ (.int .i64 0)).setCell ⟨w.heap.size+1+1,1,none⟩ (.int .i64 0)).setCell ⟨w.heap.size+1+1,2,none⟩ (.int .i64 0)).setCell ⟨w.heap.size+1+1,3,none⟩ (.int .i64 0)).setCell ⟨w.heap.size+1+1,4,none⟩ (.int .i64 0)).setCell ⟨w.heap.size+1+1,5,none⟩ (.int .i64 0)).setCell ⟨w.heap.size+1+1,6,none⟩ (.int .i64 0)).setCell ⟨w.heap.size+1+1,7,none⟩ (.int .i64 0)).setCell ⟨w.heap.size+1+1,8,none⟩ (.int .i64 0)).alloc (.cells #[.int .i64 Q3.1,.int .i64 Q3.2.1] 42):=⟨_,rfl⟩
    rw [←hwF]
    have hRF:wF.rowIs (w.heap.size+1+1) 44 9 (sg9 0 0 0 0 0 0 0 0 0):=by rw [hwF];exact (set9sg HZ4.out 0 0 0 0 0 0 0 0 0).alloc _
    have hp:∀q:Nat,w.heap.size≤(⟨w.heap.size+1+1,q,none⟩:Addr).block:=fun q=>by show w.heap.size≤w.heap.size+1+1;omega
    have hBF:Below w.heap.size w wF:=by rw [hwF];exact (((((((((HB4.out.setCell (hp 0) _).setCell (hp 1) _).setCell (hp 2) _).setCell (hp 3) _).setCell (hp 4) _).setCell (hp 5) _).setCell (hp 6) _).setCell (hp 7) _).setCell (hp 8) _).alloc (by simp;omega) _
    obtain ⟨g0,g1,g2,g3,g4,g5,g6,g7,g8⟩:=sg9_cells hRF
    exact bodyPost_ret (v:=.tuple #[.agg #[.int .i64 0,.int .i64 0,.int .i64 0,.int .i64 0,.int .i64 0,.int .i64 0,.int .i64 0,.int .i64 0,.int .i64 0],.int .i64 6]) (by simp [results,Tryz.results164,go_sem,g0,g1,g2,g3,g4,g5,g6,g7,g8]) rfl ⟨rfl,hBF⟩
  · obtain ⟨rfl,rfl⟩:=HYe.out (by simp [h0,h1,h2,h3])
    have t0:(Q0.2.2 != 0)=false:=by simpa using h0
    have t1:(Q1.2.2 != 0)=false:=by simpa using h1
    have t2:(Q2.2.2 != 0)=false:=by simpa using h2
    have t3:(Q3.2.2 != 0)=false:=by simpa using h3
    clear h0 h1 h2 h3 HYe HNo
    go_wp2
    obtain ⟨wF,hwF⟩:∃wF,wF=(((((((((w4.setCell ⟨w.heap.size+1+1,0,none⟩ (.int .i64 k)).setCell ⟨w.heap.size+1+1,1,none⟩ (.int .i64 Q0.1)).setCell ⟨w.heap.size+1+1,2,none⟩ (.int .i64 Q0.2.1)).setCell ⟨w.heap.size+1+1,3,none⟩ (.int .i64 Q1.1)).setCell ⟨w.heap.size+1+1,4,none⟩ (.int .i64 Q1.2.1)).setCell ⟨w.heap.size+1+1,5,none⟩ (.int .i64 Q2.1)).setCell ⟨w.heap.size+1+1,6,none⟩ (.int .i64 Q2.2.1)).setCell ⟨w.heap.size+1+1,7,none⟩ (.int .i64 Q3.1)).setCell ⟨w.heap.size+1+1,8,none⟩ (.int .i64 Q3.2.1)).alloc (.cells #[.int .i64 Q3.1,.int .i64 Q3.2.1] 42):=⟨_,rfl⟩
    rw [←hwF]
    have hRF:wF.rowIs (w.heap.size+1+1) 44 9 (sg9 k Q0.1 Q0.2.1 Q1.1 Q1.2.1 Q2.1 Q2.2.1 Q3.1 Q3.2.1):=by rw [hwF];exact (set9sg HZ4.out k Q0.1 Q0.2.1 Q1.1 Q1.2.1 Q2.1 Q2.2.1 Q3.1 Q3.2.1).alloc _
    have hp:∀q:Nat,w.heap.size≤(⟨w.heap.size+1+1,q,none⟩:Addr).block:=fun q=>by show w.heap.size≤w.heap.size+1+1;omega
    have hBF:Below w.heap.size w wF:=by rw [hwF];exact (((((((((HB4.out.setCell (hp 0) _).setCell (hp 1) _).setCell (hp 2) _).setCell (hp 3) _).setCell (hp 4) _).setCell (hp 5) _).setCell (hp 6) _).setCell (hp 7) _).setCell (hp 8) _).alloc (by simp;omega) _
    obtain ⟨g0,g1,g2,g3,g4,g5,g6,g7,g8⟩:=sg9_cells hRF
    exact bodyPost_ret (v:=.tuple #[.agg #[.int .i64 k,.int .i64 Q0.1,.int .i64 Q0.2.1,.int .i64 Q1.1,.int .i64 Q1.2.1,.int .i64 Q2.1,.int .i64 Q2.2.1,.int .i64 Q3.1,.int .i64 Q3.2.1],.int .i64 0]) (by simp [results,Tryz.results164,go_sem,g0,g1,g2,g3,g4,g5,g6,g7,g8]) rfl ⟨rfl,hBF⟩
set_option maxRecDepth 100000 in
theorem put_any (k x0 y0 x1 y1 x2 y2 x3 y3 a b c d x y:Int) (w:World) :
    Calls Tryz.prog 83 #[.agg #[.int .i64 k,.int .i64 x0,.int .i64 y0,.int .i64 x1,.int .i64 y1,.int .i64 x2,.int .i64 y2,.int .i64 x3,.int .i64 y3],.agg #[.int .i64 a,.int .i64 b,.int .i64 c,.int .i64 d,.int .i64 x,.int .i64 y]] w fun e w'=>e=.returned (.tuple #[.agg #[.int .i64 (Num.putG (⟨a,b,c,d,x,y⟩:Num.Mp) (⟨k,x0,y0,x1,y1,x2,y2,x3,y3⟩:Num.Sg)).k,.int .i64 (Num.putG (⟨a,b,c,d,x,y⟩:Num.Mp) (⟨k,x0,y0,x1,y1,x2,y2,x3,y3⟩:Num.Sg)).x0,.int .i64 (Num.putG (⟨a,b,c,d,x,y⟩:Num.Mp) (⟨k,x0,y0,x1,y1,x2,y2,x3,y3⟩:Num.Sg)).y0,.int .i64 (Num.putG (⟨a,b,c,d,x,y⟩:Num.Mp) (⟨k,x0,y0,x1,y1,x2,y2,x3,y3⟩:Num.Sg)).x1,.int .i64 (Num.putG (⟨a,b,c,d,x,y⟩:Num.Mp) (⟨k,x0,y0,x1,y1,x2,y2,x3,y3⟩:Num.Sg)).y1,.int .i64 (Num.putG (⟨a,b,c,d,x,y⟩:Num.Mp) (⟨k,x0,y0,x1,y1,x2,y2,x3,y3⟩:Num.Sg)).x2,.int .i64 (Num.putG (⟨a,b,c,d,x,y⟩:Num.Mp) (⟨k,x0,y0,x1,y1,x2,y2,x3,y3⟩:Num.Sg)).y2,.int .i64 (Num.putG (⟨a,b,c,d,x,y⟩:Num.Mp) (⟨k,x0,y0,x1,y1,x2,y2,x3,y3⟩:Num.Sg)).x3,.int .i64 (Num.putG (⟨a,b,c,d,x,y⟩:Num.Mp) (⟨k,x0,y0,x1,y1,x2,y2,x3,y3⟩:Num.Sg)).y3],.int .i64 (Num.putE (⟨a,b,c,d,x,y⟩:Num.Mp) (⟨k,x0,y0,x1,y1,x2,y2,x3,y3⟩:Num.Sg))])∧Below w.heap.size w w':=by
  obtain ⟨Q0,hQ0⟩:∃Q,Q=Num.placeV a b c d x y x0 y0:=⟨_,rfl⟩
  obtain ⟨Q1,hQ1⟩:∃Q,Q=Num.placeV a b c d x y x1 y1:=⟨_,rfl⟩
  obtain ⟨Q2,hQ2⟩:∃Q,Q=Num.placeV a b c d x y x2 y2:=⟨_,rfl⟩
  obtain ⟨Q3,hQ3⟩:∃Q,Q=Num.placeV a b c d x y x3 y3:=⟨_,rfl⟩
  have HOk:Hid (Num.putOk (⟨a,b,c,d,x,y⟩:Num.Mp) (⟨k,x0,y0,x1,y1,x2,y2,x3,y3⟩:Num.Sg)=(Q0.2.2 == 0 && Q1.2.2 == 0 && Q2.2.2 == 0 && Q3.2.2 == 0)):=by unfold Hid;rw [hQ0,hQ1,hQ2,hQ3];rfl
  have HVv:Hid (Num.putV (⟨a,b,c,d,x,y⟩:Num.Mp) (⟨k,x0,y0,x1,y1,x2,y2,x3,y3⟩:Num.Sg)=⟨k,Q0.1,Q0.2.1,Q1.1,Q1.2.1,Q2.1,Q2.2.1,Q3.1,Q3.2.1⟩):=by unfold Hid;rw [hQ0,hQ1,hQ2,hQ3];rfl
  have HNo:Hid (Num.putOk (⟨a,b,c,d,x,y⟩:Num.Mp) (⟨k,x0,y0,x1,y1,x2,y2,x3,y3⟩:Num.Sg)=false→Num.putG (⟨a,b,c,d,x,y⟩:Num.Mp) (⟨k,x0,y0,x1,y1,x2,y2,x3,y3⟩:Num.Sg)=⟨0,0,0,0,0,0,0,0,0⟩∧Num.putE (⟨a,b,c,d,x,y⟩:Num.Mp) (⟨k,x0,y0,x1,y1,x2,y2,x3,y3⟩:Num.Sg)=6):=fun h=>by unfold Num.putG Num.putE;rw [h];exact ⟨rfl,rfl⟩
  have HYe:Hid (Num.putOk (⟨a,b,c,d,x,y⟩:Num.Mp) (⟨k,x0,y0,x1,y1,x2,y2,x3,y3⟩:Num.Sg)=true→Num.putG (⟨a,b,c,d,x,y⟩:Num.Mp) (⟨k,x0,y0,x1,y1,x2,y2,x3,y3⟩:Num.Sg)=Num.putV (⟨a,b,c,d,x,y⟩:Num.Mp) (⟨k,x0,y0,x1,y1,x2,y2,x3,y3⟩:Num.Sg)∧Num.putE (⟨a,b,c,d,x,y⟩:Num.Mp) (⟨k,x0,y0,x1,y1,x2,y2,x3,y3⟩:Num.Sg)=0):=fun h=>by unfold Num.putG Num.putE;rw [h];exact ⟨rfl,rfl⟩
  obtain ⟨PG,hPG⟩:∃PG,PG=Num.putG (⟨a,b,c,d,x,y⟩:Num.Mp) (⟨k,x0,y0,x1,y1,x2,y2,x3,y3⟩:Num.Sg):=⟨_,rfl⟩
  obtain ⟨PE,hPE⟩:∃PE,PE=Num.putE (⟨a,b,c,d,x,y⟩:Num.Mp) (⟨k,x0,y0,x1,y1,x2,y2,x3,y3⟩:Num.Sg):=⟨_,rfl⟩
  rw [←hPG,←hPE] at HNo HYe ⊢
  rw [HOk.out] at HNo HYe
  rw [HVv.out] at HYe
  have HQ0:=hide hQ0
  have HQ1:=hide hQ1
  have HQ2:=hide hQ2
  have HQ3:=hide hQ3
  clear hQ0 hQ1 hQ2 hQ3 hPG hPE HOk HVv
  have HR0:=hide (sg9_row k x0 y0 x1 y1 x2 y2 x3 y3 w 44)
  have HM0:Hid (((w.alloc (.cells #[.int .i64 k,.int .i64 x0,.int .i64 y0,.int .i64 x1,.int .i64 y1,.int .i64 x2,.int .i64 y2,.int .i64 x3,.int .i64 y3] 44)).alloc (.cells #[.int .i64 a,.int .i64 b,.int .i64 c,.int .i64 d,.int .i64 x,.int .i64 y] 40)).rowIs (w.heap.size+1) 40 6 (mp6 a b c d x y)):=by
    have h:=mp6_row a b c d x y (w.alloc (.cells #[.int .i64 k,.int .i64 x0,.int .i64 y0,.int .i64 x1,.int .i64 y1,.int .i64 x2,.int .i64 y2,.int .i64 x3,.int .i64 y3] 44)) 40
    rw [nblk_alloc] at h
    exact h
  have HZ0:Hid ((((w.alloc (.cells #[.int .i64 k,.int .i64 x0,.int .i64 y0,.int .i64 x1,.int .i64 y1,.int .i64 x2,.int .i64 y2,.int .i64 x3,.int .i64 y3] 44)).alloc (.cells #[.int .i64 a,.int .i64 b,.int .i64 c,.int .i64 d,.int .i64 x,.int .i64 y] 40)).alloc (.cells #[.int .i64 0,.int .i64 0,.int .i64 0,.int .i64 0,.int .i64 0,.int .i64 0,.int .i64 0,.int .i64 0,.int .i64 0] 44)).rowIs (w.heap.size+1+1) 44 9 (sg9 0 0 0 0 0 0 0 0 0)):=by
    have h:=sg9_row 0 0 0 0 0 0 0 0 0 ((w.alloc (.cells #[.int .i64 k,.int .i64 x0,.int .i64 y0,.int .i64 x1,.int .i64 y1,.int .i64 x2,.int .i64 y2,.int .i64 x3,.int .i64 y3] 44)).alloc (.cells #[.int .i64 a,.int .i64 b,.int .i64 c,.int .i64 d,.int .i64 x,.int .i64 y] 40)) 44
    rw [nblk_alloc,nblk_alloc] at h
    exact h
  go_enter Tryz.func83,Tryz.ntmps83
  go_wp2_with fail
  refine (refPlace_any _ _ _ _ _ _ _ _ _).mono ?_
  rw [←HQ0.out]
  rintro e w1 ⟨rfl,hb⟩
  have hz1:w.heap.size+1+1<w1.heap.size:=by have:=hb.size;simp at this;omega
  have HR1:=hide (row_below ((HR0.out.alloc _).alloc _) hb (by simp;omega))
  have HM1:=hide (row_below (HM0.out.alloc _) hb (by simp))
  have HZ1:=hide (row_below HZ0.out hb (by simp))
  have HB1:Hid (Below w.heap.size w w1):=Below.trans (by (repeat any_goals first | exact .refl _ _ | assumption | refine .drew ?_ | refine below_drewN ?_ _ | refine .setCell ?_ ?_ _ | refine .alloc ?_ ?_ _ | omega | (simp <;> omega))) (hb.mono (by simp;omega))
  have ya1:w.heap.size<w1.heap.size:=by omega
  have yb1:w.heap.size+1<w1.heap.size:=by omega
  have yc1:w.heap.size+1+1<w1.heap.size:=by omega
  clear hb
  obtain ⟨c0,c1,c2,c3,c4,c5,c6,c7,c8⟩:=sg9_cells HR1.out
  obtain ⟨d0,d1,d2,d3,d4,d5⟩:=mp6_cells HM1.out
  go_wp2_with fail
  clear c0 c1 c2 c3 c4 c5 c6 c7 c8 d0 d1 d2 d3 d4 d5
  refine (refPlace_any _ _ _ _ _ _ _ _ _).mono ?_
  rw [←HQ1.out]
  rintro e w2 ⟨rfl,hb⟩
  have hz2:w1.heap.size<w2.heap.size:=by have:=hb.size;simp at this;omega
  have HR2:=hide (row_below (HR1.out.alloc (.cells #[.int .i64 Q0.1,.int .i64 Q0.2.1] 42)) hb (by simp;omega))
  have HM2:=hide (row_below (HM1.out.alloc (.cells #[.int .i64 Q0.1,.int .i64 Q0.2.1] 42)) hb (by simp;omega))
  have HZ2:=hide (row_below (HZ1.out.alloc (.cells #[.int .i64 Q0.1,.int .i64 Q0.2.1] 42)) hb (by simp;omega))
  have HB2:Hid (Below w.heap.size w w2):=HB1.out.trans (((Below.refl _ _).alloc (Nat.le_refl _) (.cells #[.int .i64 Q0.1,.int .i64 Q0.2.1] 42)).trans (hb.mono (by simp)) |>.mono (by omega))
  have HS1_2:=hide (row_below (tp2_row Q0.1 Q0.2.1 w1 42) hb (by simp))
  have ya2:w.heap.size<w2.heap.size:=by omega
  have yb2:w.heap.size+1<w2.heap.size:=by omega
  have yc2:w.heap.size+1+1<w2.heap.size:=by omega
  clear hb
  obtain ⟨c0,c1,c2,c3,c4,c5,c6,c7,c8⟩:=sg9_cells HR2.out
  obtain ⟨d0,d1,d2,d3,d4,d5⟩:=mp6_cells HM2.out
  go_wp2_with fail
  clear c0 c1 c2 c3 c4 c5 c6 c7 c8 d0 d1 d2 d3 d4 d5
  refine (refPlace_any _ _ _ _ _ _ _ _ _).mono ?_
  rw [←HQ2.out]
  rintro e w3 ⟨rfl,hb⟩
  have hz3:w2.heap.size<w3.heap.size:=by have:=hb.size;simp at this;omega
  have HR3:=hide (row_below (HR2.out.alloc (.cells #[.int .i64 Q1.1,.int .i64 Q1.2.1] 42)) hb (by simp;omega))
  have HM3:=hide (row_below (HM2.out.alloc (.cells #[.int .i64 Q1.1,.int .i64 Q1.2.1] 42)) hb (by simp;omega))
  have HZ3:=hide (row_below (HZ2.out.alloc (.cells #[.int .i64 Q1.1,.int .i64 Q1.2.1] 42)) hb (by simp;omega))
  have HB3:Hid (Below w.heap.size w w3):=HB2.out.trans (((Below.refl _ _).alloc (Nat.le_refl _) (.cells #[.int .i64 Q1.1,.int .i64 Q1.2.1] 42)).trans (hb.mono (by simp)) |>.mono (by omega))
  have HS1_3:=hide (row_below (HS1_2.out.alloc (.cells #[.int .i64 Q1.1,.int .i64 Q1.2.1] 42)) hb (by simp;omega))
  have HS2_3:=hide (row_below (tp2_row Q1.1 Q1.2.1 w2 42) hb (by simp))
  have ya3:w.heap.size<w3.heap.size:=by omega
  have yb3:w.heap.size+1<w3.heap.size:=by omega
  have yc3:w.heap.size+1+1<w3.heap.size:=by omega
  have yd1_3:w1.heap.size<w3.heap.size:=by omega
  clear hb
  obtain ⟨c0,c1,c2,c3,c4,c5,c6,c7,c8⟩:=sg9_cells HR3.out
  obtain ⟨d0,d1,d2,d3,d4,d5⟩:=mp6_cells HM3.out
  go_wp2_with fail
  clear c0 c1 c2 c3 c4 c5 c6 c7 c8 d0 d1 d2 d3 d4 d5
  refine (refPlace_any _ _ _ _ _ _ _ _ _).mono ?_
  rw [←HQ3.out]
  rintro e w4 ⟨rfl,hb⟩
  have hz4:w3.heap.size<w4.heap.size:=by have:=hb.size;simp at this;omega
  have HR4:=hide (row_below (HR3.out.alloc (.cells #[.int .i64 Q2.1,.int .i64 Q2.2.1] 42)) hb (by simp;omega))
  have HM4:=hide (row_below (HM3.out.alloc (.cells #[.int .i64 Q2.1,.int .i64 Q2.2.1] 42)) hb (by simp;omega))
  have HZ4:=hide (row_below (HZ3.out.alloc (.cells #[.int .i64 Q2.1,.int .i64 Q2.2.1] 42)) hb (by simp;omega))
  have HB4:Hid (Below w.heap.size w w4):=HB3.out.trans (((Below.refl _ _).alloc (Nat.le_refl _) (.cells #[.int .i64 Q2.1,.int .i64 Q2.2.1] 42)).trans (hb.mono (by simp)) |>.mono (by omega))
  have HS1_4:=hide (row_below (HS1_3.out.alloc (.cells #[.int .i64 Q2.1,.int .i64 Q2.2.1] 42)) hb (by simp;omega))
  have HS2_4:=hide (row_below (HS2_3.out.alloc (.cells #[.int .i64 Q2.1,.int .i64 Q2.2.1] 42)) hb (by simp;omega))
  have HS3_4:=hide (row_below (tp2_row Q2.1 Q2.2.1 w3 42) hb (by simp))
  have ya4:w.heap.size<w4.heap.size:=by omega
  have yb4:w.heap.size+1<w4.heap.size:=by omega
  have yc4:w.heap.size+1+1<w4.heap.size:=by omega
  have yd1_4:w1.heap.size<w4.heap.size:=by omega
  have yd2_4:w2.heap.size<w4.heap.size:=by omega
  clear hb
  obtain ⟨c0,c1,c2,c3,c4,c5,c6,c7,c8⟩:=sg9_cells HR4.out
  obtain ⟨r0,r1,r2,r3,r4,r5,r6,r7,r8⟩:=sg9_cells HZ4.out
  obtain ⟨z0,z1,z2,z3,z4,z5,z6,z7,z8⟩:=zero_frozen HZ4.out
  obtain ⟨s10,s11⟩:=tp2_cells HS1_4.out
  obtain ⟨s20,s21⟩:=tp2_cells HS2_4.out
  obtain ⟨s30,s31⟩:=tp2_cells HS3_4.out
  by_cases h0:Q0.2.2=0
  case neg=>
    obtain ⟨rfl,rfl⟩:=HNo.out (by simp [h0])
    have t0:(Q0.2.2 != 0)=true:=by simpa using h0
    clear h0 HYe HNo
    go_wp2
    obtain ⟨wF,hwF⟩:∃wF,wF=(((((((((w4.setCell ⟨w.heap.size+1+1,0,none⟩ (.int .i64 0)).setCell ⟨w.heap.size+1+1,1,none⟩ (.int .i64 0)).setCell ⟨w.heap.size+1+1,2,none⟩ (.int .i64 0)).setCell ⟨w.heap.size+1+1,3,none⟩ (.int .i64 0)).setCell ⟨w.heap.size+1+1,4,none⟩ (.int .i64 0)).setCell ⟨w.heap.size+1+1,5,none⟩ (.int .i64 0)).setCell ⟨w.heap.size+1+1,6,none⟩ (.int .i64 0)).setCell ⟨w.heap.size+1+1,7,none⟩ (.int .i64 0)).setCell ⟨w.heap.size+1+1,8,none⟩ (.int .i64 0)).alloc (.cells #[.int .i64 Q3.1,.int .i64 Q3.2.1] 42):=⟨_,rfl⟩
    rw [←hwF]
    have hRF:wF.rowIs (w.heap.size+1+1) 44 9 (sg9 0 0 0 0 0 0 0 0 0):=by rw [hwF];exact (set9sg HZ4.out 0 0 0 0 0 0 0 0 0).alloc _
    have hp:∀q:Nat,w.heap.size≤(⟨w.heap.size+1+1,q,none⟩:Addr).block:=fun q=>by show w.heap.size≤w.heap.size+1+1;omega
    have hBF:Below w.heap.size w wF:=by rw [hwF];exact (((((((((HB4.out.setCell (hp 0) _).setCell (hp 1) _).setCell (hp 2) _).setCell (hp 3) _).setCell (hp 4) _).setCell (hp 5) _).setCell (hp 6) _).setCell (hp 7) _).setCell (hp 8) _).alloc (by simp;omega) _
    obtain ⟨g0,g1,g2,g3,g4,g5,g6,g7,g8⟩:=sg9_cells hRF
    exact bodyPost_ret (v:=.tuple #[.agg #[.int .i64 0,.int .i64 0,.int .i64 0,.int .i64 0,.int .i64 0,.int .i64 0,.int .i64 0,.int .i64 0,.int .i64 0],.int .i64 6]) (by simp [results,Tryz.results83,go_sem,g0,g1,g2,g3,g4,g5,g6,g7,g8]) rfl ⟨rfl,hBF⟩
  by_cases h1:Q1.2.2=0
  case neg=>
    obtain ⟨rfl,rfl⟩:=HNo.out (by simp [h0,h1])
    have t1:(Q1.2.2 != 0)=true:=by simpa using h1
    have t0:(Q0.2.2 != 0)=false:=by simpa using h0
    clear h0 h1 HYe HNo
    go_wp2
    obtain ⟨wF,hwF⟩:∃wF,wF=(((((((((w4.setCell ⟨w.heap.size+1+1,0,none⟩ (.int .i64 0)).setCell ⟨w.heap.size+1+1,1,none⟩ (.int .i64 0)).setCell ⟨w.heap.size+1+1,2,none⟩ (.int .i64 0)).setCell ⟨w.heap.size+1+1,3,none⟩ (.int .i64 0)).setCell ⟨w.heap.size+1+1,4,none⟩ (.int .i64 0)).setCell ⟨w.heap.size+1+1,5,none⟩ (.int .i64 0)).setCell ⟨w.heap.size+1+1,6,none⟩ (.int .i64 0)).setCell ⟨w.heap.size+1+1,7,none⟩ (.int .i64 0)).setCell ⟨w.heap.size+1+1,8,none⟩ (.int .i64 0)).alloc (.cells #[.int .i64 Q3.1,.int .i64 Q3.2.1] 42):=⟨_,rfl⟩
    rw [←hwF]
    have hRF:wF.rowIs (w.heap.size+1+1) 44 9 (sg9 0 0 0 0 0 0 0 0 0):=by rw [hwF];exact (set9sg HZ4.out 0 0 0 0 0 0 0 0 0).alloc _
    have hp:∀q:Nat,w.heap.size≤(⟨w.heap.size+1+1,q,none⟩:Addr).block:=fun q=>by show w.heap.size≤w.heap.size+1+1;omega
    have hBF:Below w.heap.size w wF:=by rw [hwF];exact (((((((((HB4.out.setCell (hp 0) _).setCell (hp 1) _).setCell (hp 2) _).setCell (hp 3) _).setCell (hp 4) _).setCell (hp 5) _).setCell (hp 6) _).setCell (hp 7) _).setCell (hp 8) _).alloc (by simp;omega) _
    obtain ⟨g0,g1,g2,g3,g4,g5,g6,g7,g8⟩:=sg9_cells hRF
    exact bodyPost_ret (v:=.tuple #[.agg #[.int .i64 0,.int .i64 0,.int .i64 0,.int .i64 0,.int .i64 0,.int .i64 0,.int .i64 0,.int .i64 0,.int .i64 0],.int .i64 6]) (by simp [results,Tryz.results83,go_sem,g0,g1,g2,g3,g4,g5,g6,g7,g8]) rfl ⟨rfl,hBF⟩
  by_cases h2:Q2.2.2=0
  case neg=>
    obtain ⟨rfl,rfl⟩:=HNo.out (by simp [h0,h1,h2])
    have t2:(Q2.2.2 != 0)=true:=by simpa using h2
    have t0:(Q0.2.2 != 0)=false:=by simpa using h0
    have t1:(Q1.2.2 != 0)=false:=by simpa using h1
    clear h0 h1 h2 HYe HNo
    go_wp2
    obtain ⟨wF,hwF⟩:∃wF,wF=(((((((((w4.setCell ⟨w.heap.size+1+1,0,none⟩ (.int .i64 0)).setCell ⟨w.heap.size+1+1,1,none⟩ (.int .i64 0)).setCell ⟨w.heap.size+1+1,2,none⟩ (.int .i64 0)).setCell ⟨w.heap.size+1+1,3,none⟩ (.int .i64 0)).setCell ⟨w.heap.size+1+1,4,none⟩ (.int .i64 0)).setCell ⟨w.heap.size+1+1,5,none⟩ (.int .i64 0)).setCell ⟨w.heap.size+1+1,6,none⟩ (.int .i64 0)).setCell ⟨w.heap.size+1+1,7,none⟩ (.int .i64 0)).setCell ⟨w.heap.size+1+1,8,none⟩ (.int .i64 0)).alloc (.cells #[.int .i64 Q3.1,.int .i64 Q3.2.1] 42):=⟨_,rfl⟩
    rw [←hwF]
    have hRF:wF.rowIs (w.heap.size+1+1) 44 9 (sg9 0 0 0 0 0 0 0 0 0):=by rw [hwF];exact (set9sg HZ4.out 0 0 0 0 0 0 0 0 0).alloc _
    have hp:∀q:Nat,w.heap.size≤(⟨w.heap.size+1+1,q,none⟩:Addr).block:=fun q=>by show w.heap.size≤w.heap.size+1+1;omega
    have hBF:Below w.heap.size w wF:=by rw [hwF];exact (((((((((HB4.out.setCell (hp 0) _).setCell (hp 1) _).setCell (hp 2) _).setCell (hp 3) _).setCell (hp 4) _).setCell (hp 5) _).setCell (hp 6) _).setCell (hp 7) _).setCell (hp 8) _).alloc (by simp;omega) _
    obtain ⟨g0,g1,g2,g3,g4,g5,g6,g7,g8⟩:=sg9_cells hRF
    exact bodyPost_ret (v:=.tuple #[.agg #[.int .i64 0,.int .i64 0,.int .i64 0,.int .i64 0,.int .i64 0,.int .i64 0,.int .i64 0,.int .i64 0,.int .i64 0],.int .i64 6]) (by simp [results,Tryz.results83,go_sem,g0,g1,g2,g3,g4,g5,g6,g7,g8]) rfl ⟨rfl,hBF⟩
  by_cases h3:Q3.2.2=0
  case neg=>
    obtain ⟨rfl,rfl⟩:=HNo.out (by simp [h0,h1,h2,h3])
    have t3:(Q3.2.2 != 0)=true:=by simpa using h3
    have t0:(Q0.2.2 != 0)=false:=by simpa using h0
    have t1:(Q1.2.2 != 0)=false:=by simpa using h1
    have t2:(Q2.2.2 != 0)=false:=by simpa using h2
    clear h0 h1 h2 h3 HYe HNo
    go_wp2
    obtain ⟨wF,hwF⟩:∃wF,wF=(((((((((w4.setCell ⟨w.heap.size+1+1,0,none⟩ (.int .i64 0)).setCell ⟨w.heap.size+1+1,1,none⟩ (.int .i64 0)).setCell ⟨w.heap.size+1+1,2,none⟩ (.int .i64 0)).setCell ⟨w.heap.size+1+1,3,none⟩ (.int .i64 0)).setCell ⟨w.heap.size+1+1,4,none⟩ (.int .i64 0)).setCell ⟨w.heap.size+1+1,5,none⟩ (.int .i64 0)).setCell ⟨w.heap.size+1+1,6,none⟩ (.int .i64 0)).setCell ⟨w.heap.size+1+1,7,none⟩ (.int .i64 0)).setCell ⟨w.heap.size+1+1,8,none⟩ (.int .i64 0)).alloc (.cells #[.int .i64 Q3.1,.int .i64 Q3.2.1] 42):=⟨_,rfl⟩
    rw [←hwF]
    have hRF:wF.rowIs (w.heap.size+1+1) 44 9 (sg9 0 0 0 0 0 0 0 0 0):=by rw [hwF];exact (set9sg HZ4.out 0 0 0 0 0 0 0 0 0).alloc _
    have hp:∀q:Nat,w.heap.size≤(⟨w.heap.size+1+1,q,none⟩:Addr).block:=fun q=>by show w.heap.size≤w.heap.size+1+1;omega
    have hBF:Below w.heap.size w wF:=by rw [hwF];exact (((((((((HB4.out.setCell (hp 0) _).setCell (hp 1) _).setCell (hp 2) _).setCell (hp 3) _).setCell (hp 4) _).setCell (hp 5) _).setCell (hp 6) _).setCell (hp 7) _).setCell (hp 8) _).alloc (by simp;omega) _
    obtain ⟨g0,g1,g2,g3,g4,g5,g6,g7,g8⟩:=sg9_cells hRF
    exact bodyPost_ret (v:=.tuple #[.agg #[.int .i64 0,.int .i64 0,.int .i64 0,.int .i64 0,.int .i64 0,.int .i64 0,.int .i64 0,.int .i64 0,.int .i64 0],.int .i64 6]) (by simp [results,Tryz.results83,go_sem,g0,g1,g2,g3,g4,g5,g6,g7,g8]) rfl ⟨rfl,hBF⟩
  · obtain ⟨rfl,rfl⟩:=HYe.out (by simp [h0,h1,h2,h3])
    have t0:(Q0.2.2 != 0)=false:=by simpa using h0
    have t1:(Q1.2.2 != 0)=false:=by simpa using h1
    have t2:(Q2.2.2 != 0)=false:=by simpa using h2
    have t3:(Q3.2.2 != 0)=false:=by simpa using h3
    clear h0 h1 h2 h3 HYe HNo
    go_wp2
    obtain ⟨wF,hwF⟩:∃wF,wF=(((((((((w4.setCell ⟨w.heap.size+1+1,0,none⟩ (.int .i64 k)).setCell ⟨w.heap.size+1+1,1,none⟩ (.int .i64 Q0.1)).setCell ⟨w.heap.size+1+1,2,none⟩ (.int .i64 Q0.2.1)).setCell ⟨w.heap.size+1+1,3,none⟩ (.int .i64 Q1.1)).setCell ⟨w.heap.size+1+1,4,none⟩ (.int .i64 Q1.2.1)).setCell ⟨w.heap.size+1+1,5,none⟩ (.int .i64 Q2.1)).setCell ⟨w.heap.size+1+1,6,none⟩ (.int .i64 Q2.2.1)).setCell ⟨w.heap.size+1+1,7,none⟩ (.int .i64 Q3.1)).setCell ⟨w.heap.size+1+1,8,none⟩ (.int .i64 Q3.2.1)).alloc (.cells #[.int .i64 Q3.1,.int .i64 Q3.2.1] 42):=⟨_,rfl⟩
    rw [←hwF]
    have hRF:wF.rowIs (w.heap.size+1+1) 44 9 (sg9 k Q0.1 Q0.2.1 Q1.1 Q1.2.1 Q2.1 Q2.2.1 Q3.1 Q3.2.1):=by rw [hwF];exact (set9sg HZ4.out k Q0.1 Q0.2.1 Q1.1 Q1.2.1 Q2.1 Q2.2.1 Q3.1 Q3.2.1).alloc _
    have hp:∀q:Nat,w.heap.size≤(⟨w.heap.size+1+1,q,none⟩:Addr).block:=fun q=>by show w.heap.size≤w.heap.size+1+1;omega
    have hBF:Below w.heap.size w wF:=by rw [hwF];exact (((((((((HB4.out.setCell (hp 0) _).setCell (hp 1) _).setCell (hp 2) _).setCell (hp 3) _).setCell (hp 4) _).setCell (hp 5) _).setCell (hp 6) _).setCell (hp 7) _).setCell (hp 8) _).alloc (by simp;omega) _
    obtain ⟨g0,g1,g2,g3,g4,g5,g6,g7,g8⟩:=sg9_cells hRF
    exact bodyPost_ret (v:=.tuple #[.agg #[.int .i64 k,.int .i64 Q0.1,.int .i64 Q0.2.1,.int .i64 Q1.1,.int .i64 Q1.2.1,.int .i64 Q2.1,.int .i64 Q2.2.1,.int .i64 Q3.1,.int .i64 Q3.2.1],.int .i64 0]) (by simp [results,Tryz.results83,go_sem,g0,g1,g2,g3,g4,g5,g6,g7,g8]) rfl ⟨rfl,hBF⟩
end Go.Proofs.YtkhcjkmifddlbabGreatDoor
