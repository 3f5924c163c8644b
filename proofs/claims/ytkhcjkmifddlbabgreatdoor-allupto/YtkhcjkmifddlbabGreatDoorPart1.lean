import Derived.KernelRfl
import Derived.WalkKit
import Derived.WalkSpells
import Derived.WalkLawsBesides
import Derived.Test.YtkhcjkmifddlbabGreatDoorProg
import Derived.Deep.QuietTactic
import Derived.BigQuiet
import Derived.Deep.RegionHeld3
import Derived.Deep.OwnRows
set_option maxHeartbeats 8000000
namespace Go.Proofs.YtkhcjkmifddlbabGreatDoor
namespace Num
def hu (n d:Int):Int:=(2*n+d) / (2*d)
theorem hu_of (n d q:Int) (hd:0<d) (h1:2*d*q≤2*n+d) (h2:2*n+d<2*d*q+2*d):hu n d=q:=by
  unfold hu
  have:=(Int.ediv_emod_unique (a:=2*n+d) (b:=2*d) (q:=q) (r:=2*n+d-2*d*q) (by omega)).2 ⟨by omega,by omega,by omega⟩
  exact this.1
theorem tdiv_facts (n d:Int) (hd:0<d) :
    d*n.tdiv d+n.tmod d=n ∧ -d<n.tmod d∧n.tmod d<d∧(0≤n→0≤n.tmod d)∧(n<0→n.tmod d≤0):=by
  have e:=Int.mul_tdiv_add_tmod n d
  refine ⟨e,?_,?_,?_,?_⟩
  · by_cases h:0≤n
    · have:=Int.tmod_nonneg d h;omega
    · have h2:0 ≤ -n:=by omega
      have:=Int.tmod_lt_of_pos (-n) hd
      rw [Int.neg_tmod] at this;omega
  · exact Int.tmod_lt_of_pos n hd
  · intro h;exact Int.tmod_nonneg d h
  · intro h
    have:=Int.tmod_nonneg d (show 0 ≤ -n by omega)
    rw [Int.neg_tmod] at this;omega
theorem hu_tdiv (n d:Int) (hd:0<d) :
    (n.tmod d<0→¬(d-(n.tmod d+d)≤n.tmod d+d)→hu n d=n.tdiv d-1) ∧
    (n.tmod d<0→d-(n.tmod d+d)≤n.tmod d+d→hu n d=n.tdiv d) ∧
    (¬n.tmod d<0→¬(d-n.tmod d≤n.tmod d)→hu n d=n.tdiv d) ∧
    (¬n.tmod d<0→d-n.tmod d≤n.tmod d→hu n d=n.tdiv d+1):=by
  obtain ⟨e,h1,h2,_,_⟩:=tdiv_facts n d hd
  have e1:2*d*(n.tdiv d-1)=2*(d*n.tdiv d)-2*d:=by rw [Int.mul_sub,Int.mul_assoc];omega
  have e2:2*d*(n.tdiv d+1)=2*(d*n.tdiv d)+2*d:=by rw [Int.mul_add,Int.mul_assoc];omega
  have e3:2*d*(n.tdiv d)=2*(d*n.tdiv d):=by rw [Int.mul_assoc]
  refine ⟨?_,?_,?_,?_⟩ <;> intro a b <;> apply hu_of n d _ hd <;> omega
theorem tdiv_le (n d:Int) (hd:0<d) (B:Int) (h1:-B≤n) (h2:n≤B):-B≤n.tdiv d∧n.tdiv d≤B:=by
  obtain ⟨e,l1,l2,l3,l4⟩:=tdiv_facts n d hd
  by_cases h:0≤n
  · have p:0≤n.tdiv d:=Int.tdiv_nonneg h (by omega)
    have:n.tdiv d≤d*n.tdiv d:=by
      have:=Int.mul_le_mul_of_nonneg_right (show (1:Int)≤d by omega) p
      omega
    have:=l3 h
    omega
  · have p:0≤(-n).tdiv d:=Int.tdiv_nonneg (by omega) (by omega)
    rw [Int.neg_tdiv] at p
    have:(-(n.tdiv d))≤d*(-(n.tdiv d)):=by
      have:=Int.mul_le_mul_of_nonneg_right (show (1:Int)≤d by omega) p
      omega
    rw [Int.mul_neg] at this
    have:=l4 (by omega)
    omega
theorem hu_facts (n d:Int) (hd:0<d):2*d*hu n d≤2*n+d∧2*n+d<2*d*hu n d+2*d:=by
  unfold hu
  have h:=Int.mul_ediv_add_emod (2*n+d) (2*d)
  have h1:=Int.emod_nonneg (2*n+d) (show 2*d≠0 by omega)
  have h2:=Int.emod_lt_of_pos (2*n+d) (show 0<2*d by omega)
  omega
theorem hu_first (n d:Int) (hd:0<d):(2*n+d).tdiv (2*d)=hu n d∨(2*n+d).tdiv (2*d)=hu n d+1:=by
  obtain ⟨e,h1,h2,h3,h4⟩:=tdiv_facts (2*n+d) (2*d) (by omega)
  generalize hq:(2*n+d).tdiv (2*d)=q at *
  generalize hr:(2*n+d).tmod (2*d)=r at *
  by_cases p:r<0
  · right
    have:=hu_of n d (q-1) hd (by rw [Int.mul_sub];omega) (by rw [Int.mul_sub];omega)
    omega
  · left
    exact (hu_of n d q hd (by omega) (by omega)).symm
theorem hu_le (n d B:Int) (hd:0<d) (hB:d≤B) (h1:-B≤n) (h2:n≤B):-(2*B)≤hu n d∧hu n d≤2*B:=by
  obtain ⟨a,b⟩:=hu_facts n d hd
  have e:2*d*hu n d=2*(d*hu n d):=by rw [Int.mul_assoc]
  rw [e] at a b
  constructor
  · by_cases p:0≤hu n d
    · omega
    · have:=Int.mul_le_mul_of_nonneg_right (show (1:Int)≤d by omega) (show 0 ≤ -(hu n d) by omega)
      rw [Int.one_mul,Int.mul_neg] at this;omega
  · by_cases p:0≤hu n d
    · have:=Int.mul_le_mul_of_nonneg_right (show (1:Int)≤d by omega) p
      omega
    · omega
def wi (n m:Int):Bool:=decide (-m≤n) && decide (n≤m)
theorem wi_yes {n m:Int} (h:wi n m=true):-m≤n∧n≤m:=by simpa [wi] using h
theorem wi_no {n m:Int} (h:wi n m=false):n < -m∨m<n:=by
  simp [wi] at h;omega
def fairB (a b c d x y:Int):Bool:=wi a 65536 && wi b 65536 && (wi c 65536 && wi d 65536) && (wi x 16384 && wi y 16384)
def inB (x y:Int):Bool:=wi x 16384 && wi y 16384
def placeV (a b c d x y s t:Int):Int×Int×Int:=
  if (wi s 8192 && wi t 8192)=false then (0,0,4)
  else if fairB a b c d x y=false then (0,0,5)
  else if inB (x+hu (a*s+b*t) 2048) (y+hu (c*s+d*t) 2048)=false then (0,0,6)
  else (x+hu (a*s+b*t) 2048,y+hu (c*s+d*t) 2048,0)
theorem mul_bd (a s A S:Int) (ha:-A≤a∧a≤A) (hs:-S≤s∧s≤S):-(A*S)≤a*s∧a*s≤A*S:=by
  have hA:0≤A:=by omega
  have hS:0≤S:=by omega
  have h:(a*s).natAbs≤(A*S).natAbs:=by
    rw [Int.natAbs_mul,Int.natAbs_mul]
    exact Nat.mul_le_mul (by omega) (by omega)
  have:=Int.mul_nonneg hA hS
  omega
end Num
end Go.Proofs.YtkhcjkmifddlbabGreatDoor
namespace Go.Proofs.YtkhcjkmifddlbabGreatDoor
namespace Num
def firstI (f:Nat→Bool) (n:Nat):Int:=match (List.range n).find? f with
  | some i=>(i:Int)
  | none=>-1
theorem find_range_hit (f:Nat→Bool) (n k:Nat) (hk:k<n) (h:f k=true) (hb:∀j,j<k→f j=false):(List.range n).find? f=some k:=by
  rw [List.find?_range_eq_some]
  exact ⟨h,by simpa using hk,fun j hj=>by simp [hb j hj]⟩
theorem firstI_hit (f:Nat→Bool) (n k:Nat) (hk:k<n) (h:f k=true) (hb:∀j,j<k→f j=false):firstI f n=k:=by
  unfold firstI
  rw [find_range_hit f n k hk h hb]
theorem firstI_none (f:Nat→Bool) (n:Nat) (hb:∀j,j<n→f j=false):firstI f n = -1:=by
  unfold firstI
  have:(List.range n).find? f=none:=by
    rw [List.find?_eq_none]
    intro x hx
    simp at hx
    simp [hb x hx]
  rw [this]
theorem firstI_cases (f:Nat→Bool) (n:Nat):(firstI f n = -1∧∀j,j<n→f j=false)∨∃k,k<n∧f k=true∧(∀j,j<k→f j=false)∧firstI f n=k:=by
  by_cases h:∀j,j<n→f j=false
  · exact Or.inl ⟨firstI_none f n h,h⟩
  · right
    cases e:(List.range n).find? f with
    | none=>
      rw [List.find?_eq_none] at e
      exact absurd (fun j hj=>by have:=e j (by simpa using hj);simpa using this) h
    | some k=>
      rw [List.find?_range_eq_some] at e
      obtain ⟨a,b,c⟩:=e
      have b':k<n:=by simpa using b
      have c':∀j,j<k→f j=false:=fun j hj=>by have:=c j hj;simpa using this
      exact ⟨k,b',a,c',firstI_hit f n k b' a c'⟩
def mayB (a k b:Int):Bool:=k == 0 || k == 1 || (k == 2 && ((a == 0 && b == 2) || (a == 2 && b == 0)))
def prevK (K:Nat→Int) (n i:Nat):Int:=if i=0 then K (n-1) else K (i-1)
def nextK (K:Nat→Int) (n i:Nat):Int:=if i+1<n then K (i+1) else K 0
def badB (K:Nat→Int) (n i:Nat):Bool:=!mayB (prevK K n i) (K i) (nextK K n i)
def shapeI (K:Nat→Int) (n:Nat):Int:=if n<2 then (n:Int) else firstI (badB K n) n
def farB (X Y:Nat→Int) (i:Nat):Bool:=!(wi (X i) 4096 && wi (Y i) 4096)
def farI (X Y:Nat→Int) (n:Nat):Int:=firstI (farB X Y) n
def sumN (n:Nat→Nat):Nat→Nat
  | 0=>0
  | k+1=>sumN n k+n k
theorem sumN_mono (n:Nat→Nat) {a b:Nat} (h:a≤b):sumN n a≤sumN n b:=by
  induction b with
  | zero => have : a = 0 := by omega
            subst this;exact Nat.le_refl _
  | succ b ih=>
    by_cases e:a=b+1
    · subst e;exact Nat.le_refl _
    · have:=ih (by omega);simp only [sumN];omega
def manyB (N:Nat) (n:Nat→Nat):Bool:=decide (16<N) || decide (200<sumN n N)
def shapeAt (n:Nat→Nat) (K:Nat→Nat→Int) (i:Nat):Bool:=shapeI (K i) (n i) != -1
def farAt (n:Nat→Nat) (X Y:Nat→Nat→Int) (i:Nat):Bool:=farI (X i) (Y i) (n i) != -1
def chkV (N:Nat) (n:Nat→Nat) (X Y K:Nat→Nat→Int):Int×Int×Int:=
  if manyB N n=true then (2,0,0)
  else if firstI (shapeAt n K) N ≠ -1 then (3,firstI (shapeAt n K) N,shapeI (K (firstI (shapeAt n K) N).toNat) (n (firstI (shapeAt n K) N).toNat))
  else if firstI (farAt n X Y) N ≠ -1 then (4,firstI (farAt n X Y) N,farI (X (firstI (farAt n X Y) N).toNat) (Y (firstI (farAt n X Y) N).toNat) (n (firstI (farAt n X Y) N).toNat))
  else (0,0,0)
theorem chk_many (N:Nat) (n:Nat→Nat) (X Y K:Nat→Nat→Int) (h:manyB N n=true):chkV N n X Y K=(2,0,0):=by
  unfold chkV;rw [if_pos h]
theorem chk_shape (N:Nat) (n:Nat→Nat) (X Y K:Nat→Nat→Int) (h:manyB N n=false) (k:Nat) (hk:k<N) (hs:shapeAt n K k=true) (hb:∀j,j<k→shapeAt n K j=false) :
    chkV N n X Y K=(3,(k:Int),shapeI (K k) (n k)):=by
  unfold chkV
  rw [if_neg (by simp [h]),firstI_hit _ N k hk hs hb,if_pos (by omega),Int.toNat_natCast]
theorem chk_far (N:Nat) (n:Nat→Nat) (X Y K:Nat→Nat→Int) (h:manyB N n=false) (hn:∀j,j<N→shapeAt n K j=false) (k:Nat) (hk:k<N) (hs:farAt n X Y k=true) (hb:∀j,j<k→farAt n X Y j=false) :
    chkV N n X Y K=(4,(k:Int),farI (X k) (Y k) (n k)):=by
  unfold chkV
  rw [if_neg (by simp [h]),firstI_none _ N hn,if_neg (by simp),firstI_hit _ N k hk hs hb,if_pos (by omega),Int.toNat_natCast]
theorem chk_ok (N:Nat) (n:Nat→Nat) (X Y K:Nat→Nat→Int) (h:manyB N n=false) (hn:∀j,j<N→shapeAt n K j=false) (hb:∀j,j<N→farAt n X Y j=false) :
    chkV N n X Y K=(0,0,0):=by
  unfold chkV
  rw [if_neg (by simp [h]),firstI_none _ N hn,if_neg (by simp),firstI_none _ N hb,if_neg (by simp)]
theorem chk_cases (N:Nat) (n:Nat→Nat) (X Y K:Nat→Nat→Int) :
    ((chkV N n X Y K).1=0∧manyB N n=false∧(∀j,j<N→shapeAt n K j=false)∧∀j,j<N→farAt n X Y j=false)∨(chkV N n X Y K).1≠0:=by
  cases h:manyB N n with
  | true=>right;rw [chk_many N n X Y K h];simp
  | false=>
    rcases firstI_cases (shapeAt n K) N with ⟨_,hn⟩ | ⟨k,hk,ht,hb,_⟩
    · rcases firstI_cases (farAt n X Y) N with ⟨_,hf⟩ | ⟨k,hk,ht,hb,_⟩
      · left;rw [chk_ok N n X Y K h hn hf];exact ⟨rfl,rfl,hn,hf⟩
      · right;rw [chk_far N n X Y K h hn k hk ht hb];simp
    · right;rw [chk_shape N n X Y K h k hk ht hb];simp
theorem firstI_ge (f:Nat→Bool) (n:Nat):firstI f n = -1∨0≤firstI f n:=by
  rcases firstI_cases f n with ⟨e,_⟩ | ⟨k,_,_,_,e⟩
  · exact Or.inl e
  · right;rw [e];omega
theorem shapeI_ge (K:Nat→Int) (n:Nat):shapeI K n = -1∨0≤shapeI K n:=by
  unfold shapeI
  split
  · right;omega
  · exact firstI_ge _ _
theorem prevK_mod (K:Nat→Int) (n i:Nat) (h:i<n):K ((i+n-1) % n)=prevK K n i:=by
  unfold prevK
  split
  · rename_i e;subst e
    rw [show 0+n-1=n-1 by omega,Nat.mod_eq_of_lt (by omega)]
  · rw [show i+n-1=(i-1)+n by omega,Nat.add_mod_right,Nat.mod_eq_of_lt (by omega)]
theorem nextK_mod (K:Nat→Int) (n i:Nat) (h:i<n):K ((i+1) % n)=nextK K n i:=by
  unfold nextK
  split
  · rename_i e;rw [Nat.mod_eq_of_lt e]
  · rw [show i+1=n by omega,Nat.mod_self]
end Num
end Go.Proofs.YtkhcjkmifddlbabGreatDoor
namespace Go.Proofs.YtkhcjkmifddlbabGreatDoor
open Go.RowKit
def RingAt (w:World) (a:Option Addr) (n:Nat) (X Y K:Nat→Int):Prop:=
  n=0∨∃b off,a=some ⟨b,off,none⟩∧∀k,k<n→w.cell? ⟨b,off+k*3,none⟩=some (.int .i64 (X k))∧w.cell? ⟨b,off+k*3+1,none⟩=some (.int .i64 (Y k))∧w.cell? ⟨b,off+k*3+2,none⟩=some (.int .i64 (K k))
theorem RingAt.below {w w':World} {a:Option Addr} {n:Nat} {X Y K:Nat→Int} (h:RingAt w a n X Y K) (hb:Below w.heap.size w w'):RingAt w' a n X Y K:=by
  rcases h with h | ⟨b,off,ha,hc⟩
  · exact Or.inl h
  · refine Or.inr ⟨b,off,ha,fun k hk=>?_⟩
    obtain ⟨c0,c1,c2⟩:=hc k hk
    have hlt:b<w.heap.size:=World.block_lt_of_cell? w _ c0
    exact ⟨(hb.cell (p:=⟨b,_,none⟩) hlt).trans c0,(hb.cell (p:=⟨b,_,none⟩) hlt).trans c1,(hb.cell (p:=⟨b,_,none⟩) hlt).trans c2⟩
def OutAt (w:World) (a:Option Addr) (N:Nat) (A:Nat→Option Addr) (C:Nat→Nat) (n:Nat→Nat) (X Y K:Nat→Nat→Int):Prop:=
  (N=0∨∃b off,a=some ⟨b,off,none⟩∧∀i,i<N→w.cell? ⟨b,off+i,none⟩=some (.slice (A i) (n i) (C i)))∧∀i,i<N→RingAt w (A i) (n i) (X i) (Y i) (K i)
theorem OutAt.below {w w':World} {a:Option Addr} {N:Nat} {A:Nat→Option Addr} {C n:Nat→Nat} {X Y K:Nat→Nat→Int} (h:OutAt w a N A C n X Y K) (hb:Below w.heap.size w w'):OutAt w' a N A C n X Y K:=by
  refine ⟨?_,fun i hi=>(h.2 i hi).below hb⟩
  rcases h.1 with h | ⟨b,off,ha,hc⟩
  · exact Or.inl h
  · refine Or.inr ⟨b,off,ha,fun i hi=>?_⟩
    have hlt:b<w.heap.size:=World.block_lt_of_cell? w _ (hc i hi)
    exact (hb.cell (p:=⟨b,_,none⟩) hlt).trans (hc i hi)
end Go.Proofs.YtkhcjkmifddlbabGreatDoor
namespace Go.Proofs.YtkhcjkmifddlbabGreatDoor
open Go.RowKit
theorem ret_int {k:IntKind} {a b:Int} (h:a=b):Ending.returned (.int k a)=.returned (.int k b):=by rw [h]
theorem hide {p:Prop} (h:p):Hid p:=h
theorem ret_bool {a b:Bool} (h:a=b):Ending.returned (.bool a)=.returned (.bool b):=by rw [h]
theorem within_any (n m:Int) (w:World) (h0:0≤m) (h1:m≤1000000) :
    Calls Tryz.prog 120 #[.int .i64 n,.int .i64 m] w fun e w'=>e=.returned (.bool (Num.wi n m))∧w'=w:=by
  by_cases a:-m≤n
  · by_cases b:n≤m
    · go_enter Tryz.func120,Tryz.ntmps120
      go_wp2
      go_ret
      exact ⟨ret_bool (by simp [Num.wi,a,b]),rfl⟩
    · go_enter Tryz.func120,Tryz.ntmps120
      go_wp2
      go_ret
      exact ⟨ret_bool (by simp [Num.wi,a,b]),rfl⟩
  · go_enter Tryz.func120,Tryz.ntmps120
    go_wp2
    go_ret
    exact ⟨ret_bool (by simp [Num.wi];omega),rfl⟩
theorem halfUp_any (n d:Int) (w:World) (hd1:1≤d) (hd2:d≤1000000000000) (hn1:-1000000000000000≤n) (hn2:n≤1000000000000000) :
    Calls Tryz.prog 158 #[.int .i64 n,.int .i64 d] w fun e w'=>e=.returned (.int .i64 (Num.hu n d))∧w'=w:=by
  obtain ⟨f0,f1,f2,f3,f4⟩:=Num.tdiv_facts n d (by omega)
  obtain ⟨g1,g2⟩:=Num.tdiv_le n d (by omega) 1000000000000000 hn1 hn2
  obtain ⟨u1,u2,u3,u4⟩:=Num.hu_tdiv n d (by omega)
  have U1:=hide u1
  have U2:=hide u2
  have U3:=hide u3
  have U4:=hide u4
  clear u1 u2 u3 u4 f0 f3 f4
  have hd0:¬d=0:=by omega
  have hd3:¬d<1:=by omega
  by_cases a:n.tmod d<0
  · by_cases b:d-(n.tmod d+d)≤n.tmod d+d
    · go_enter Tryz.func158,Tryz.ntmps158
      go_wp2
      go_ret
      exact ⟨ret_int (by have:=U2.out a b;omega),rfl⟩
    · go_enter Tryz.func158,Tryz.ntmps158
      go_wp2
      go_ret
      exact ⟨ret_int (by have:=U1.out a b;omega),rfl⟩
  · by_cases b:d-n.tmod d≤n.tmod d
    · go_enter Tryz.func158,Tryz.ntmps158
      go_wp2
      go_ret
      exact ⟨ret_int (by have:=U4.out a b;omega),rfl⟩
    · go_enter Tryz.func158,Tryz.ntmps158
      go_wp2
      go_ret
      exact ⟨ret_int (by have:=U3.out a b;omega),rfl⟩
theorem scaled_any (n:Int) (w:World) (hn1:-1000000000000≤n) (hn2:n≤1000000000000) :
    Calls Tryz.prog 122 #[.int .i64 n] w fun e w'=>e=.returned (.int .i64 (Num.hu n 2048))∧w'=w:=by
  go_enter Tryz.func122,Tryz.ntmps122
  go_wp2_with (go_at_call 158;refine (halfUp_any _ _ _ (by omega) (by omega) (by omega) (by omega)).mono ?_;rintro e w' ⟨rfl,rfl⟩)
  have:=Num.hu_le n 2048 1000000000000 (by omega) (by omega) hn1 hn2
  go_wp2
  go_ret
  exact ⟨rfl,rfl⟩
theorem half_any (n d:Int) (w:World) (hd1:1≤d) (hd2:d≤1000000000000) (hn1:-1000000000000000≤n) (hn2:n≤1000000000000000) :
    Calls Tryz.prog 75 #[.int .i64 n,.int .i64 d] w fun e w'=>e=.returned (.int .i64 (Num.hu n d))∧w'=w:=by
  obtain ⟨f1,f2⟩:=Num.hu_facts n d (by omega)
  have hq0:=Num.hu_first n d (by omega)
  obtain ⟨g1,g2⟩:=Num.hu_le n d 1000000000000000 (by omega) (by omega) hn1 hn2
  have hd0:¬2*d=0:=by omega
  have e2:Hid (2*d*(Num.hu n d+1)=2*d*Num.hu n d+2*d):=by unfold Hid;rw [Int.mul_add];omega
  have hb:-9000000000000000≤(2*n+d).tdiv (2*d)∧(2*n+d).tdiv (2*d)≤9000000000000000:=by omega
  obtain ⟨b1,b2⟩:=hb
  have HQ:=hide hq0
  clear hq0
  go_enter Tryz.func75,Tryz.ntmps75
  go_wp2
  go_loop [5] (fun t=>∃q:Int,(q=Num.hu n d∨q=Num.hu n d+1)∧t=.int .i64 q) (fun t=>(intOf t-Num.hu n d).toNat)
  case atStart=>exact ⟨_,HQ.out,rfl⟩
  case round=>
    obtain ⟨q,hq,rfl⟩:=hrel
    rcases hq with hq | hq
    · have c1:2*d*q≤2*n+d:=by rw [hq];omega
      have c2:-9000000000000000≤2*d*q:=by rw [hq];omega
      have c3:-9000000000000000≤q:=by omega
      have c4:q≤9000000000000000:=by omega
      have HE:=hide hq
      clear hq f1 f2
      go_wp2
      go_ret
      exact ⟨ret_int HE.out,rfl⟩
    · have c1:2*n+d<2*d*q:=by rw [hq,e2.out];omega
      have c2:2*d*q≤9000000000000000:=by rw [hq,e2.out];omega
      have c3:-9000000000000000≤q:=by omega
      have c4:q≤9000000000000000:=by omega
      have HE:=hide hq
      clear hq f1 f2
      go_wp2
      go_round
      case rel=>exact ⟨q-1,Or.inl (by have:=HE.out;omega),rfl⟩
      case measure=>have:=HE.out;simp [intOf];omega
theorem fair_any (a b c d x y:Int) (w:World) :
    Calls Tryz.prog 121 #[.agg #[.int .i64 a,.int .i64 b,.int .i64 c,.int .i64 d,.int .i64 x,.int .i64 y]] w fun e w'=>e=.returned (.bool (Num.fairB a b c d x y))∧Below w.heap.size w w':=by
  go_enter Tryz.func121,Tryz.ntmps121
  go_wp2_with (go_at_call 120;refine (within_any _ _ _ (by omega) (by omega)).mono ?_;rintro e w' ⟨rfl,rfl⟩)
  all_goals
    go_ret
    exact ⟨ret_bool (by simp [Num.fairB, *]),(Below.refl _ _).alloc (Nat.le_refl _) _⟩
theorem inRange_any (x y:Int) (w:World) :
    Calls Tryz.prog 123 #[.agg #[.int .i64 x,.int .i64 y]] w fun e w'=>e=.returned (.bool (Num.inB x y))∧Below w.heap.size w w':=by
  go_enter Tryz.func123,Tryz.ntmps123
  go_wp2_with (go_at_call 120;refine (within_any _ _ _ (by omega) (by omega)).mono ?_;rintro e w' ⟨rfl,rfl⟩)
  all_goals
    go_ret
    exact ⟨ret_bool (by simp [Num.inB, *]),(Below.refl _ _).alloc (Nat.le_refl _) _⟩
theorem refInRange_any (x y:Int) (w:World) :
    Calls Tryz.prog 76 #[.agg #[.int .i64 x,.int .i64 y]] w fun e w'=>e=.returned (.bool (Num.inB x y))∧Below w.heap.size w w':=by
  go_enter Tryz.func76,Tryz.ntmps76
  go_wp2
  all_goals
    go_ret
    refine ⟨ret_bool ?_,(Below.refl _ _).alloc (Nat.le_refl _) _⟩
    simp only [Num.inB,Num.wi]
    simp [*]
    try omega
theorem wrap_ok (z:Int) (h1:-9000000000000000000≤z) (h2:z≤9000000000000000000):IntKind.i64.wrap z=z:=by
  rw [IntKind.wrap_i64]
  omega
theorem bcell {W w1:World} (hb:Below W.heap.size W w1):(∀b o,b<W.heap.size→w1.cell? ⟨b,o,none⟩=W.cell? ⟨b,o,none⟩)∧(∀b o,b<W.heap.size→w1.frozen? ⟨b,o,none⟩=W.frozen? ⟨b,o,none⟩):=
  ⟨fun b o h=>hb.cell (p:=⟨b,o,none⟩) h,fun b o h=>hb.frozen (p:=⟨b,o,none⟩) h⟩
theorem place_any (a b c d x y s t:Int) (w:World) :
    Calls Tryz.prog 73 #[.agg #[.int .i64 a,.int .i64 b,.int .i64 c,.int .i64 d,.int .i64 x,.int .i64 y],.agg #[.int .i64 s,.int .i64 t]] w fun e w'=>
      e=.returned (.tuple #[.agg #[.int .i64 (Num.placeV a b c d x y s t).1,.int .i64 (Num.placeV a b c d x y s t).2.1],.int .i64 (Num.placeV a b c d x y s t).2.2])∧Below w.heap.size w w':=by
  cases hs:Num.wi s 8192
  · have hV:Num.placeV a b c d x y s t=(0,0,4):=by unfold Num.placeV;rw [hs];rfl
    rw [hV]
    clear hV
    go_enter Tryz.func73,Tryz.ntmps73
    go_wp2_with (go_at_call 120;refine (within_any _ _ _ (by omega) (by omega)).mono ?_;rintro e w' ⟨rfl,rfl⟩)
    refine bodyPost_ret (v:=.tuple #[.agg #[.int .i64 0,.int .i64 0],.int .i64 4]) (by simp [results,Tryz.results73,go_sem]) rfl ⟨rfl,?_⟩
    (repeat any_goals first | exact .refl _ _ | assumption | refine .drew ?_ | refine below_drewN ?_ _ | refine .setCell ?_ ?_ _ | refine .alloc ?_ ?_ _ | omega | (simp <;> omega))
  cases ht:Num.wi t 8192
  · have hV:Num.placeV a b c d x y s t=(0,0,4):=by unfold Num.placeV;rw [hs,ht];rfl
    rw [hV]
    clear hV
    go_enter Tryz.func73,Tryz.ntmps73
    go_wp2_with (go_at_call 120;refine (within_any _ _ _ (by omega) (by omega)).mono ?_;rintro e w' ⟨rfl,rfl⟩)
    refine bodyPost_ret (v:=.tuple #[.agg #[.int .i64 0,.int .i64 0],.int .i64 4]) (by simp [results,Tryz.results73,go_sem]) rfl ⟨rfl,?_⟩
    (repeat any_goals first | exact .refl _ _ | assumption | refine .drew ?_ | refine below_drewN ?_ _ | refine .setCell ?_ ?_ _ | refine .alloc ?_ ?_ _ | omega | (simp <;> omega))
  cases hf:Num.fairB a b c d x y
  · have hV:Num.placeV a b c d x y s t=(0,0,5):=by unfold Num.placeV;rw [hs,ht,hf];rfl
    rw [hV]
    clear hV
    go_enter Tryz.func73,Tryz.ntmps73
    go_wp2_with (first | (go_at_call 120;refine (within_any _ _ _ (by omega) (by omega)).mono ?_;rintro e w' ⟨rfl,rfl⟩) | (go_at_call 121;refine (fair_any _ _ _ _ _ _ _).mono ?_;rintro e w1 ⟨rfl,hb⟩;obtain ⟨hc,hfz⟩:=bcell hb;have hz:w.heap.size+1+1<w1.heap.size:=by have:=hb.size;simp at this;omega))
    have hb0:Below w.heap.size w w1:=Below.trans (by (repeat any_goals first | exact .refl _ _ | assumption | refine .drew ?_ | refine below_drewN ?_ _ | refine .setCell ?_ ?_ _ | refine .alloc ?_ ?_ _ | omega | (simp <;> omega))) (hb.mono (by simp;omega))
    refine bodyPost_ret (v:=.tuple #[.agg #[.int .i64 0,.int .i64 0],.int .i64 5]) (by simp [results,Tryz.results73,go_sem,hc]) rfl ⟨rfl,?_⟩
    clear hb
    (repeat any_goals first | exact .refl _ _ | assumption | refine .drew ?_ | refine below_drewN ?_ _ | refine .setCell ?_ ?_ _ | refine .alloc ?_ ?_ _ | omega | (simp <;> omega))
  have k:=Num.wi_yes hs
  have k2:=Num.wi_yes ht
  have kf:Num.wi a 65536=true∧Num.wi b 65536=true∧Num.wi c 65536=true∧Num.wi d 65536=true∧Num.wi x 16384=true∧Num.wi y 16384=true:=by
    simp [Num.fairB] at hf;simp [hf]
  obtain ⟨f1,f2,f3,f4,f5,f6⟩:=kf
  have f1:=Num.wi_yes f1;have f2:=Num.wi_yes f2;have f3:=Num.wi_yes f3;have f4:=Num.wi_yes f4;have f5:=Num.wi_yes f5;have f6:=Num.wi_yes f6
  have m1:=Num.mul_bd a s _ _ f1 k
  have m2:=Num.mul_bd b t _ _ f2 k2
  have m3:=Num.mul_bd c s _ _ f3 k
  have m4:=Num.mul_bd d t _ _ f4 k2
  have n1:=Num.hu_le (a*s+b*t) 2048 10000000000 (by omega) (by omega) (by omega) (by omega)
  have n2:=Num.hu_le (c*s+d*t) 2048 10000000000 (by omega) (by omega) (by omega) (by omega)
  go_enter Tryz.func73,Tryz.ntmps73
  go_wp2_with (first | (go_at_call 120;refine (within_any _ _ _ (by omega) (by omega)).mono ?_;rintro e w' ⟨rfl,rfl⟩) | (go_at_call 121;refine (fair_any _ _ _ _ _ _ _).mono ?_;rintro e w1 ⟨rfl,hb⟩;obtain ⟨hc,hfz⟩:=bcell hb;have hz:w.heap.size+1+1<w1.heap.size:=by have:=hb.size;simp at this;omega))
  have hb0:Below w.heap.size w w1:=Below.trans (by (repeat any_goals first | exact .refl _ _ | assumption | refine .drew ?_ | refine below_drewN ?_ _ | refine .setCell ?_ ?_ _ | refine .alloc ?_ ?_ _ | omega | (simp <;> omega))) (hb.mono (by simp;omega))
  clear hb
  have c0:w1.cell? ⟨w.heap.size,0,none⟩=some (.int .i64 a):=by rw [hc _ _ (by simp;omega)];go_simp
  have c1:w1.cell? ⟨w.heap.size,1,none⟩=some (.int .i64 b):=by rw [hc _ _ (by simp;omega)];go_simp
  have c2:w1.cell? ⟨w.heap.size,2,none⟩=some (.int .i64 c):=by rw [hc _ _ (by simp;omega)];go_simp
  have c3:w1.cell? ⟨w.heap.size,3,none⟩=some (.int .i64 d):=by rw [hc _ _ (by simp;omega)];go_simp
  have c4:w1.cell? ⟨w.heap.size,4,none⟩=some (.int .i64 x):=by rw [hc _ _ (by simp;omega)];go_simp
  have c5:w1.cell? ⟨w.heap.size,5,none⟩=some (.int .i64 y):=by rw [hc _ _ (by simp;omega)];go_simp
  have e0:w1.cell? ⟨w.heap.size+1,0,none⟩=some (.int .i64 s):=by rw [hc _ _ (by simp)];go_simp
  have e1:w1.cell? ⟨w.heap.size+1,1,none⟩=some (.int .i64 t):=by rw [hc _ _ (by simp)];go_simp
  have q0:w1.cell? ⟨w.heap.size+1+1,0,none⟩=some (.int .i64 0):=by rw [hc _ _ (by simp)];go_simp
  have q1:w1.cell? ⟨w.heap.size+1+1,1,none⟩=some (.int .i64 0):=by rw [hc _ _ (by simp)];go_simp
  have z0:w1.frozen? ⟨w.heap.size+1+1,0,none⟩=false:=by rw [hfz _ _ (by simp)];go_simp
  have z1:w1.frozen? ⟨w.heap.size+1+1,1,none⟩=false:=by rw [hfz _ _ (by simp)];go_simp
  have hz1:w.heap.size+1<w1.heap.size:=by omega
  have hz2:w.heap.size<w1.heap.size:=by omega
  have HB:=hide hb0
  clear hb0
  clear hc hfz
  have p1:=wrap_ok (a*s) (by omega) (by omega)
  have p2:=wrap_ok (b*t) (by omega) (by omega)
  have p3:=wrap_ok (a*s+b*t) (by omega) (by omega)
  have p4:=wrap_ok (c*s) (by omega) (by omega)
  have p5:=wrap_ok (d*t) (by omega) (by omega)
  have p6:=wrap_ok (c*s+d*t) (by omega) (by omega)
  have p7:=wrap_ok (x+Num.hu (a*s+b*t) 2048) (by omega) (by omega)
  have p8:=wrap_ok (y+Num.hu (c*s+d*t) 2048) (by omega) (by omega)
  go_region_held3 (fun w'=>w'.cell? ⟨w.heap.size,0,none⟩=some (.int .i64 a)∧w'.cell? ⟨w.heap.size,1,none⟩=some (.int .i64 b)∧w'.cell? ⟨w.heap.size,2,none⟩=some (.int .i64 c)∧w'.cell? ⟨w.heap.size,3,none⟩=some (.int .i64 d)∧w'.cell? ⟨w.heap.size,4,none⟩=some (.int .i64 x)∧w'.cell? ⟨w.heap.size,5,none⟩=some (.int .i64 y)∧w'.cell? ⟨w.heap.size+1,0,none⟩=some (.int .i64 s)∧w'.cell? ⟨w.heap.size+1,1,none⟩=some (.int .i64 t)) (go_keep) ((go_at_call 122;refine (scaled_any _ _ (by omega) (by omega)).mono ?_;rintro e w' ⟨rfl,rfl⟩))
  go_wp2
  go_region_held3 (fun w'=>w'.cell? ⟨w.heap.size,0,none⟩=some (.int .i64 a)∧w'.cell? ⟨w.heap.size,1,none⟩=some (.int .i64 b)∧w'.cell? ⟨w.heap.size,2,none⟩=some (.int .i64 c)∧w'.cell? ⟨w.heap.size,3,none⟩=some (.int .i64 d)∧w'.cell? ⟨w.heap.size,4,none⟩=some (.int .i64 x)∧w'.cell? ⟨w.heap.size,5,none⟩=some (.int .i64 y)∧w'.cell? ⟨w.heap.size+1,0,none⟩=some (.int .i64 s)∧w'.cell? ⟨w.heap.size+1,1,none⟩=some (.int .i64 t)) (go_keep) ((go_at_call 122;refine (scaled_any _ _ (by omega) (by omega)).mono ?_;rintro e w' ⟨rfl,rfl⟩))
  go_wp2_with fail
  refine (inRange_any _ _ _).mono ?_
  rintro e w2 ⟨rfl,hb2⟩
  obtain ⟨hc2,hfz2⟩:=bcell hb2
  have hz2':w1.heap.size<w2.heap.size:=by have:=hb2.size;simp at this;omega
  have hb3:Below w.heap.size w w2:=Below.trans (by have:=HB.out;(repeat any_goals first | exact .refl _ _ | assumption | refine .drew ?_ | refine below_drewN ?_ _ | refine .setCell ?_ ?_ _ | refine .alloc ?_ ?_ _ | omega | (simp <;> omega))) (hb2.mono (by simp;omega))
  clear hb2
  have HB3:=hide hb3
  clear hb3
  have q20:w2.cell? ⟨w.heap.size+1+1,0,none⟩=some (.int .i64 0):=by rw [hc2 _ _ (by simp;omega)];go_simp
  have q21:w2.cell? ⟨w.heap.size+1+1,1,none⟩=some (.int .i64 0):=by rw [hc2 _ _ (by simp;omega)];go_simp
  have z20:w2.frozen? ⟨w.heap.size+1+1,0,none⟩=false:=by rw [hfz2 _ _ (by simp;omega)];go_simp
  have z21:w2.frozen? ⟨w.heap.size+1+1,1,none⟩=false:=by rw [hfz2 _ _ (by simp;omega)];go_simp
  have u20:w2.cell? ⟨w1.heap.size,0,none⟩=some (.int .i64 (x+Num.hu (a*s+b*t) 2048)):=by rw [hc2 _ _ (by simp)];go_simp
  have u21:w2.cell? ⟨w1.heap.size,1,none⟩=some (.int .i64 (y+Num.hu (c*s+d*t) 2048)):=by rw [hc2 _ _ (by simp)];go_simp
  have hz3:w.heap.size+1+1<w2.heap.size:=by omega
  clear hc2 hfz2 q0 q1 z0 z1 c0 c1 c2 c3 c4 c5 e0 e1 p1 p2 p3 p4 p5 p6 p7 p8
  cases hi:Num.inB (x+Num.hu (a*s+b*t) 2048) (y+Num.hu (c*s+d*t) 2048)
  · have hV:Num.placeV a b c d x y s t=(0,0,6):=by unfold Num.placeV;rw [hs,ht,hf,hi];rfl
    have HV:=hide hV
    clear hV
    go_wp2
    refine bodyPost_ret (v:=.tuple #[.agg #[.int .i64 0,.int .i64 0],.int .i64 6]) (by simp [results,Tryz.results73,go_sem,q20,q21]) rfl ⟨by rw [HV.out],?_⟩
    have:=HB3.out
    (repeat any_goals first | exact .refl _ _ | assumption | refine .drew ?_ | refine below_drewN ?_ _ | refine .setCell ?_ ?_ _ | refine .alloc ?_ ?_ _ | omega | (simp <;> omega))
  · have hV:Num.placeV a b c d x y s t=(x+Num.hu (a*s+b*t) 2048,y+Num.hu (c*s+d*t) 2048,0):=by unfold Num.placeV;rw [hs,ht,hf,hi];rfl
    have HV:=hide hV
    clear hV
    go_wp2
    refine bodyPost_ret (v:=.tuple #[.agg #[.int .i64 (x+Num.hu (a*s+b*t) 2048),.int .i64 (y+Num.hu (c*s+d*t) 2048)],.int .i64 0]) (by simp [results,Tryz.results73,go_sem,q20,q21]) rfl ⟨by rw [HV.out],?_⟩
    have:=HB3.out
    (repeat any_goals first | exact .refl _ _ | assumption | refine .drew ?_ | refine below_drewN ?_ _ | refine .setCell ?_ ?_ _ | refine .alloc ?_ ?_ _ | omega | (simp <;> omega))
end Go.Proofs.YtkhcjkmifddlbabGreatDoor
namespace Go.Proofs.YtkhcjkmifddlbabGreatDoor
namespace Num
def mx (u i a b:Int):Int:=u*a+i*b
def qSum (u i a b c:Int):Int:=u*u*a+2*i*u*b+i*i*c
def cSum (u i a b c d:Int):Int:=u*u*u*a+3*i*u*u*b+3*i*i*u*c+i*i*i*d
theorem mx_quad (u i a b c:Int):mx u i (mx u i a b) (mx u i b c)=qSum u i a b c:=by
  unfold mx qSum
  have e1:u*(u*a+i*b)=u*u*a+i*u*b:=by rw [Int.mul_add,←Int.mul_assoc,←Int.mul_assoc,Int.mul_comm u i]
  have e2:i*(u*b+i*c)=i*u*b+i*i*c:=by rw [Int.mul_add,←Int.mul_assoc,←Int.mul_assoc]
  have e3:2*i*u*b=2*(i*u*b):=by rw [Int.mul_assoc 2 i u,Int.mul_assoc 2]
  omega
theorem mx_cubic (u i a b c d:Int):mx u i (mx u i (mx u i a b) (mx u i b c)) (mx u i (mx u i b c) (mx u i c d))=cSum u i a b c d:=by
  rw [mx_quad u i a b c,mx_quad u i b c d]
  unfold mx qSum cSum
  have e1:u*(u*u*a+2*i*u*b+i*i*c)=u*u*u*a+2*(i*u*u*b)+i*i*u*c:=by
    rw [Int.mul_add,Int.mul_add]
    have a1:u*(u*u*a)=u*u*u*a:=by simp only [Int.mul_assoc]
    have a2:u*(2*i*u*b)=2*(i*u*u*b):=by simp only [Int.mul_assoc,Int.mul_left_comm u]
    have a3:u*(i*i*c)=i*i*u*c:=by simp only [Int.mul_assoc,Int.mul_left_comm u]
    omega
  have e2:i*(u*u*b+2*i*u*c+i*i*d)=i*u*u*b+2*(i*i*u*c)+i*i*i*d:=by
    rw [Int.mul_add,Int.mul_add]
    have a1:i*(u*u*b)=i*u*u*b:=by simp only [Int.mul_assoc]
    have a2:i*(2*i*u*c)=2*(i*i*u*c):=by simp only [Int.mul_assoc,Int.mul_left_comm i 2]
    have a3:i*(i*i*d)=i*i*i*d:=by simp only [Int.mul_assoc]
    omega
  have e3:3*i*u*u*b=3*(i*u*u*b):=by simp only [Int.mul_assoc]
  have e4:3*i*i*u*c=3*(i*i*u*c):=by simp only [Int.mul_assoc]
  omega
def IsSteps (d n:Int):Prop:=1≤n∧d≤16*n*n∧∀m,1≤m→m<n→16*m*m<d
theorem sq_mono {a b:Int} (h0:0≤a) (h:a≤b):16*a*a≤16*b*b:=by
  have h1:a*a≤b*b:=Int.mul_le_mul h h h0 (by omega)
  have e1:16*a*a=16*(a*a):=Int.mul_assoc _ _ _
  have e2:16*b*b=16*(b*b):=Int.mul_assoc _ _ _
  omega
theorem IsSteps.le {d n B:Int} (h:IsSteps d n) (hB:1≤B) (hd:d≤16*B*B):n≤B:=by
  rcases Int.lt_or_le B n with h1 | h1
  · have:=h.2.2 B hB h1;omega
  · exact h1
end Num
end Go.Proofs.YtkhcjkmifddlbabGreatDoor
namespace Go.Proofs.YtkhcjkmifddlbabGreatDoor
namespace Num
structure Sg where
  k:Int
  x0:Int
  y0:Int
  x1:Int
  y1:Int
  x2:Int
  y2:Int
  x3:Int
  y3:Int
def initS (p:Int×Int×Int):Sg:=⟨0,p.1,p.2.1,0,0,0,0,0,0⟩
def setTo (g:Sg) (p:Int×Int×Int):Sg:={ g with x3:=p.1,y3:=p.2.1 }
def addP (g:Sg) (p:Int×Int×Int):Sg:=if g.k=0 then { g with k:=p.2.2,x1:=p.1,y1:=p.2.1 } else { g with x2:=p.1,y2:=p.2.1 }
def addR (g:Sg) (m:Nat) (p:Int×Int×Int):Sg:=if m=0 then { g with k:=p.2.2,x1:=p.1,y1:=p.2.1 } else { g with k:=p.2.2,x2:=p.1,y2:=p.2.1 }
def walkL:List (Int×Int×Int)→Sg→List Sg
  | [],_=>[]
  | p::r,g=>if p.2.2=0 then setTo g p::walkL r (initS p) else walkL r (addP g p)
section
variable (X Y K:Nat→Int) (n:Nat)
def stp (t:Nat):Option (Int×Int×Int):=
  if t % 2=0 then some (2*X (t / 2 % n),2*Y (t / 2 % n),K (t / 2 % n))
  else if K (t / 2 % n)=1∧K ((t / 2+1) % n)=1 then some (X (t / 2 % n)+X ((t / 2+1) % n),Y (t / 2 % n)+Y ((t / 2+1) % n),0) else none
def onB (t:Nat):Bool:=match stp X Y K n t with
  | some p=>p.2.2 == 0
  | none=>false
def scanR:Nat→Nat→Sg→Nat→Sg
  | 0,_,g,_=>g
  | d+1,k,g,m=>match stp X Y K n k with
    | none=>scanR d (k+1) g m
    | some p=>if p.2.2=0 then setTo g p else scanR d (k+1) (addR g m p) (m+1)
def stv (t:Nat):Int×Int×Int:=
  if t % 2=0 then (2*X (t / 2 % n),2*Y (t / 2 % n),K (t / 2 % n))
  else (X (t / 2 % n)+X ((t / 2+1) % n),Y (t / 2 % n)+Y ((t / 2+1) % n),0)
def fromV (t:Nat):Sg:=scanR X Y K n (2*n) (t+1) (initS (stv X Y K n t)) 0
def refF (t:Nat):Option Sg:=if onB X Y K n t=true then some (fromV X Y K n t) else none
def refRing:List Sg:=(List.range (2*n)).filterMap (refF X Y K n)
def nx (i:Nat):Nat:=if i+1<n then i+1 else 0
def impF (i:Nat):List (Int×Int×Int):=(2*X i,2*Y i,K i)::if K i=1∧K (nx n i)=1 then [(X i+X (nx n i),Y i+Y (nx n i),0)] else []
def imp:List (Int×Int×Int):=(List.range n).flatMap (impF X Y K n)
end
section
variable {X Y K:Nat→Int} {n:Nat}
theorem stp_stv {t:Nat} {p:Int×Int×Int} (h:stp X Y K n t=some p):stv X Y K n t=p:=by
  unfold stp at h
  unfold stv
  split at h
  · rename_i e;rw [if_pos e];simpa using h
  · rename_i e
    split at h
    · rw [if_neg e];simpa using h
    · cases h
theorem stp_period (t:Nat):stp X Y K n (t+2*n)=stp X Y K n t:=by
  unfold stp
  rw [show (t+2*n) % 2=t % 2 by omega,show (t+2*n) / 2=t / 2+n by omega,show t / 2+n+1=(t / 2+1)+n by omega,Nat.add_mod_right,Nat.add_mod_right]
theorem onB_period (t:Nat):onB X Y K n (t+2*n)=onB X Y K n t:=by
  unfold onB;rw [stp_period]
theorem nx_mod (i:Nat) (h:i<n):nx n i=(i+1) % n:=by
  unfold nx
  split
  · rename_i e;rw [Nat.mod_eq_of_lt e]
  · rw [show i+1=n by omega,Nat.mod_self]
theorem imp_upto (i:Nat) (h:i≤n):(List.range i).flatMap (impF X Y K n)=(List.range (2*i)).filterMap (stp X Y K n):=by
  induction i with
  | zero=>simp
  | succ i ih=>
    have ih:=ih (by omega)
    rw [List.range_succ,List.flatMap_append,ih,show 2*(i+1)=2*i+1+1 by omega,List.range_succ,List.range_succ,List.filterMap_append,List.filterMap_append,List.append_assoc]
    congr 1
    have e1:(2*i) / 2=i:=by omega
    have e2:(2*i+1) / 2=i:=by omega
    have e3:i % n=i:=Nat.mod_eq_of_lt (by omega)
    have s1:stp X Y K n (2*i)=some (2*X i,2*Y i,K i):=by
      unfold stp;rw [if_pos (by omega),e1,e3]
    have s2:stp X Y K n (2*i+1)=if K i=1∧K (nx n i)=1 then some (X i+X (nx n i),Y i+Y (nx n i),0) else none:=by
      unfold stp;rw [if_neg (by omega),e2,e3,nx_mod i (by omega)]
    simp only [List.flatMap_cons,List.flatMap_nil,List.append_nil,impF,List.filterMap_cons,List.filterMap_nil,s1,s2]
    by_cases c:K i=1∧K (nx n i)=1
    · simp [c]
    · simp [c]
theorem imp_eq:imp X Y K n=(List.range (2*n)).filterMap (stp X Y K n):=imp_upto n (Nat.le_refl _)
def stops (X Y K:Nat→Int) (n a d:Nat):List (Int×Int×Int):=(List.range' a d).filterMap (stp X Y K n)
theorem stops_add (a d e:Nat):stops X Y K n a (d+e)=stops X Y K n a d++stops X Y K n (a+d) e:=by
  unfold stops
  rw [←List.filterMap_append]
  congr 1
  rw [←List.range'_append_1]
theorem stops_period (a d:Nat):stops X Y K n (a+2*n) d=stops X Y K n a d:=by
  unfold stops
  induction d generalizing a with
  | zero=>rfl
  | succ d ih=>
    rw [List.range'_succ,List.range'_succ,List.filterMap_cons,List.filterMap_cons,stp_period]
    have:=ih (a+1)
    rw [show a+2*n+1=a+1+2*n by omega,this]
theorem stops_one (a:Nat):stops X Y K n a 1=(stp X Y K n a).toList:=by
  unfold stops
  cases h:stp X Y K n a <;> simp [h]
def Inv (K:Nat→Int) (n a:Nat) (g:Sg) (m:Nat):Prop:=
  (m=0∧g.k=0)∨(0<m∧g.k≠0∧((a % 2=1∧K (a / 2 % n)=g.k)∨(a % 2=0∧2≤a∧K ((a / 2-1) % n)=g.k∧¬(K ((a / 2-1) % n)=1∧K (a / 2 % n)=1))))
theorem may_all (hn:0<n) (hs:∀i,i<n→badB K n i=false) (i:Nat):mayB (K ((i+n-1) % n)) (K (i % n)) (K ((i+1) % n))=true:=by
  have hj:i % n<n:=Nat.mod_lt _ hn
  have h:=hs (i % n) hj
  unfold badB at h
  rw [←prevK_mod K n _ hj,←nextK_mod K n _ hj] at h
  have e1:(i % n+n-1) % n=(i+n-1) % n:=by
    have hi:=Nat.div_add_mod i n
    rw [show i+n-1=(i % n+n-1)+n*(i / n) by omega,Nat.add_mul_mod_self_left]
  have e2:(i % n+1) % n=(i+1) % n:=by simp
  rw [e1,e2] at h
  simpa using h
theorem kinds_adj (hn:0<n) (hs:∀i,i<n→badB K n i=false) (i:Nat) (h1:1≤i) (a:K ((i-1) % n)≠0) (b:K (i % n)≠0) (c:¬(K ((i-1) % n)=1∧K (i % n)=1)):K ((i-1) % n)=K (i % n):=by
  have m1:=may_all hn hs i
  have m0:=may_all hn hs (i-1)
  have e1:(i+n-1) % n=(i-1) % n:=by rw [show i+n-1=(i-1)+n by omega,Nat.add_mod_right]
  have e2:(i-1+1) % n=i % n:=by rw [show i-1+1=i by omega]
  rw [e1] at m1
  rw [e2] at m0
  simp [mayB] at m0 m1
  omega
theorem walk_ref (hn:0<n) (hs:∀i,i<n→badB K n i=false) (E:Nat) (hE:onB X Y K n E=true) :
    ∀(d a s m:Nat) (g:Sg),s<a→a+d=E+1→E≤s+2*n→1≤d→fromV X Y K n s=scanR X Y K n (s+2*n+1-a) a g m→Inv K n a g m→(s % 2=1∨0<a) →
      walkL (stops X Y K n a d) g=fromV X Y K n s::(List.range' a (d-1)).filterMap (refF X Y K n):=by
  intro d
  induction d with
  | zero=>intro a s m g _ _ _ h;omega
  | succ d ih=>
    intro a s m g hsa had hEs _ hfrom hinv _
    have hst:stops X Y K n a (d+1)=(stp X Y K n a).toList++stops X Y K n (a+1) d:=by
      rw [show d+1=1+d by omega,stops_add,stops_one]
    have hfu:s+2*n+1-a=(s+2*n+1-(a+1))+1:=by omega
    rw [hst]
    cases hp:stp X Y K n a with
    | none=>
      have hd:1≤d:=by
        rcases Nat.eq_zero_or_pos d with h0 | h0
        · exfalso
          have:a=E:=by omega
          subst this
          simp [onB,hp] at hE
        · exact h0
      have hf2:fromV X Y K n s=scanR X Y K n (s+2*n+1-(a+1)) (a+1) g m:=by
        rw [hfrom,hfu];simp only [scanR,hp]
      have hinv2:Inv K n (a+1) g m:=by
        rcases hinv with h | ⟨hm,hk,hh⟩
        · exact .inl h
        · refine .inr ⟨hm,hk,?_⟩
          unfold stp at hp
          split at hp
          · cases hp
          · rename_i ho
            split at hp
            · cases hp
            · rename_i hno
              rcases hh with ⟨_,h2⟩ | ⟨h1,_⟩
              · refine .inr ⟨by omega,by omega,?_,?_⟩
                · rw [show (a+1) / 2-1=a / 2 by omega];exact h2
                · rw [show (a+1) / 2-1=a / 2 by omega,show (a+1) / 2=a / 2+1 by omega];exact hno
              · omega
      have:=ih (a+1) s m g (by omega) (by omega) hEs hd hf2 hinv2 (by omega)
      simp only [Option.toList_none,List.nil_append]
      rw [this]
      have er:(List.range' a (d+1-1)).filterMap (refF X Y K n)=(List.range' (a+1) (d-1)).filterMap (refF X Y K n):=by
        rw [show d+1-1=(d-1)+1 by omega,List.range'_succ,List.filterMap_cons]
        simp [refF,onB,hp]
      rw [er]
    | some p=>
      simp only [Option.toList_some,List.cons_append,List.nil_append,walkL]
      by_cases h0:p.2.2=0
      · rw [if_pos h0]
        have hon:onB X Y K n a=true:=by simp [onB,hp,h0]
        have hf2:fromV X Y K n s=setTo g p:=by
          rw [hfrom,hfu];simp only [scanR,hp,if_pos h0]
        rw [hf2]
        congr 1
        rcases Nat.eq_zero_or_pos d with hd | hd
        · subst hd;simp [stops,walkL]
        · have hfa:fromV X Y K n a=scanR X Y K n (a+2*n+1-(a+1)) (a+1) (initS p) 0:=by
            unfold fromV
            rw [stp_stv hp,show a+2*n+1-(a+1)=2*n by omega]
          have:=ih (a+1) a 0 (initS p) (by omega) (by omega) (by omega) hd hfa (.inl ⟨rfl,rfl⟩) (by omega)
          rw [this,show d+1-1=(d-1)+1 by omega,List.range'_succ,List.filterMap_cons]
          simp [refF,hon]
      · rw [if_neg h0]
        have hd:1≤d:=by
          rcases Nat.eq_zero_or_pos d with hz | hz
          · exfalso
            have:a=E:=by omega
            subst this
            simp [onB,hp,h0] at hE
          · exact hz
        have hev:a % 2=0∧p=(2*X (a / 2 % n),2*Y (a / 2 % n),K (a / 2 % n)):=by
          unfold stp at hp
          split at hp
          · rename_i e;exact ⟨e,by simpa using hp.symm⟩
          · split at hp
            · exfalso;simp at hp;rw [←hp] at h0;exact h0 rfl
            · cases hp
        obtain ⟨hev,hpe⟩:=hev
        have hpk:p.2.2=K (a / 2 % n):=by rw [hpe]
        have hadd:addP g p=addR g m p:=by
          rcases hinv with ⟨hm,hk⟩ | ⟨hm,hk,hh⟩
          · simp [addP,addR,hm,hk]
          · rcases hh with ⟨h1,_⟩ | ⟨_,h2,h3,h4⟩
            · omega
            · have ka:K ((a / 2-1) % n)=K (a / 2 % n):=kinds_adj hn hs (a / 2) (by omega) (by rw [h3];exact hk) (by rw [←hpk];exact h0) h4
              have:p.2.2=g.k:=by rw [hpk,←ka,h3]
              simp [addP,addR,hk,this,show ¬m=0 by omega]
        have hf2:fromV X Y K n s=scanR X Y K n (s+2*n+1-(a+1)) (a+1) (addR g m p) (m+1):=by
          rw [hfrom,hfu];simp only [scanR,hp,if_neg h0]
        have hinv2:Inv K n (a+1) (addR g m p) (m+1):=by
          have hk2:(addR g m p).k=p.2.2:=by unfold addR;split <;> rfl
          refine .inr ⟨by omega,by rw [hk2];exact h0,.inl ⟨by omega,?_⟩⟩
          rw [hk2,hpk,show (a+1) / 2=a / 2 by omega]
        rw [hadd]
        have:=ih (a+1) s (m+1) (addR g m p) (by omega) (by omega) hEs hd hf2 hinv2 (by omega)
        rw [this]
        have er:(List.range' a (d+1-1)).filterMap (refF X Y K n)=(List.range' (a+1) (d-1)).filterMap (refF X Y K n):=by
          rw [show d+1-1=(d-1)+1 by omega,List.range'_succ,List.filterMap_cons]
          simp [refF,onB,hp,h0]
        rw [er]
end
end Num
end Go.Proofs.YtkhcjkmifddlbabGreatDoor
namespace Go.Proofs.YtkhcjkmifddlbabGreatDoor
namespace Num
def sz (n:Int):Int:=if n<0 then -n else n
def gr (a b:Int):Int:=if b<a then a else b
def bendV (ax ay bx b2 cx cy:Int):Int:=gr (sz (ax-2*bx+cx)) (sz (ay-2*b2+cy))
theorem sz_bd {n B:Int} (h1:-B≤n) (h2:n≤B):0≤sz n∧sz n≤B:=by unfold sz;split <;> omega
theorem gr_bd {a b A:Int} (h1:0≤a) (h2:a≤A) (h3:0≤b) (h4:b≤A):0≤gr a b∧gr a b≤A:=by unfold gr;split <;> omega
theorem bendV_bd {ax ay bx b2 cx cy:Int} (h1:-16384≤ax∧ax≤16384) (h2:-16384≤ay∧ay≤16384) (h3:-16384≤bx∧bx≤16384) (h4:-16384≤b2∧b2≤16384) (h5:-16384≤cx∧cx≤16384) (h6:-16384≤cy∧cy≤16384) :
    0≤bendV ax ay bx b2 cx cy∧bendV ax ay bx b2 cx cy≤65536:=by
  have a:=sz_bd (n:=ax-2*bx+cx) (B:=65536) (by omega) (by omega)
  have b:=sz_bd (n:=ay-2*b2+cy) (B:=65536) (by omega) (by omega)
  exact gr_bd a.1 a.2 b.1 b.2
def needV (g:Sg):Int:=
  if g.k=1 then bendV g.x0 g.y0 g.x1 g.y1 g.x3 g.y3
  else if g.k=2 then 3*gr (bendV g.x0 g.y0 g.x1 g.y1 g.x2 g.y2) (bendV g.x1 g.y1 g.x2 g.y2 g.x3 g.y3) else 0
def rangeB (g:Sg):Bool:=inB g.x0 g.y0 && inB g.x3 g.y3 && (!(g.k == 1 || g.k == 2) || inB g.x1 g.y1) && (!(g.k == 2) || inB g.x2 g.y2)
theorem inB_yes {x y:Int} (h:inB x y=true):(-16384≤x∧x≤16384) ∧ -16384≤y∧y≤16384:=by
  simp [inB] at h
  exact ⟨wi_yes h.1,wi_yes h.2⟩
theorem range_yes {g:Sg} (h:rangeB g=true):inB g.x0 g.y0=true∧inB g.x3 g.y3=true∧((g.k=1∨g.k=2)→inB g.x1 g.y1=true)∧(g.k=2→inB g.x2 g.y2=true):=by
  simp only [rangeB,Bool.and_eq_true,Bool.or_eq_true,Bool.not_eq_true',Bool.or_eq_false_iff,beq_eq_false_iff_ne] at h
  obtain ⟨⟨⟨a,b⟩,c⟩,d⟩:=h
  refine ⟨a,b,fun e=>?_,fun e=>?_⟩
  · rcases c with c | c
    · omega
    · exact c
  · rcases d with d | d
    · exact absurd e d
    · exact d
theorem needV_bd {g:Sg} (h:rangeB g=true):0≤needV g∧needV g≤196608:=by
  obtain ⟨a,b,c,d⟩:=range_yes h
  have a:=inB_yes a
  have b:=inB_yes b
  unfold needV
  split
  · rename_i e
    have c:=inB_yes (c (.inl e))
    have:=bendV_bd a.1 a.2 c.1 c.2 b.1 b.2
    omega
  · split
    · rename_i e
      have c:=inB_yes (c (.inr e))
      have d:=inB_yes (d e)
      have p:=bendV_bd a.1 a.2 c.1 c.2 d.1 d.2
      have q:=bendV_bd c.1 c.2 d.1 d.2 b.1 b.2
      have:=gr_bd p.1 p.2 q.1 q.2
      omega
    · omega
def stepsV (d:Int):Int:=match (List.range 200).find? (fun (n:Nat)=>decide (d≤16*((n:Int)+1)*((n:Int)+1))) with
  | some n=>(n:Int)+1
  | none=>1
theorem stepsV_eq {d n:Int} (h:IsSteps d n) (hn:n≤200):stepsV d=n:=by
  have h1:=h.1
  have e:(List.range 200).find? (fun (n:Nat)=>decide (d≤16*((n:Int)+1)*((n:Int)+1)))=some (n-1).toNat:=by
    rw [List.find?_range_eq_some]
    have e1:(((n-1).toNat:Nat):Int)+1=n:=by omega
    refine ⟨?_,?_,fun j hj=>?_⟩
    · rw [e1];simpa using h.2.1
    · simp;omega
    · have:=h.2.2 ((j:Int)+1) (by omega) (by omega)
      simp;omega
  unfold stepsV
  rw [e]
  show (((n-1).toNat:Nat):Int)+1=n
  omega
theorem steps_exist {d:Int} (B:Nat) (hB:1≤B) (hd:d≤16*(B:Int)*B):∃n,IsSteps d n:=by
  induction B with
  | zero=>omega
  | succ B ih=>
    by_cases h0:B=0
    · subst h0
      exact ⟨1,by omega,by simpa using hd,fun m h1 h2=>by omega⟩
    · by_cases h:d≤16*(B:Int)*B
      · exact ih (by omega) h
      · refine ⟨(B:Int)+1,by omega,by simpa using hd,fun m h1 h2=>?_⟩
        have:=sq_mono (a:=m) (b:=B) (by omega) (by omega)
        omega
theorem stepsV_is {d:Int} (hd:d≤196608):IsSteps d (stepsV d):=by
  obtain ⟨n,h⟩:=steps_exist (d:=d) 111 (by omega) (by omega)
  rw [stepsV_eq h (by have:=h.le (B:=111) (by omega) (by omega);omega)];exact h
theorem stepsV_le {d:Int} (hd:d≤196608):stepsV d≤111:=(stepsV_is hd).le (by omega) (by omega)
theorem stepsV_pos {d:Int} (hd:d≤196608):1≤stepsV d:=(stepsV_is hd).1
theorem stepsV_zero {d:Int} (hd:d≤0):stepsV d=1:=stepsV_eq ⟨by omega,by omega,fun m h1 h2=>by omega⟩ (by omega)
def spotX (g:Sg) (n i:Int):Int:=
  if g.k=1 then hu (qSum (n-i) i g.x0 g.x1 g.x3) (n*n) else if g.k=2 then hu (cSum (n-i) i g.x0 g.x1 g.x2 g.x3) (n*n*n) else if i=n then g.x3 else g.x0
def spotY (g:Sg) (n i:Int):Int:=
  if g.k=1 then hu (qSum (n-i) i g.y0 g.y1 g.y3) (n*n) else if g.k=2 then hu (cSum (n-i) i g.y0 g.y1 g.y2 g.y3) (n*n*n) else if i=n then g.y3 else g.y0
def kindB (g:Sg):Bool:=g.k == 0 || g.k == 1 || g.k == 2
def curveE (g:Sg):Int:=if kindB g=false then 3 else if rangeB g=false then 6 else 0
def curveN (g:Sg):Nat:=(stepsV (needV g)).toNat
def curveL (g:Sg):List (Int×Int):=if curveE g=0 then (List.range (curveN g+1)).map fun (i:Nat)=>(spotX g (curveN g) i,spotY g (curveN g) i) else []
theorem curve_ok {g:Sg} (h:curveE g=0):kindB g=true∧rangeB g=true:=by
  unfold curveE at h
  cases hk:kindB g
  · rw [if_pos hk] at h;omega
  · cases hr:rangeB g
    · rw [hk,hr] at h;simp at h
    · exact ⟨rfl,rfl⟩
theorem kind_yes {g:Sg} (h:kindB g=true):g.k=0∨g.k=1∨g.k=2:=by
  simp [kindB] at h;omega
theorem kind_no {g:Sg} (h:kindB g=false):g.k≠0∧g.k≠1∧g.k≠2:=by
  simp [kindB] at h;omega
theorem mul3_bd {a b c A B C:Int} (ha:-A≤a∧a≤A) (hb:-B≤b∧b≤B) (hc:-C≤c∧c≤C):-(A*B*C)≤a*b*c∧a*b*c≤A*B*C:=
  mul_bd _ _ _ _ (mul_bd _ _ _ _ ha hb) hc
theorem mul4_bd {a b c d A B C D:Int} (ha:-A≤a∧a≤A) (hb:-B≤b∧b≤B) (hc:-C≤c∧c≤C) (hd:-D≤d∧d≤D):-(A*B*C*D)≤a*b*c*d∧a*b*c*d≤A*B*C*D:=
  mul_bd _ _ _ _ (mul3_bd ha hb hc) hd
end Num
end Go.Proofs.YtkhcjkmifddlbabGreatDoor
namespace Go.Proofs.YtkhcjkmifddlbabGreatDoor
open Go.RowKit
theorem size_any (n:Int) (w:World) (h1:-1000000≤n) (h2:n≤1000000) :
    Calls Tryz.prog 184 #[.int .i64 n] w fun e w'=>e=.returned (.int .i64 (Num.sz n))∧w'=w:=by
  by_cases a:n<0
  · go_enter Tryz.func184,Tryz.ntmps184
    go_wp2
    go_ret
    exact ⟨ret_int (by unfold Num.sz;rw [if_pos (by omega)]),rfl⟩
  · go_enter Tryz.func184,Tryz.ntmps184
    go_wp2
    go_ret
    exact ⟨ret_int (by unfold Num.sz;rw [if_neg (by omega)]),rfl⟩
theorem greater_any (a b:Int) (w:World) :
    Calls Tryz.prog 160 #[.int .i64 a,.int .i64 b] w fun e w'=>e=.returned (.int .i64 (Num.gr a b))∧w'=w:=by
  by_cases h:b<a
  · go_enter Tryz.func160,Tryz.ntmps160
    go_wp2
    go_ret
    exact ⟨ret_int (by unfold Num.gr;rw [if_pos (by omega)]),rfl⟩
  · go_enter Tryz.func160,Tryz.ntmps160
    go_wp2
    go_ret
    exact ⟨ret_int (by unfold Num.gr;rw [if_neg (by omega)]),rfl⟩
theorem bend_any (ax ay bx b2 cx cy:Int) (w:World) (h1:-16384≤ax∧ax≤16384) (h2:-16384≤ay∧ay≤16384) (h3:-16384≤bx∧bx≤16384) (h4:-16384≤b2∧b2≤16384) (h5:-16384≤cx∧cx≤16384) (h6:-16384≤cy∧cy≤16384) :
    Calls Tryz.prog 159 #[.agg #[.int .i64 ax,.int .i64 ay],.agg #[.int .i64 bx,.int .i64 b2],.agg #[.int .i64 cx,.int .i64 cy]] w fun e w'=>e=.returned (.int .i64 (Num.bendV ax ay bx b2 cx cy))∧Below w.heap.size w w':=by
  go_enter Tryz.func159,Tryz.ntmps159
  go_wp2_with (first | (go_at_call 184;refine (size_any _ _ (by omega) (by omega)).mono ?_;rintro e w' ⟨rfl,rfl⟩) | (go_at_call 160;refine (greater_any _ _ _).mono ?_;rintro e w' ⟨rfl,rfl⟩))
  go_ret
  exact ⟨rfl,by (repeat any_goals first | exact .refl _ _ | assumption | refine .drew ?_ | refine below_drewN ?_ _ | refine .setCell ?_ ?_ _ | refine .alloc ?_ ?_ _ | omega | (simp <;> omega))⟩
theorem inRange_exact (x y:Int) (w:World) :
    Calls Tryz.prog 123 #[.agg #[.int .i64 x,.int .i64 y]] w fun e w'=>e=.returned (.bool (Num.inB x y))∧w'=w.alloc (.cells #[.int .i64 x,.int .i64 y] 42):=by
  go_enter Tryz.func123,Tryz.ntmps123
  go_wp2_with (go_at_call 120;refine (within_any _ _ _ (by omega) (by omega)).mono ?_;rintro e w' ⟨rfl,rfl⟩)
  all_goals
    go_ret
    exact ⟨ret_bool (by simp [Num.inB, *]),rfl⟩
theorem segRange_any (k x0 y0 x1 y1 x2 y2 x3 y3:Int) (w:World) :
    Calls Tryz.prog 124 #[.agg #[.int .i64 k,.int .i64 x0,.int .i64 y0,.int .i64 x1,.int .i64 y1,.int .i64 x2,.int .i64 y2,.int .i64 x3,.int .i64 y3]] w fun e w'=>e=.returned (.bool (Num.rangeB ⟨k,x0,y0,x1,y1,x2,y2,x3,y3⟩))∧Below w.heap.size w w':=by
  by_cases h1:k=1
  · subst h1
    go_enter Tryz.func124,Tryz.ntmps124
    go_wp2_with (go_at_call 123;refine (inRange_exact _ _ _).mono ?_;rintro e w' ⟨rfl,rfl⟩)
    all_goals
      go_ret
      exact ⟨ret_bool (by simp [Num.rangeB, *]),by (repeat any_goals first | exact .refl _ _ | assumption | refine .drew ?_ | refine below_drewN ?_ _ | refine .setCell ?_ ?_ _ | refine .alloc ?_ ?_ _ | omega | (simp <;> omega))⟩
  · by_cases h2:k=2
    · subst h2
      go_enter Tryz.func124,Tryz.ntmps124
      go_wp2_with (go_at_call 123;refine (inRange_exact _ _ _).mono ?_;rintro e w' ⟨rfl,rfl⟩)
      all_goals
        go_ret
        exact ⟨ret_bool (by simp [Num.rangeB, *]),by (repeat any_goals first | exact .refl _ _ | assumption | refine .drew ?_ | refine below_drewN ?_ _ | refine .setCell ?_ ?_ _ | refine .alloc ?_ ?_ _ | omega | (simp <;> omega))⟩
    · have b1:(k == 1)=false:=by simpa using h1
      have b2:(k == 2)=false:=by simpa using h2
      go_enter Tryz.func124,Tryz.ntmps124
      go_wp2_with (go_at_call 123;refine (inRange_exact _ _ _).mono ?_;rintro e w' ⟨rfl,rfl⟩)
      all_goals
        go_ret
        exact ⟨ret_bool (by simp [Num.rangeB, *]),by (repeat any_goals first | exact .refl _ _ | assumption | refine .drew ?_ | refine below_drewN ?_ _ | refine .setCell ?_ ?_ _ | refine .alloc ?_ ?_ _ | omega | (simp <;> omega))⟩
theorem quadAt_any (a b c i n:Int) (w:World) (ha:-16384≤a∧a≤16384) (hb:-16384≤b∧b≤16384) (hc:-16384≤c∧c≤16384) (hi:0≤i) (hin:i≤n) (h1:1≤n) (hn:n≤111) :
    Calls Tryz.prog 161 #[.int .i64 a,.int .i64 b,.int .i64 c,.int .i64 i,.int .i64 n] w fun e w'=>e=.returned (.int .i64 (Num.hu (Num.qSum (n-i) i a b c) (n*n)))∧w'=w:=by
  have k0:-111≤n-i∧n-i≤111:=by omega
  have i0:-111≤i∧i≤111:=by omega
  have n0:-111≤n∧n≤111:=by omega
  have m1:=Num.mul_bd (n-i) (n-i) _ _ k0 k0
  have m2:=Num.mul3_bd k0 k0 ha
  have m3:=Num.mul3_bd (a:=2*i) (A:=222) (by omega) k0 hb
  have m4:=Num.mul_bd (2*i) (n-i) 222 _ (by omega) k0
  have m5:=Num.mul_bd i i _ _ i0 i0
  have m6:=Num.mul3_bd i0 i0 hc
  have m7:=Num.mul_bd n n _ _ n0 n0
  have m8:1≤n*n:=by have:=Int.mul_le_mul h1 h1 (by omega) (by omega);omega
  clear k0 i0 n0
  go_enter Tryz.func161,Tryz.ntmps161
  go_wp2_with (go_at_call 158;refine (halfUp_any _ _ _ (by omega) (by omega) (by omega) (by omega)).mono ?_;rintro e w' ⟨rfl,rfl⟩)
  go_ret
  exact ⟨rfl,rfl⟩
theorem cubicAt_any (a b c d i n:Int) (w:World) (ha:-16384≤a∧a≤16384) (hb:-16384≤b∧b≤16384) (hc:-16384≤c∧c≤16384) (hd:-16384≤d∧d≤16384) (hi:0≤i) (hin:i≤n) (h1:1≤n) (hn:n≤111) :
    Calls Tryz.prog 162 #[.int .i64 a,.int .i64 b,.int .i64 c,.int .i64 d,.int .i64 i,.int .i64 n] w fun e w'=>e=.returned (.int .i64 (Num.hu (Num.cSum (n-i) i a b c d) (n*n*n)))∧w'=w:=by
  have k0:-111≤n-i∧n-i≤111:=by omega
  have i0:-111≤i∧i≤111:=by omega
  have n0:-111≤n∧n≤111:=by omega
  have j0:-333≤3*i∧3*i≤333:=by omega
  have m1:=Num.mul_bd (n-i) (n-i) _ _ k0 k0
  have m2:=Num.mul3_bd k0 k0 k0
  have m3:=Num.mul4_bd k0 k0 k0 ha
  have m4:=Num.mul_bd (3*i) (n-i) _ _ j0 k0
  have m5:=Num.mul3_bd j0 k0 k0
  have m6:=Num.mul4_bd j0 k0 k0 hb
  have m7:=Num.mul_bd (3*i) i _ _ j0 i0
  have m8:=Num.mul3_bd j0 i0 k0
  have m9:=Num.mul4_bd j0 i0 k0 hc
  have p1:=Num.mul_bd i i _ _ i0 i0
  have p2:=Num.mul3_bd i0 i0 i0
  have p3:=Num.mul4_bd i0 i0 i0 hd
  have p4:=Num.mul_bd n n _ _ n0 n0
  have p5:=Num.mul3_bd n0 n0 n0
  have p6:1≤n*n:=by have:=Int.mul_le_mul h1 h1 (by omega) (by omega);omega
  have p7:1≤n*n*n:=by have:=Int.mul_le_mul p6 h1 (by omega) (by omega);omega
  have HS:Hid ((n-i)*(n-i)*(n-i)*a+3*i*(n-i)*(n-i)*b+(3*i*i*(n-i)*c+i*i*i*d)=Num.cSum (n-i) i a b c d):=by unfold Hid Num.cSum;omega
  clear k0 i0 n0 j0
  go_enter Tryz.func162,Tryz.ntmps162
  go_wp2_with (go_at_call 158;refine (halfUp_any _ _ _ (by omega) (by omega) (by omega) (by omega)).mono ?_;rintro e w' ⟨rfl,rfl⟩)
  go_ret
  exact ⟨ret_int (by rw [HS.out]),rfl⟩
theorem steps_round {d q S:Int} (h:Num.IsSteps d S) (h1:1≤q) (h2:q≤S):(16*q*q<d→q+1≤S)∧(¬16*q*q<d→q=S):=by
  constructor
  · intro h3
    rcases Int.lt_or_le q S with h4 | h4
    · omega
    · have:q=S:=by omega
      subst this
      have:=h.2.1
      omega
  · intro h3
    rcases Int.lt_or_le q S with h4 | h4
    · have:=h.2.2 q h1 h4;omega
    · omega
end Go.Proofs.YtkhcjkmifddlbabGreatDoor
namespace Go.Proofs.YtkhcjkmifddlbabGreatDoor
open Go.RowKit
theorem chords_any (k x0 y0 x1 y1 x2 y2 x3 y3:Int) (w:World) (hr:Num.rangeB (⟨k,x0,y0,x1,y1,x2,y2,x3,y3⟩:Num.Sg)=true) :
    Calls Tryz.prog 125 #[.agg #[.int .i64 k,.int .i64 x0,.int .i64 y0,.int .i64 x1,.int .i64 y1,.int .i64 x2,.int .i64 y2,.int .i64 x3,.int .i64 y3]] w fun e w'=>e=.returned (.int .i64 (Num.stepsV (Num.needV (⟨k,x0,y0,x1,y1,x2,y2,x3,y3⟩:Num.Sg))))∧Below w.heap.size w w':=by
  obtain ⟨r0,r3,r1,r2⟩:=Num.range_yes hr
  have hneed:=Num.needV_bd hr
  have hS:=Num.stepsV_is hneed.2
  have hSle:=Num.stepsV_le hneed.2
  obtain ⟨S,hSe⟩:∃S,S=Num.stepsV (Num.needV (⟨k,x0,y0,x1,y1,x2,y2,x3,y3⟩:Num.Sg)):=⟨_,rfl⟩
  rw [←hSe] at hS hSle ⊢
  obtain ⟨D,hD⟩:∃D,D=Num.needV (⟨k,x0,y0,x1,y1,x2,y2,x3,y3⟩:Num.Sg):=⟨_,rfl⟩
  rw [←hD] at hS hneed
  have HS:=hide hS
  clear hSe hS hr
  obtain ⟨a1,a2⟩:=Num.inB_yes r0
  obtain ⟨b1,b2⟩:=Num.inB_yes r3
  clear r0 r3
  by_cases h1:k=1
  · subst h1
    obtain ⟨c1,c2⟩:=Num.inB_yes (r1 (.inl rfl))
    have HD:Hid (D=Num.bendV x0 y0 x1 y1 x3 y3):=by unfold Hid;rw [hD];simp [Num.needV]
    clear r1 r2 hD
    go_enter Tryz.func125,Tryz.ntmps125
    go_wp2_with fail
    refine (bend_any _ _ _ _ _ _ _ a1 a2 c1 c2 b1 b2).mono ?_
    rw [←HD.out]
    rintro e w1 ⟨rfl,hb⟩
    have hb0:Below w.heap.size w w1:=Below.trans (by (repeat any_goals first | exact .refl _ _ | assumption | refine .drew ?_ | refine below_drewN ?_ _ | refine .setCell ?_ ?_ _ | refine .alloc ?_ ?_ _ | omega | (simp <;> omega))) (hb.mono (by simp))
    clear hb a1 a2 b1 b2 c1 c2
    go_wp2_with fail
    go_loop [6] (fun t=>∃q:Int,1≤q∧q≤S∧t=.int .i64 q) (fun t=>(S-intOf t).toNat)
    case atStart=>exact ⟨1,by omega,HS.out.1,rfl⟩
    case round=>
      obtain ⟨q,q1,q2,rfl⟩:=hrel
      obtain ⟨s1,s2⟩:=steps_round HS.out q1 q2
      have b1:=Num.sq_mono (a:=q) (b:=111) (by omega) (by omega)
      have b0:=Num.sq_mono (a:=0) (b:=q) (by omega) (by omega)
      by_cases hlt:16*q*q<D
      · have s3:=s1 hlt
        clear s1 s2
        go_wp2
        go_round
        case rel=>exact ⟨q+1,by omega,by omega,rfl⟩
        case measure=>simp [intOf];omega
      · have HE:=hide (s2 hlt)
        clear s1 s2
        go_wp2
        go_ret
        exact ⟨ret_int HE.out,hb0⟩
  · by_cases h2:k=2
    · subst h2
      obtain ⟨c1,c2⟩:=Num.inB_yes (r1 (.inr rfl))
      obtain ⟨d1,d2⟩:=Num.inB_yes (r2 rfl)
      have HD:Hid (D=3*Num.gr (Num.bendV x0 y0 x1 y1 x2 y2) (Num.bendV x1 y1 x2 y2 x3 y3)):=by unfold Hid;rw [hD];simp [Num.needV]
      have p:=Num.bendV_bd a1 a2 c1 c2 d1 d2
      have q:=Num.bendV_bd c1 c2 d1 d2 b1 b2
      have gb:=Num.gr_bd p.1 p.2 q.1 q.2
      clear r1 r2 hD p q
      go_enter Tryz.func125,Tryz.ntmps125
      go_wp2_with fail
      refine (bend_any _ _ _ _ _ _ _ a1 a2 c1 c2 d1 d2).mono ?_
      rintro e w1 ⟨rfl,hb⟩
      obtain ⟨hc,hfz⟩:=bcell hb
      have hz:w.heap.size<w1.heap.size:=by have:=hb.size;simp at this;omega
      have hb0:Below w.heap.size w w1:=Below.trans (by (repeat any_goals first | exact .refl _ _ | assumption | refine .drew ?_ | refine below_drewN ?_ _ | refine .setCell ?_ ?_ _ | refine .alloc ?_ ?_ _ | omega | (simp <;> omega))) (hb.mono (by simp))
      have e3:w1.cell? ⟨w.heap.size,3,none⟩=some (.int .i64 x1):=by rw [hc _ _ (by simp)];go_simp
      have e4:w1.cell? ⟨w.heap.size,4,none⟩=some (.int .i64 y1):=by rw [hc _ _ (by simp)];go_simp
      have e5:w1.cell? ⟨w.heap.size,5,none⟩=some (.int .i64 x2):=by rw [hc _ _ (by simp)];go_simp
      have e6:w1.cell? ⟨w.heap.size,6,none⟩=some (.int .i64 y2):=by rw [hc _ _ (by simp)];go_simp
      have e7:w1.cell? ⟨w.heap.size,7,none⟩=some (.int .i64 x3):=by rw [hc _ _ (by simp)];go_simp
      have e8:w1.cell? ⟨w.heap.size,8,none⟩=some (.int .i64 y3):=by rw [hc _ _ (by simp)];go_simp
      clear hb hc hfz
      go_wp2_with fail
      refine (bend_any _ _ _ _ _ _ _ c1 c2 d1 d2 b1 b2).mono ?_
      rintro e w2 ⟨rfl,hb2⟩
      have hb3:Below w.heap.size w w2:=hb0.trans (hb2.mono (by omega))
      clear hb2 hb0 a1 a2 b1 b2 c1 c2 d1 d2 e3 e4 e5 e6 e7 e8
      go_wp2_with (go_at_call 160;refine (greater_any _ _ _).mono ?_;rintro e w' ⟨rfl,rfl⟩)
      rw [←HD.out]
      go_wp2_with fail
      go_loop [6] (fun t=>∃q:Int,1≤q∧q≤S∧t=.int .i64 q) (fun t=>(S-intOf t).toNat)
      case atStart=>exact ⟨1,by omega,HS.out.1,rfl⟩
      case round=>
        obtain ⟨q,q1,q2,rfl⟩:=hrel
        obtain ⟨s1,s2⟩:=steps_round HS.out q1 q2
        have b1:=Num.sq_mono (a:=q) (b:=111) (by omega) (by omega)
        have b0:=Num.sq_mono (a:=0) (b:=q) (by omega) (by omega)
        by_cases hlt:16*q*q<D
        · have s3:=s1 hlt
          clear s1 s2
          go_wp2
          go_round
          case rel=>exact ⟨q+1,by omega,by omega,rfl⟩
          case measure=>simp [intOf];omega
        · have HE:=hide (s2 hlt)
          clear s1 s2
          go_wp2
          go_ret
          exact ⟨ret_int HE.out,hb3⟩
    · have t1:(k == 1)=false:=by simpa using h1
      have t2:(k == 2)=false:=by simpa using h2
      have hD0:D=0:=by rw [hD];simp [Num.needV,h1,h2]
      clear r1 r2 hD
      subst hD0
      have hS1:S=1:=by
        rcases Int.lt_or_le 1 S with h | h
        · have:=HS.out.2.2 1 (by omega) h;omega
        · have:=HS.out.1;omega
      clear a1 a2 b1 b2 h1 h2
      go_enter Tryz.func125,Tryz.ntmps125
      go_wp2_with fail
      go_loop [6] (fun t=>t=.int .i64 1) (fun _=>0)
      case atStart=>rfl
      case round=>
        subst hrel
        go_wp2
        go_ret
        exact ⟨ret_int (by omega),by (repeat any_goals first | exact .refl _ _ | assumption | refine .drew ?_ | refine below_drewN ?_ _ | refine .setCell ?_ ?_ _ | refine .alloc ?_ ?_ _ | omega | (simp <;> omega))⟩
theorem spotOf_any (k x0 y0 x1 y1 x2 y2 x3 y3 i n:Int) (w:World) (hr:Num.rangeB (⟨k,x0,y0,x1,y1,x2,y2,x3,y3⟩:Num.Sg)=true) (hi:0≤i) (hin:i≤n) (h1:1≤n) (hn:n≤111) :
    Calls Tryz.prog 126 #[.agg #[.int .i64 k,.int .i64 x0,.int .i64 y0,.int .i64 x1,.int .i64 y1,.int .i64 x2,.int .i64 y2,.int .i64 x3,.int .i64 y3],.int .i64 i,.int .i64 n] w fun e w'=>e=.returned (.agg #[.int .i64 (Num.spotX (⟨k,x0,y0,x1,y1,x2,y2,x3,y3⟩:Num.Sg) n i),.int .i64 (Num.spotY (⟨k,x0,y0,x1,y1,x2,y2,x3,y3⟩:Num.Sg) n i)])∧Below w.heap.size w w':=by
  obtain ⟨r0,r3,r1,r2⟩:=Num.range_yes hr
  obtain ⟨a1,a2⟩:=Num.inB_yes r0
  obtain ⟨b1,b2⟩:=Num.inB_yes r3
  clear r0 r3 hr
  by_cases e1:k=1
  · subst e1
    obtain ⟨c1,c2⟩:=Num.inB_yes (r1 (.inl rfl))
    have HX:Hid (Num.spotX (⟨1,x0,y0,x1,y1,x2,y2,x3,y3⟩:Num.Sg) n i=Num.hu (Num.qSum (n-i) i x0 x1 x3) (n*n)):=by unfold Hid Num.spotX;rw [if_pos rfl]
    have HY:Hid (Num.spotY (⟨1,x0,y0,x1,y1,x2,y2,x3,y3⟩:Num.Sg) n i=Num.hu (Num.qSum (n-i) i y0 y1 y3) (n*n)):=by unfold Hid Num.spotY;rw [if_pos rfl]
    clear r1 r2
    rw [HX.out,HY.out]
    go_enter Tryz.func126,Tryz.ntmps126
    go_wp2_with (go_at_call 161;refine (quadAt_any _ _ _ _ _ _ (by assumption) (by assumption) (by assumption) hi hin h1 hn).mono ?_;rintro e w' ⟨rfl,rfl⟩)
    refine bodyPost_ret (v:=.agg #[.int .i64 (Num.hu (Num.qSum (n-i) i x0 x1 x3) (n*n)),.int .i64 (Num.hu (Num.qSum (n-i) i y0 y1 y3) (n*n))]) (by simp [results,Tryz.results126,go_sem]) rfl ⟨rfl,?_⟩
    clear a1 a2 b1 b2 c1 c2
    (repeat any_goals first | exact .refl _ _ | assumption | refine .drew ?_ | refine below_drewN ?_ _ | refine .setCell ?_ ?_ _ | refine .alloc ?_ ?_ _ | omega | (simp <;> omega))
  · by_cases e2:k=2
    · subst e2
      obtain ⟨c1,c2⟩:=Num.inB_yes (r1 (.inr rfl))
      obtain ⟨d1,d2⟩:=Num.inB_yes (r2 rfl)
      have HX:Hid (Num.spotX (⟨2,x0,y0,x1,y1,x2,y2,x3,y3⟩:Num.Sg) n i=Num.hu (Num.cSum (n-i) i x0 x1 x2 x3) (n*n*n)):=by unfold Hid Num.spotX;rw [if_neg (by show ¬(2:Int)=1;decide),if_pos rfl]
      have HY:Hid (Num.spotY (⟨2,x0,y0,x1,y1,x2,y2,x3,y3⟩:Num.Sg) n i=Num.hu (Num.cSum (n-i) i y0 y1 y2 y3) (n*n*n)):=by unfold Hid Num.spotY;rw [if_neg (by show ¬(2:Int)=1;decide),if_pos rfl]
      clear r1 r2
      rw [HX.out,HY.out]
      go_enter Tryz.func126,Tryz.ntmps126
      go_wp2_with (go_at_call 162;refine (cubicAt_any _ _ _ _ _ _ _ (by assumption) (by assumption) (by assumption) (by assumption) hi hin h1 hn).mono ?_;rintro e w' ⟨rfl,rfl⟩)
      refine bodyPost_ret (v:=.agg #[.int .i64 (Num.hu (Num.cSum (n-i) i x0 x1 x2 x3) (n*n*n)),.int .i64 (Num.hu (Num.cSum (n-i) i y0 y1 y2 y3) (n*n*n))]) (by simp [results,Tryz.results126,go_sem]) rfl ⟨rfl,?_⟩
      clear a1 a2 b1 b2 c1 c2 d1 d2
      (repeat any_goals first | exact .refl _ _ | assumption | refine .drew ?_ | refine below_drewN ?_ _ | refine .setCell ?_ ?_ _ | refine .alloc ?_ ?_ _ | omega | (simp <;> omega))
    · have t1:(k == 1)=false:=by simpa using e1
      have t2:(k == 2)=false:=by simpa using e2
      clear r1 r2 a1 a2 b1 b2
      by_cases ein:i=n
      · have HX:Hid (Num.spotX (⟨k,x0,y0,x1,y1,x2,y2,x3,y3⟩:Num.Sg) n i=x3):=by unfold Hid Num.spotX;rw [if_neg e1,if_neg e2,if_pos ein]
        have HY:Hid (Num.spotY (⟨k,x0,y0,x1,y1,x2,y2,x3,y3⟩:Num.Sg) n i=y3):=by unfold Hid Num.spotY;rw [if_neg e1,if_neg e2,if_pos ein]
        have t3:(i == n)=true:=by simpa using ein
        rw [HX.out,HY.out]
        clear e1 e2 ein
        go_enter Tryz.func126,Tryz.ntmps126
        go_wp2
        refine bodyPost_ret (v:=.agg #[.int .i64 x3,.int .i64 y3]) (by simp [results,Tryz.results126,go_sem]) rfl ⟨rfl,?_⟩
        (repeat any_goals first | exact .refl _ _ | assumption | refine .drew ?_ | refine below_drewN ?_ _ | refine .setCell ?_ ?_ _ | refine .alloc ?_ ?_ _ | omega | (simp <;> omega))
      · have HX:Hid (Num.spotX (⟨k,x0,y0,x1,y1,x2,y2,x3,y3⟩:Num.Sg) n i=x0):=by unfold Hid Num.spotX;rw [if_neg e1,if_neg e2,if_neg ein]
        have HY:Hid (Num.spotY (⟨k,x0,y0,x1,y1,x2,y2,x3,y3⟩:Num.Sg) n i=y0):=by unfold Hid Num.spotY;rw [if_neg e1,if_neg e2,if_neg ein]
        have t3:(i == n)=false:=by simpa using ein
        rw [HX.out,HY.out]
        clear e1 e2 ein
        go_enter Tryz.func126,Tryz.ntmps126
        go_wp2
        refine bodyPost_ret (v:=.agg #[.int .i64 x0,.int .i64 y0]) (by simp [results,Tryz.results126,go_sem]) rfl ⟨rfl,?_⟩
        (repeat any_goals first | exact .refl _ _ | assumption | refine .drew ?_ | refine below_drewN ?_ _ | refine .setCell ?_ ?_ _ | refine .alloc ?_ ?_ _ | omega | (simp <;> omega))
end Go.Proofs.YtkhcjkmifddlbabGreatDoor
namespace Go.Proofs.YtkhcjkmifddlbabGreatDoor
open Go.RowKit Go.Deep
def pc (X Y K:Nat→Int) (q:Nat):Value:=.int .i64 (if q % 3=0 then X (q / 3) else if q % 3=1 then Y (q / 3) else K (q / 3))
theorem pc0 (X Y K:Nat→Int) (k:Nat):pc X Y K (k*3)=.int .i64 (X k):=by
  unfold pc;rw [if_pos (by omega),show k*3 / 3=k by omega]
theorem pc1 (X Y K:Nat→Int) (k:Nat):pc X Y K (k*3+1)=.int .i64 (Y k):=by
  unfold pc;rw [if_neg (by omega),if_pos (by omega),show (k*3+1) / 3=k by omega]
theorem pc2 (X Y K:Nat→Int) (k:Nat):pc X Y K (k*3+2)=.int .i64 (K k):=by
  unfold pc;rw [if_neg (by omega),if_neg (by omega),show (k*3+2) / 3=k by omega]
theorem pc_congr {X Y K X' Y' K':Nat→Int} {m:Nat} (h:∀k,k<m→X k=X' k∧Y k=Y' k∧K k=K' k) (q:Nat) (hq:q<m*3):pc X Y K q=pc X' Y' K' q:=by
  obtain ⟨a,b,c⟩:=h (q / 3) (by omega)
  unfold pc
  rw [a,b,c]
theorem row_setPt {w:World} {b:Nat} {t:TypeId} {m:Nat} {X Y K:Nat→Int} (h:w.rowIs b t (m*3) (pc X Y K)) (k:Nat) (x y z:Int) :
    (((w.setCell ⟨b,k*3,none⟩ (.int .i64 x)).setCell ⟨b,k*3+1,none⟩ (.int .i64 y)).setCell ⟨b,k*3+2,none⟩ (.int .i64 z)).rowIs b t (m*3) (pc (fun j=>if j=k then x else X j) (fun j=>if j=k then y else Y j) (fun j=>if j=k then z else K j)):=by
  refine (((h.set (k*3) _).set (k*3+1) _).set (k*3+2) _).congr fun q hq=>?_
  by_cases e2:q=k*3+2
  · subst e2;rw [if_pos rfl,pc2,if_pos rfl]
  rw [if_neg e2]
  by_cases e1:q=k*3+1
  · subst e1;rw [if_pos rfl,pc1,if_pos rfl]
  rw [if_neg e1]
  by_cases e0:q=k*3
  · subst e0;rw [if_pos rfl,pc0,if_pos rfl]
  rw [if_neg e0]
  have e3:¬q / 3=k:=by omega
  simp only [pc,if_neg e3]
theorem row_below {w w':World} {B b:Nat} {t:TypeId} {n:Nat} {f:Nat→Value} (h:w.rowIs b t n f) (hb:Below B w w') (hlt:b<B):w'.rowIs b t n f:=
  h.of_block (hb.block b hlt)
theorem row_cells {w:World} {b:Nat} {t:TypeId} {m:Nat} {X Y K:Nat→Int} (h:w.rowIs b t (m*3) (pc X Y K)) (k:Nat) (hk:k<m) :
    w.cell? ⟨b,k*3,none⟩=some (.int .i64 (X k))∧w.cell? ⟨b,k*3+1,none⟩=some (.int .i64 (Y k))∧w.cell? ⟨b,k*3+2,none⟩=some (.int .i64 (K k)):=by
  refine ⟨?_,?_,?_⟩
  · rw [h.cell (by omega),pc0]
  · rw [h.cell (by omega),pc1]
  · rw [h.cell (by omega),pc2]
theorem row_ne {w:World} {b b':Nat} {t t':TypeId} {n n':Nat} {f f':Nat→Value} (h:w.rowIs b t n f) (h':w.rowIs b' t' n' f') (ht:t≠t'):b≠b':=by
  intro e
  subst e
  obtain ⟨c,hb,_⟩:=h
  obtain ⟨c',hb',_⟩:=h'
  rw [hb] at hb'
  simp at hb'
  exact ht hb'.2
theorem row_made3 (w:World) (m:Nat) (t:TypeId):(w.alloc (.cells (madeCells #[.int .i64 0,.int .i64 0,.int .i64 0] (m*3)) t)).rowIs w.heap.size t (m*3) (pc (fun _=>0) (fun _=>0) (fun _=>0)):=by
  refine ⟨_,blk_alloc_new _ _,size_madeCells _ _,fun i hi=>?_⟩
  have e:pc (fun _=>0) (fun _=>0) (fun _=>0) i=.int .i64 0:=by unfold pc;split <;> (try split) <;> rfl
  rw [e]
  rcases (show i % 3=0∨i % 3=1∨i % 3=2 by omega) with h | h | h <;> simp [madeCells,hi,h]
def ln (N:Nat) (n:Nat→Nat) (i:Nat):Nat:=if i<N then n i else 0
def lx (l:Nat) (X:Nat→Int) (k:Nat):Int:=if k<l then X k else 1099511627776
def ly (l:Nat) (X:Nat→Int) (k:Nat):Int:=if k<l then X k else -7
def lk (l:Nat) (X:Nat→Int) (k:Nat):Int:=if k<l then X k else 9
structure Lent (w:World) (base ob N:Nat) (B n:Nat→Nat) (X Y K:Nat→Nat→Int):Prop where
  outer:w.rowIs ob 125 (N+2) (fun i=>.slice (some ⟨B i,0,none⟩) (ln N n i) (ln N n i+2))
  ge:base≤ob
  geB:∀i,i<N+2→base≤B i
  inj:∀i j,i<N+2→j<N+2→B i=B j→i=j
  inner:∀i,i<N+2→w.rowIs (B i) 129 ((ln N n i+2)*3) (pc (lx (ln N n i) (X i)) (ly (ln N n i) (Y i)) (lk (ln N n i) (K i)))
theorem Lent.below {w w':World} {base ob N:Nat} {B n:Nat→Nat} {X Y K:Nat→Nat→Int} (h:Lent w base ob N B n X Y K) (hb:Below w.heap.size w w'):Lent w' base ob N B n X Y K:=
  ⟨row_below h.outer hb h.outer.lt,h.ge,h.geB,h.inj,fun i hi=>row_below (h.inner i hi) hb (h.inner i hi).lt⟩
theorem Lent.out {w:World} {base ob N:Nat} {B n:Nat→Nat} {X Y K:Nat→Nat→Int} (h:Lent w base ob N B n X Y K) :
    OutAt w (some ⟨ob,0,none⟩) N (fun i=>some ⟨B i,0,none⟩) (fun i=>n i+2) n X Y K:=by
  refine ⟨Or.inr ⟨ob,0,rfl,fun i hi=>?_⟩,fun i hi=>Or.inr ⟨B i,0,rfl,fun k hk=>?_⟩⟩
  · have:=h.outer.cell (i:=i) (by omega)
    simp only [ln,if_pos hi] at this
    simpa using this
  · have:=row_cells (h.inner i (by omega)) k (by simp [ln,hi];omega)
    simp only [ln,if_pos hi,lx,ly,lk,if_pos hk] at this
    simpa using this
end Go.Proofs.YtkhcjkmifddlbabGreatDoor
