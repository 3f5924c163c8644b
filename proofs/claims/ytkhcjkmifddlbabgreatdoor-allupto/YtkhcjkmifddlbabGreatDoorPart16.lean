import Derived.Test.YtkhcjkmifddlbabGreatDoorPart15
import Derived.Test.YtkhcjkmifddlbabGreatDoorPart2
import Derived.Test.YtkhcjkmifddlbabGreatDoorPart1
import Derived.Laws.CopyOwn
set_option maxHeartbeats 8000000
namespace Go.Proofs.YtkhcjkmifddlbabGreatDoor
open Go.RowKit Go.Deep
def sideP (n:Int):Bool:=decide (1≤n∧n≤64)
theorem isSideP_any (n:Int) (w:World):Calls Tryz.prog 167 #[.int .i64 n] w fun e w'=>e=.returned (.bool (sideP n))∧w'=w:=by
  by_cases a:1≤n
  · by_cases b:n≤64
    · go_enter Tryz.func167,Tryz.ntmps167
      go_wp2
      go_ret
      exact ⟨ret_bool (by simp [sideP,a,b]),rfl⟩
    · go_enter Tryz.func167,Tryz.ntmps167
      go_wp2
      go_ret
      exact ⟨ret_bool (by simp [sideP,b]),rfl⟩
  · go_enter Tryz.func167,Tryz.ntmps167
    go_wp2
    go_ret
    exact ⟨ret_bool (by simp [sideP];omega),rfl⟩
set_option maxRecDepth 100000 in
theorem isPicture_any (a:Option Addr) (n c:Nat) (W H:Int) (w:World) :
    Calls Tryz.prog 138 #[.agg #[.int .i64 W,.int .i64 H,.slice a n c]] w fun e w'=>e=.returned (.bool (Num.picB W H n))∧w'=w.alloc (.cells #[.int .i64 W,.int .i64 H,.slice a n c] 47):=by
  by_cases h1:1≤W∧W≤64
  · by_cases h2:1≤H∧H≤64
    · have e1:sideP W=true:=by simp [sideP];omega
      have e2:sideP H=true:=by simp [sideP];omega
      have hm:0≤W*H∧W*H≤4096:=by
        have h3:W*H≤64*64:=Int.mul_le_mul h1.2 h2.2 (by omega) (by omega)
        have h4:0≤W*H:=Int.mul_nonneg (by omega) (by omega)
        omega
      have hw:IntKind.i64.wrap (W*H)=W*H:=by rw [IntKind.wrap_i64];omega
      have hq:Num.picB W H n=decide ((n:Int)=W*H):=by simp [Num.picB,h1,h2]
      rw [hq]
      clear hq
      go_enter Tryz.func138,Tryz.ntmps138
      go_wp2_with (go_at_call 167;refine (isSideP_any _ _).mono ?_;rintro e w' ⟨rfl,rfl⟩)
      go_ret
      exact ⟨ret_bool (by first | rfl | (simp;done) | (rw [hw])),rfl⟩
    · have e1:sideP W=true:=by simp [sideP];omega
      have e2:sideP H=false:=by simp [sideP];omega
      have hq:Num.picB W H n=false:=by simp [Num.picB];omega
      rw [hq]
      clear hq
      go_enter Tryz.func138,Tryz.ntmps138
      go_wp2_with (go_at_call 167;refine (isSideP_any _ _).mono ?_;rintro e w' ⟨rfl,rfl⟩)
      go_ret
      exact ⟨rfl,rfl⟩
  · have e1:sideP W=false:=by simp [sideP];omega
    have hq:Num.picB W H n=false:=by simp [Num.picB];omega
    rw [hq]
    clear hq
    go_enter Tryz.func138,Tryz.ntmps138
    go_wp2_with (go_at_call 167;refine (isSideP_any _ _).mono ?_;rintro e w' ⟨rfl,rfl⟩)
    go_ret
    exact ⟨rfl,rfl⟩
theorem liesP_any (x:Int) (n i:Nat) (w:World) (hn:n≤64) (hi:i<64):Calls Tryz.prog 146 #[.int .i64 x,.int .i64 n,.int .i64 i] w fun e w'=>e=.returned (.bool (Num.covB x n i))∧w'=w:=by
  by_cases h1:-64≤x∧x≤64
  · have e1:Num.wi x 64=true:=by simp [Num.wi];omega
    by_cases h2:x≤(i:Int)
    · by_cases h3:(i:Int)-x<(n:Int)
      · have e2:Num.covB x n i=true:=by simp [Num.covB];omega
        rw [e2]
        clear e2
        go_enter Tryz.func146,Tryz.ntmps146
        go_wp2_with (go_at_call 120;refine (within_any _ _ _ (by omega) (by omega)).mono ?_;rintro e w' ⟨rfl,rfl⟩)
        go_ret
        exact ⟨ret_bool (by first | (simp;done) | (simp;omega)),rfl⟩
      · have e2:Num.covB x n i=false:=by simp [Num.covB];omega
        rw [e2]
        clear e2
        go_enter Tryz.func146,Tryz.ntmps146
        go_wp2_with (go_at_call 120;refine (within_any _ _ _ (by omega) (by omega)).mono ?_;rintro e w' ⟨rfl,rfl⟩)
        go_ret
        exact ⟨ret_bool (by first | (simp;done) | (simp;omega)),rfl⟩
    · have e2:Num.covB x n i=false:=by simp [Num.covB];omega
      rw [e2]
      clear e2
      go_enter Tryz.func146,Tryz.ntmps146
      go_wp2_with (go_at_call 120;refine (within_any _ _ _ (by omega) (by omega)).mono ?_;rintro e w' ⟨rfl,rfl⟩)
      go_ret
      exact ⟨rfl,rfl⟩
  · have e1:Num.wi x 64=false:=by simp [Num.wi];omega
    have e2:Num.covB x n i=false:=by simp [Num.covB];omega
    rw [e2]
    clear e2
    go_enter Tryz.func146,Tryz.ntmps146
    go_wp2_with (go_at_call 120;refine (within_any _ _ _ (by omega) (by omega)).mono ?_;rintro e w' ⟨rfl,rfl⟩)
    go_ret
    exact ⟨rfl,rfl⟩
theorem lesserY_any (a b:Int) (w:World):Calls Tryz.prog 176 #[.int .i64 a,.int .i64 b] w fun e w'=>e=.returned (.int .i64 (Num.lsY a b))∧w'=w:=by
  by_cases h:a<b
  · go_enter Tryz.func176,Tryz.ntmps176
    go_wp2
    go_ret
    exact ⟨ret_int (by unfold Num.lsY;rw [if_pos h]),rfl⟩
  · go_enter Tryz.func176,Tryz.ntmps176
    go_wp2
    go_ret
    exact ⟨ret_int (by unfold Num.lsY;rw [if_neg (by omega)]),rfl⟩
theorem mixed_any (u v way:Int) (w:World) (hu:0≤u∧u≤255) (hv:0≤v∧v≤255) (hw:0≤way∧way≤3):Calls Tryz.prog 147 #[.int .u8 u,.int .u8 v,.int .i64 way] w fun e w'=>e=.returned (.int .u8 (Num.mixV u v way))∧w'=w:=by
  have hb:=Num.mixV_bd (way:=way) hu hv
  rcases (show way=0∨way=1∨way=2∨way=3 by omega) with rfl | rfl | rfl | rfl
  all_goals
    unfold Num.mixV at hb ⊢
    simp only [if_true,if_false,Int.reduceEq] at hb ⊢
    go_enter Tryz.func147,Tryz.ntmps147
    go_wp2_with (first | (go_at_call 160;refine (greater_any _ _ _).mono ?_;rintro e w' ⟨rfl,rfl⟩) | (go_at_call 176;refine (lesserY_any _ _ _).mono ?_;rintro e w' ⟨rfl,rfl⟩))
    all_goals
      go_ret
      refine ⟨congrArg (fun z=>Ending.returned (Value.int .u8 z)) ?_,rfl⟩
      first | rfl | omega | (unfold Num.lsY;split <;> omega) | (unfold Num.gr;split <;> omega) | (unfold Num.gr;rw [if_pos (by omega)];omega)
theorem picB_yes {W H:Int} {n:Nat} (h:Num.picB W H n=true):∃a b:Nat,W=a∧H=b∧1≤a∧a≤64∧1≤b∧b≤64∧n=a*b:=by
  simp [Num.picB] at h
  obtain ⟨h1,h2,h3,h4,h5⟩:=h
  refine ⟨W.toNat,H.toNat,by omega,by omega,by omega,by omega,by omega,by omega,?_⟩
  have e1:((W.toNat:Nat):Int)=W:=by omega
  have e2:((H.toNat:Nat):Int)=H:=by omega
  have:(n:Int)=((W.toNat*H.toNat:Nat):Int):=by rw [Int.natCast_mul,e1,e2];exact h5
  omega
def layR (UW UH:Int) (n:Nat) (OW OH:Int) (m:Nat) (U O:Nat→Int) (x y way:Int):Int×Int×List Int:=
  if Num.layE UW UH n OW OH m way 8 9=0 then (UW,UH,Num.layL UW.toNat OW.toNat OH.toNat U O x y way (UW.toNat*UH.toNat)) else (0,0,[])
theorem cellBy {w:World} {a:Option Addr} {n k:Nat} {X:Nat→Int} (h:ByAt w a n X) (hk:k<n):∃b off,a=some ⟨b,off,none⟩∧w.cell? ⟨b,off+k,none⟩=some (.int .u8 (X k))∧b<w.heap.size:=by
  rcases h with h | ⟨b,off,rfl,hc⟩
  · omega
  · exact ⟨b,off,rfl,hc k hk,World.block_lt_of_cell? w _ (hc k hk)⟩
def gz (a b:Int) (v:Value) (q:Nat):Value:=[Value.int .i64 a,.int .i64 b,v][q]?.getD undef
theorem gz_row (a b:Int) (v:Value) (w:World) (t:TypeId):(w.alloc (.cells #[.int .i64 a,.int .i64 b,v] t)).rowIs w.heap.size t 3 (gz a b v):=by
  refine World.rowIs_alloc w #[.int .i64 a,.int .i64 b,v] t _ (fun i hi=>?_)
  have hi:i<3:=hi
  rcases (show i=0∨i=1∨i=2 by omega) with rfl | rfl | rfl <;> rfl
theorem gz_cells {w:World} {p:Nat} {t:TypeId} {a b:Int} {v:Value} (h:w.rowIs p t 3 (gz a b v)):w.cell? ⟨p,0,none⟩=some (.int .i64 a)∧w.cell? ⟨p,1,none⟩=some (.int .i64 b)∧w.cell? ⟨p,2,none⟩=some v:=
  ⟨h.cell (i:=0) (by omega),h.cell (i:=1) (by omega),h.cell (i:=2) (by omega)⟩
theorem gz_set {w:World} {p:Nat} {t:TypeId} {f:Nat→Value} (h:w.rowIs p t 3 f) (a b:Int) (v:Value):(((w.setCell ⟨p,0,none⟩ (.int .i64 a)).setCell ⟨p,1,none⟩ (.int .i64 b)).setCell ⟨p,2,none⟩ v).rowIs p t 3 (gz a b v):=by
  refine (((h.set 0 _).set 1 _).set 2 _).congr fun q hq=>?_
  rcases (show q=0∨q=1∨q=2 by omega) with rfl | rfl | rfl <;> rfl
def byC (l:List Int):List Value:=l.map (Value.int .u8)
theorem byC_snoc (l:List Int) (z:Int):byC (l++[z])=byC l++[.int .u8 z]:=by simp [byC]
theorem info_by:(Tryz.prog.info? 5).map (fun i=>(i.zero,i.size,i.bytes))=some (some (.int .u8 0),1,1):=by kernel_rfl
set_option maxRecDepth 100000 in
theorem picLay_no (a a':Option Addr) (n m c c':Nat) (UW UH OW OH x y way:Int) (w:World) (hE:Num.layE UW UH n OW OH m way 8 9≠0) :
    Calls Tryz.prog 101 #[.agg #[.int .i64 UW,.int .i64 UH,.slice a n c],.agg #[.int .i64 OW,.int .i64 OH,.slice a' m c'],.int .i64 x,.int .i64 y,.int .i64 way] w fun e w'=>e=.returned (.tuple #[.agg #[.int .i64 0,.int .i64 0,.slice none 0 0],.int .i64 (Num.layE UW UH n OW OH m way 8 9)])∧Below w.heap.size w w':=by
  unfold Num.layE at hE ⊢
  cases h1:Num.picB UW UH n
  · simp only [h1,Bool.false_eq_true,false_and,if_false] at hE ⊢
    go_enter Tryz.func101,Tryz.ntmps101
    go_wp2_with (go_at_call 138;refine (isPicture_any _ _ _ _ _ _).mono ?_;rintro e w' ⟨rfl,rfl⟩)
    exact bodyPost_ret (v:=.tuple #[.agg #[.int .i64 0,.int .i64 0,.slice none 0 0],.int .i64 8]) (by simp [results,Tryz.results101,go_sem]) rfl ⟨rfl,by (repeat any_goals first | exact .refl _ _ | assumption | refine .drew ?_ | refine below_drewN ?_ _ | refine .setCell ?_ ?_ _ | refine .alloc ?_ ?_ _ | omega | (simp <;> omega))⟩
  · cases h2:Num.picB OW OH m
    · simp only [h1,h2,Bool.false_eq_true,and_false,if_false] at hE ⊢
      go_enter Tryz.func101,Tryz.ntmps101
      go_wp2_with (go_at_call 138;refine (isPicture_any _ _ _ _ _ _).mono ?_;rintro e w' ⟨rfl,rfl⟩)
      exact bodyPost_ret (v:=.tuple #[.agg #[.int .i64 0,.int .i64 0,.slice none 0 0],.int .i64 8]) (by simp [results,Tryz.results101,go_sem]) rfl ⟨rfl,by (repeat any_goals first | exact .refl _ _ | assumption | refine .drew ?_ | refine below_drewN ?_ _ | refine .setCell ?_ ?_ _ | refine .alloc ?_ ?_ _ | omega | (simp <;> omega))⟩
    · simp only [h1,h2,and_self,if_true] at hE ⊢
      have hw:¬(0≤way∧way≤3):=fun h=>by rw [if_pos h] at hE;exact hE rfl
      rw [if_neg hw]
      have w0:(way != 0)=true:=by simp;omega
      have w1:(way != 1)=true:=by simp;omega
      have w2:(way != 2)=true:=by simp;omega
      have w3:(way != 3)=true:=by simp;omega
      clear hE
      go_enter Tryz.func101,Tryz.ntmps101
      go_wp2_with (go_at_call 138;refine (isPicture_any _ _ _ _ _ _).mono ?_;rintro e w' ⟨rfl,rfl⟩)
      exact bodyPost_ret (v:=.tuple #[.agg #[.int .i64 0,.int .i64 0,.slice none 0 0],.int .i64 9]) (by simp [results,Tryz.results101,go_sem]) rfl ⟨rfl,by (repeat any_goals first | exact .refl _ _ | assumption | refine .drew ?_ | refine below_drewN ?_ _ | refine .setCell ?_ ?_ _ | refine .alloc ?_ ?_ _ | omega | (simp <;> omega))⟩
set_option maxRecDepth 100000 in
theorem picLay_yes (a a':Option Addr) (uw uh ow oh c c':Nat) (U O:Nat→Int) (x y way:Int) (w:World) (hu:1≤uw∧uw≤64∧1≤uh∧uh≤64) (ho:1≤ow∧ow≤64∧1≤oh∧oh≤64) (hw:0≤way∧way≤3)
    (hU:ByAt w a (uw*uh) U) (hO:ByAt w a' (ow*oh) O) (bU:∀k,k<uw*uh→0≤U k∧U k≤255) (bO:∀k,k<ow*oh→0≤O k∧O k≤255) :
    Calls Tryz.prog 101 #[.agg #[.int .i64 uw,.int .i64 uh,.slice a (uw*uh) c],.agg #[.int .i64 ow,.int .i64 oh,.slice a' (ow*oh) c'],.int .i64 x,.int .i64 y,.int .i64 way] w fun e w'=>∃v,e=.returned (.tuple #[.agg #[.int .i64 uw,.int .i64 uh,v],.int .i64 0])∧Below w.heap.size w w'∧w'.ownsRow w.heap.size 5 1 v (uw*uh) (byC (Num.layL uw ow oh U O x y way (uw*uh))):=by
  obtain ⟨i0,hi0,hz0,hz1,hz2⟩:=info_parts info_by
  obtain ⟨n,hn⟩:∃n,n=uw*uh:=⟨_,rfl⟩
  obtain ⟨m,hm⟩:∃m,m=ow*oh:=⟨_,rfl⟩
  have hn1:n≤4096:=by rw [hn];exact Num.mul_le_sq hu.2.1 hu.2.2.2
  have hm1:m≤4096:=by rw [hm];exact Num.mul_le_sq ho.2.1 ho.2.2.2
  have p1:Num.picB (uw:Int) (uh:Int) n=true:=by simp [Num.picB,hn];omega
  have p2:Num.picB (ow:Int) (oh:Int) m=true:=by simp [Num.picB,hm];omega
  have hway:((way != 0)=false)∨((way != 0)=true∧(way != 1)=false)∨((way != 0)=true∧(way != 1)=true∧(way != 2)=false)∨((way != 0)=true∧(way != 1)=true∧(way != 2)=true∧(way != 3)=false):=by
    rcases (show way=0∨way=1∨way=2∨way=3 by omega) with rfl | rfl | rfl | rfl <;> simp
  rw [←hn] at hU bU ⊢
  rw [←hm] at hO bO ⊢
  obtain ⟨sb,hsb⟩:∃sb,sb=w.heap.size:=⟨_,rfl⟩
  obtain ⟨W5,hW5⟩:∃W5,W5=((((w.alloc (.cells #[.int .i64 uw,.int .i64 uh,.slice a n c] 47)).alloc (.cells #[.int .i64 ow,.int .i64 oh,.slice a' m c'] 47)).alloc (.cells #[.int .i64 0,.int .i64 0,.slice none 0 0] 47)).alloc (.cells #[.int .i64 uw,.int .i64 uh,.slice a n c] 47)).alloc (.cells #[.int .i64 ow,.int .i64 oh,.slice a' m c'] 47):=⟨_,rfl⟩
  have hs5:W5.heap.size=sb+5:=by rw [hW5,hsb];simp
  have hB5:Below w.heap.size w W5:=by rw [hW5];(repeat any_goals first | exact .refl _ _ | assumption | refine .drew ?_ | refine below_drewN ?_ _ | refine .setCell ?_ ?_ _ | refine .alloc ?_ ?_ _ | omega | (simp <;> omega))
  have hGu:W5.rowIs sb 47 3 (gz uw uh (.slice a n c)):=by rw [hW5,hsb];exact ((((gz_row _ _ _ _ _).alloc _).alloc _).alloc _).alloc _
  have hGo:W5.rowIs (sb+1) 47 3 (gz ow oh (.slice a' m c')):=by
    have h:=gz_row ow oh (.slice a' m c') (w.alloc (.cells #[.int .i64 (uw:Int),.int .i64 (uh:Int),.slice a n c] 47)) 47
    rw [nblk_alloc] at h
    rw [hW5,hsb];exact ((h.alloc _).alloc _).alloc _
  have hGz:W5.rowIs (sb+1+1) 47 3 (gz 0 0 (.slice none 0 0)):=by
    have h:=gz_row 0 0 (.slice none 0 0) ((w.alloc (.cells #[.int .i64 (uw:Int),.int .i64 (uh:Int),.slice a n c] 47)).alloc (.cells #[.int .i64 (ow:Int),.int .i64 (oh:Int),.slice a' m c'] 47)) 47
    rw [nblk_alloc,nblk_alloc] at h
    rw [hW5,hsb];exact (h.alloc _).alloc _
  have HU:=hide (hU.below hB5)
  have HO:=hide (hO.below hB5)
  have HbU:=hide bU
  have HbO:=hide bO
  have HGu:=hide hGu
  have HGo:=hide hGo
  have HGz:=hide hGz
  have HB5:Hid (Below sb w W5):=by unfold Hid;rw [hsb];exact hB5
  have HSb:=hide hsb
  have HN:=hide hn
  have HM:=hide hm
  have HS5:=hide hs5
  clear hU hO bU bO hB5 hGu hGo hGz hn hm hs5
  rcases hway with w0 | ⟨w0,w1⟩ | ⟨w0,w1,w2⟩ | ⟨w0,w1,w2,w3⟩
  all_goals
    go_enter Tryz.func101,Tryz.ntmps101
    go_wp2_with (go_at_call 138;refine (isPicture_any _ _ _ _ _ _).mono ?_;rintro e w' ⟨rfl,rfl⟩)
    rw [←hW5]
    try rw [←hsb]
    clear hW5 hsb
    go_loopw [12,13] (fun v t wr=>∃j:Nat,j≤uh∧t=.int .i64 j∧Below (sb+5) W5 wr∧wr.ownsRow (sb+5) 5 1 v (j*uw) (byC (Num.layL uw ow oh U O x y way (j*uw)))) (fun _ t _=>uh-(intOf t).toNat)
    case atStart=>exact ⟨0,by omega,rfl,Below.refl _ _,by simp [Num.layL,byC];exact World.ownsRow_nil _ _ _ _⟩
    case round=>
      obtain ⟨wo,rfl⟩:∃wo,wo=wr:=⟨_,rfl⟩
      obtain ⟨vo,rfl⟩:∃vo,vo=u12:=⟨_,rfl⟩
      obtain ⟨j,hj,rfl,hbo,howno⟩:=hrel
      have hszo:=hbo.size
      have hS5:=HS5.out
      obtain ⟨u0,u1,u2⟩:=gz_cells (row_below HGu.out hbo (by omega))
      by_cases hlt:j<uh
      · have hd1:decide ((j:Int)<(uh:Int))=true:=by simp;omega
        have hmj:j*uw+uw≤n:=by rw [HN.out,Nat.mul_comm uw uh,←Nat.succ_mul];exact Nat.mul_le_mul_right uw hlt
        obtain ⟨ja,hja⟩:∃ja,ja=j*uw:=⟨_,rfl⟩
        have hmul:(j:Int)*(uw:Int)=(ja:Int):=by rw [hja];simp
        rw [←hja] at howno hmj
        have HJA:=hide hja
        have HOo:=hide howno
        have HBo:=hide hbo
        clear howno hbo hja
        go_wp2_with fail
        go_loopw [12,14] (fun v t wr=>∃i:Nat,i≤uw∧t=.int .i64 i∧Below (sb+5) W5 wr∧wr.ownsRow (sb+5) 5 1 v (ja+i) (byC (Num.layL uw ow oh U O x y way (ja+i)))) (fun _ t _=>uw-(intOf t).toNat)
        case atStart=>exact ⟨0,by omega,rfl,HBo.out,HOo.out⟩
        case round=>
          obtain ⟨v,rfl⟩:∃v,v=u12:=⟨_,rfl⟩
          obtain ⟨i,hi,rfl,hb1,hown⟩:=hrel
          have hsz:=hb1.size
          clear u0 u1 u2
          obtain ⟨u0,u1,u2⟩:=gz_cells (row_below HGu.out hb1 (by omega))
          obtain ⟨o0,o1,o2⟩:=gz_cells (row_below HGo.out hb1 (by omega))
          by_cases hli:i<uw
          · have hdi:decide ((i:Int)<(uw:Int))=true:=by simp;omega
            have hin:ja+i<n:=by omega
            obtain ⟨ub,uoff,rfl,cu,hub⟩:=cellBy (HU.out.below (hb1.mono (by omega))) hin
            have hUb:=HbU.out _ hin
            have hw2:IntKind.i64.wrap ((ja:Int)+(i:Int))=((ja+i:Nat):Int):=by rw [wrap_ok _ (by omega) (by omega)];omega
            have g0:(0:Int)≤(ja:Int)+(i:Int):=by omega
            have g1:(ja:Int)+(i:Int)<(n:Int):=by omega
            have hmod:(ja+i) % uw=i:=by rw [HJA.out,Nat.mul_comm j uw,Nat.mul_add_mod,Nat.mod_eq_of_lt hli]
            have hdiv:(ja+i) / uw=j:=by rw [HJA.out,Nat.mul_comm j uw,Nat.mul_add_div (by omega),Nat.div_eq_of_lt hli,Nat.add_zero]
            have HSu:=hide (Num.layL_succ uw ow oh U O x y way (ja+i))
            rw [hmod,hdiv] at HSu
            have HJi:Hid (j*uw+i=ja+i):=by unfold Hid;rw [HJA.out]
            obtain ⟨L,hL⟩:∃L,L=byC (Num.layL uw ow oh U O x y way (ja+i)):=⟨_,rfl⟩
            rw [←hL] at hown
            have HLs:Hid (byC (Num.layL uw ow oh U O x y way (ja+i+1))=L++[.int .u8 (Num.layV uw ow oh U O x y way i j)]):=by unfold Hid;rw [HSu.out,byC_snoc,hL]
            have HOw:=hide hown
            have HBw:=hide hb1
            have hi64:i<64:=by omega
            have hj64:j<64:=by omega
            clear hmod hdiv hL HSu hown hb1
            have cu':wr.cell? ⟨ub,uoff+((ja:Int)+(i:Int)).toNat,none⟩=some (.int .u8 (U (ja+i))):=by rw [show ((ja:Int)+(i:Int)).toNat=ja+i by omega];exact cu
            obtain ⟨z,hz⟩:∃z,z=Num.layV uw ow oh U O x y way i j:=⟨_,rfl⟩
            rw [←hz] at HLs
            have hzv:Hid (z=if Num.covB x ow i=true∧Num.covB y oh j=true then Num.mixV (U (ja+i)) (O (((j:Int)-y).toNat*ow+((i:Int)-x).toNat)) way else U (ja+i)):=by unfold Hid;rw [hz];unfold Num.layV;rw [HJi.out]
            clear hz
            by_cases hcx:Num.covB x ow i=true
            · by_cases hcy:Num.covB y oh j=true
              · have bx:x≤(i:Int)∧(i:Int)-x<(ow:Int):=by simpa [Num.covB] using hcx
                have by':y≤(j:Int)∧(j:Int)-y<(oh:Int):=by simpa [Num.covB] using hcy
                obtain ⟨jy,hjy⟩:∃jy:Nat,(j:Int)-y=(jy:Int):=⟨((j:Int)-y).toNat,by omega⟩
                obtain ⟨ix,hix⟩:∃ix:Nat,(i:Int)-x=(ix:Int):=⟨((i:Int)-x).toNat,by omega⟩
                obtain ⟨jo,hjo⟩:∃jo,jo=jy*ow:=⟨_,rfl⟩
                have hmul2:(jy:Int)*(ow:Int)=(jo:Int):=by rw [hjo];simp
                have hom:jo+ix<m:=by rw [hjo,HM.out];exact Num.mul_row (by omega) (by omega)
                have he:((jo:Int)+(i:Int)-x).toNat=jo+ix:=by omega
                obtain ⟨ob,ooff,rfl,co,hob⟩:=cellBy (HO.out.below (HBw.out.mono (by omega))) hom
                have hOb:=HbO.out _ hom
                have co':wr.cell? ⟨ob,ooff+((jo:Int)+(i:Int)-x).toNat,none⟩=some (.int .u8 (O (jo+ix))):=by rw [he];exact co
                have k0:(0:Int)≤(jo:Int)+(i:Int)-x:=by omega
                have k1:(jo:Int)+(i:Int)-x<(m:Int):=by omega
                have k2:(jo:Int)+(i:Int)≤1000000:=by omega
                have hx64:-64≤x∧x≤64:=by omega
                have hzz:Hid (z=Num.mixV (U (ja+i)) (O (jo+ix)) way):=by
                  unfold Hid
                  rw [hzv.out,if_pos ⟨hcx,hcy⟩,hjo,show ((j:Int)-y).toNat=jy by omega,show ((i:Int)-x).toNat=ix by omega]
                have HMix:=hide (fun w=>mixed_any (U (ja+i)) (O (jo+ix)) way w hUb hOb hw)
                rw [←hzz.out] at HMix
                clear he hjo hzv hix
                go_wp2_with (first | (go_at_call 146;refine (liesP_any _ _ _ _ (by omega) (by omega)).mono ?_;rintro e w' ⟨rfl,hw'⟩;rw [hw'];clear hw') | (go_at_call 147;refine (HMix.out _).mono ?_;rintro e w' ⟨rfl,hw'⟩;rw [hw'];clear hw') | (at_builtin;refine wpList_append_lies _ rfl _ _ 45 rfl (sb+5) 5 i0 (.int .u8 0) 1 1 Tryz.underlying45 hi0 hz0 hz1 hz2 rfl (by omega) v (ja+i) L rfl (HOw.out.alloc _) ⟨wr.heap.size,0,none⟩ 1 1 [.int .u8 z] rfl rfl ?a1 ?a2 (by omega) ?a3 ?a4 ?a5 (wr.heap.size+1) (by simp) ?_))
                try (case a1=>exact news_sp wr [.int .u8 z] _ _ rfl)
                case a2=>first | rfl | (intro u hu;simp at hu;subst hu;rfl)
                case a3=>unfold maxLen;omega
                case a4=>omega
                case a5=>first | omega | (simp;omega)
                intro g cap w4 hown4 hgrow hat hlt4
                have hb4:Below (sb+5) W5 w4:=(HBw.out.alloc (by omega) _).grown hgrow (by simp;omega) (fun q hq=>(HOw.out.lt q hq).1)
                have HO4:Hid (w4.ownsRow (sb+5) 5 1 (.slice (some ⟨g,0,none⟩) (ja+i+1) cap) (ja+(i+1)) (byC (Num.layL uw ow oh U O x y way (ja+(i+1))))):=by
                  unfold Hid
                  rw [←Nat.add_assoc,HLs.out]
                  exact hown4
                clear hown4 hgrow hat
                go_wp2
                go_roundw
                case rel=>exact ⟨i+1,by omega,by go_num,hb4,HO4.out⟩
                case measure=>simp [intOf];omega
              · have hcy:Num.covB y oh j=false:=by simpa using hcy
                have hzU:Hid (z=U (ja+i)):=by unfold Hid;rw [hzv.out,if_neg (fun e=>by rw [e.2] at hcy;cases hcy)]
                clear hzv
                go_wp2_with (first | (go_at_call 146;refine (liesP_any _ _ _ _ (by omega) (by omega)).mono ?_;rintro e w' ⟨rfl,hw'⟩;rw [hw'];clear hw') | (at_builtin;refine wpList_append_lies _ rfl _ _ 45 rfl (sb+5) 5 i0 (.int .u8 0) 1 1 Tryz.underlying45 hi0 hz0 hz1 hz2 rfl (by omega) v (ja+i) L rfl (HOw.out.alloc _) ⟨wr.heap.size,0,none⟩ 1 1 [.int .u8 (U (ja+i))] rfl rfl ?a1 ?a2 (by omega) ?a3 ?a4 ?a5 (wr.heap.size+1) (by simp) ?_))
                try (case a1=>exact news_sp wr [.int .u8 (U (ja+i))] _ _ rfl)
                case a2=>first | rfl | (intro u hu;simp at hu;subst hu;rfl)
                case a3=>unfold maxLen;omega
                case a4=>omega
                case a5=>first | omega | (simp;omega)
                intro g cap w4 hown4 hgrow hat hlt4
                have hb4:Below (sb+5) W5 w4:=(HBw.out.alloc (by omega) _).grown hgrow (by simp;omega) (fun q hq=>(HOw.out.lt q hq).1)
                have HO4:Hid (w4.ownsRow (sb+5) 5 1 (.slice (some ⟨g,0,none⟩) (ja+i+1) cap) (ja+(i+1)) (byC (Num.layL uw ow oh U O x y way (ja+(i+1))))):=by
                  unfold Hid
                  rw [←Nat.add_assoc,HLs.out]
                  try rw [hzU.out]
                  exact hown4
                clear hown4 hgrow hat
                go_wp2
                go_roundw
                case rel=>exact ⟨i+1,by omega,by go_num,hb4,HO4.out⟩
                case measure=>simp [intOf];omega
            · have hcx:Num.covB x ow i=false:=by simpa using hcx
              have hzU:Hid (z=U (ja+i)):=by unfold Hid;rw [hzv.out,if_neg (fun e=>by rw [e.1] at hcx;cases hcx)]
              clear hzv
              go_wp2_with (first | (go_at_call 146;refine (liesP_any _ _ _ _ (by omega) (by omega)).mono ?_;rintro e w' ⟨rfl,hw'⟩;rw [hw'];clear hw') | (at_builtin;refine wpList_append_lies _ rfl _ _ 45 rfl (sb+5) 5 i0 (.int .u8 0) 1 1 Tryz.underlying45 hi0 hz0 hz1 hz2 rfl (by omega) v (ja+i) L rfl (HOw.out.alloc _) ⟨wr.heap.size,0,none⟩ 1 1 [.int .u8 (U (ja+i))] rfl rfl ?a1 ?a2 (by omega) ?a3 ?a4 ?a5 (wr.heap.size+1) (by simp) ?_))
              try (case a1=>exact news_sp wr [.int .u8 (U (ja+i))] _ _ rfl)
              case a2=>first | rfl | (intro u hu;simp at hu;subst hu;rfl)
              case a3=>unfold maxLen;omega
              case a4=>omega
              case a5=>first | omega | (simp;omega)
              intro g cap w4 hown4 hgrow hat hlt4
              have hb4:Below (sb+5) W5 w4:=(HBw.out.alloc (by omega) _).grown hgrow (by simp;omega) (fun q hq=>(HOw.out.lt q hq).1)
              have HO4:Hid (w4.ownsRow (sb+5) 5 1 (.slice (some ⟨g,0,none⟩) (ja+i+1) cap) (ja+(i+1)) (byC (Num.layL uw ow oh U O x y way (ja+(i+1))))):=by
                unfold Hid
                rw [←Nat.add_assoc,HLs.out]
                try rw [hzU.out]
                exact hown4
              clear hown4 hgrow hat
              go_wp2
              go_roundw
              case rel=>exact ⟨i+1,by omega,by go_num,hb4,HO4.out⟩
              case measure=>simp [intOf];omega
          · have e:i=uw:=by omega
            have hdi:decide ((i:Int)<(uw:Int))=false:=by simp;omega
            have HOF:Hid (wr.ownsRow (sb+5) 5 1 v ((j+1)*uw) (byC (Num.layL uw ow oh U O x y way ((j+1)*uw)))):=by
              unfold Hid
              rw [e,HJA.out,←Nat.succ_mul] at hown
              exact hown
            have HB:=hide hb1
            clear hown hb1
            go_wp2
            go_roundw
            case rel=>exact ⟨j+1,by omega,by go_num,HB.out,HOF.out⟩
            case measure=>simp [intOf];omega
      · have e:j=uh:=by omega
        have hd0:decide ((j:Int)<(uh:Int))=false:=by simp;omega
        have HOF:Hid (wo.ownsRow (sb+5) 5 1 vo n (byC (Num.layL uw ow oh U O x y way n))):=by
          unfold Hid
          rw [e,Nat.mul_comm uh uw,←HN.out] at howno
          exact howno
        have hZ2:=row_below HGz.out hbo (by omega)
        obtain ⟨z0,z1,z2⟩:=gz_cells hZ2
        have f0:=hZ2.frozen 0
        have f1:=hZ2.frozen 1
        have f2:=hZ2.frozen 2
        have hsl:=hZ2.lt
        obtain ⟨ao,cap0,hv,_⟩:=owns_formN HOF.out
        have HR:=hide (gz_set hZ2 uw uh vo)
        have hB:Below sb w wo:=HB5.out.trans (hbo.mono (by omega))
        have HB:Hid (Below sb w (((wo.setCell ⟨sb+1+1,0,none⟩ (.int .i64 uw)).setCell ⟨sb+1+1,1,none⟩ (.int .i64 uh)).setCell ⟨sb+1+1,2,none⟩ vo)):=((hB.setCell (p:=⟨sb+1+1,0,none⟩) (by show sb≤sb+1+1;omega) _).setCell (p:=⟨sb+1+1,1,none⟩) (by show sb≤sb+1+1;omega) _).setCell (p:=⟨sb+1+1,2,none⟩) (by show sb≤sb+1+1;omega) _
        have HOG:Hid ((((wo.setCell ⟨sb+1+1,0,none⟩ (.int .i64 uw)).setCell ⟨sb+1+1,1,none⟩ (.int .i64 uh)).setCell ⟨sb+1+1,2,none⟩ vo).ownsRow sb 5 1 vo n (byC (Num.layL uw ow oh U O x y way n))):=by
          refine owns_mono (owns_of_block HOF.out (fun q hq=>?_)) (by omega)
          have hq1:=(HOF.out.lt q hq).1
          have hne:q≠sb+1+1:=by omega
          rw [set_other hne,set_other hne,set_other hne]
        subst hv
        clear howno hbo hZ2 hB HOF
        go_wp2
        obtain ⟨wF,hwF⟩:∃wF,wF=((wo.setCell ⟨sb+1+1,0,none⟩ (.int .i64 uw)).setCell ⟨sb+1+1,1,none⟩ (.int .i64 uh)).setCell ⟨sb+1+1,2,none⟩ (.slice ao n cap0):=⟨_,rfl⟩
        rw [←hwF]
        rw [←hwF] at HR HB HOG
        obtain ⟨g0,g1,g2⟩:=gz_cells HR.out
        exact bodyPost_ret (v:=.tuple #[.agg #[.int .i64 uw,.int .i64 uh,.slice ao n cap0],.int .i64 0]) (by simp [results,Tryz.results101,go_sem,g0,g1,g2]) rfl ⟨_,rfl,by rw [←HSb.out];exact HB.out,by rw [←HSb.out];exact HOG.out⟩
theorem layE_cases (UW UH:Int) (n:Nat) (OW OH:Int) (m:Nat) (way:Int):Num.layE UW UH n OW OH m way 8 9≠0∨(Num.layE UW UH n OW OH m way 8 9=0∧Num.picB UW UH n=true∧Num.picB OW OH m=true∧0≤way∧way≤3):=by
  unfold Num.layE
  by_cases h1:Num.picB UW UH n=true∧Num.picB OW OH m=true
  · rw [if_pos h1]
    by_cases h2:0≤way∧way≤3
    · rw [if_pos h2];exact .inr ⟨rfl,h1.1,h1.2,h2.1,h2.2⟩
    · rw [if_neg h2];exact .inl (by decide)
  · rw [if_neg h1];exact .inl (by decide)
theorem layR_len (UW UH:Int) (n:Nat) (OW OH:Int) (m:Nat) (U O:Nat→Int) (x y way:Int):(layR UW UH n OW OH m U O x y way).2.2.length≤4096:=by
  unfold layR
  rcases layE_cases UW UH n OW OH m way with h | ⟨h,p1,_,_,_⟩
  · rw [if_neg h];simp
  · rw [if_pos h]
    obtain ⟨a,b,rfl,rfl,h1,h2,h3,h4,_⟩:=picB_yes p1
    show (Num.layL _ _ _ _ _ _ _ _ _).length≤4096
    rw [Num.layL_len]
    exact Num.mul_le_sq (by omega) (by omega)
theorem picLay_any (a a':Option Addr) (n m c c':Nat) (UW UH OW OH x y way:Int) (U O:Nat→Int) (w:World)
    (hU:ByAt w a n U) (hO:ByAt w a' m O) (bU:∀k,k<n→0≤U k∧U k≤255) (bO:∀k,k<m→0≤O k∧O k≤255) :
    Calls Tryz.prog 101 #[.agg #[.int .i64 UW,.int .i64 UH,.slice a n c],.agg #[.int .i64 OW,.int .i64 OH,.slice a' m c'],.int .i64 x,.int .i64 y,.int .i64 way] w fun e w'=>∃rw rh v l,e=.returned (.tuple #[.agg #[.int .i64 rw,.int .i64 rh,v],.int .i64 (Num.layE UW UH n OW OH m way 8 9)])∧Below w.heap.size w w'∧w'.ownsRow w.heap.size 5 1 v (List.length l) (byC l)∧(rw,rh,l)=layR UW UH n OW OH m U O x y way:=by
  rcases layE_cases UW UH n OW OH m way with h | ⟨h,p1,p2,h3⟩
  · refine (picLay_no a a' n m c c' UW UH OW OH x y way w h).mono ?_
    rintro e w' ⟨rfl,hb⟩
    exact ⟨0,0,.slice none 0 0,[],rfl,hb,World.ownsRow_nil _ _ _ _,by unfold layR;rw [if_neg h]⟩
  · obtain ⟨uw,uh,rfl,rfl,u1,u2,u3,u4,rfl⟩:=picB_yes p1
    obtain ⟨ow,oh,rfl,rfl,o1,o2,o3,o4,rfl⟩:=picB_yes p2
    refine (picLay_yes a a' uw uh ow oh c c' U O x y way w ⟨u1,u2,u3,u4⟩ ⟨o1,o2,o3,o4⟩ h3 hU hO bU bO).mono ?_
    rintro e w' ⟨v,rfl,hb,hown⟩
    refine ⟨uw,uh,v,Num.layL uw ow oh U O x y way (uw*uh),by rw [h],hb,by rw [Num.layL_len];exact hown,?_⟩
    unfold layR
    rw [if_pos h]
    simp
set_option maxRecDepth 100000 in
theorem glyphLay_any (a a':Option Addr) (n m c c':Nat) (UW UH OW OH x y way:Int) (U O:Nat→Int) (w:World)
    (hU:ByAt w a n U) (hO:ByAt w a' m O) (bU:∀k,k<n→0≤U k∧U k≤255) (bO:∀k,k<m→0≤O k∧O k≤255) :
    Calls Tryz.prog 54 #[.agg #[.int .i64 UW,.int .i64 UH,.slice a n c],.agg #[.int .i64 OW,.int .i64 OH,.slice a' m c'],.int .i64 x,.int .i64 y,.int .i64 way] w fun e w'=>∃rw rh v l,e=.returned (.tuple #[.agg #[.int .i64 rw,.int .i64 rh,v],.int .i64 (Num.layE UW UH n OW OH m way 8 9)])∧Below w.heap.size w w'∧w'.ownsRow w.heap.size 5 1 v (List.length l) (byC l)∧(rw,rh,l)=layR UW UH n OW OH m U O x y way:=by
  obtain ⟨W3,hW3⟩:∃W3,W3=((w.alloc (.cells #[.int .i64 UW,.int .i64 UH,.slice a n c] 47)).alloc (.cells #[.int .i64 OW,.int .i64 OH,.slice a' m c'] 47)).alloc (.cells #[.int .i64 0,.int .i64 0,.slice none 0 0] 47):=⟨_,rfl⟩
  have hs3:W3.heap.size=w.heap.size+1+1+1:=by rw [hW3];simp
  have HB3:Hid (Below w.heap.size w W3):=by unfold Hid;rw [hW3];(repeat any_goals first | exact .refl _ _ | assumption | refine .drew ?_ | refine below_drewN ?_ _ | refine .setCell ?_ ?_ _ | refine .alloc ?_ ?_ _ | omega | (simp <;> omega))
  have HZ:Hid (W3.rowIs (w.heap.size+1+1) 47 3 (gz 0 0 (.slice none 0 0))):=by
    have h:=gz_row 0 0 (.slice none 0 0) ((w.alloc (.cells #[.int .i64 UW,.int .i64 UH,.slice a n c] 47)).alloc (.cells #[.int .i64 OW,.int .i64 OH,.slice a' m c'] 47)) 47
    rw [nblk_alloc,nblk_alloc] at h
    unfold Hid;rw [hW3];exact h
  have HCall:=hide (picLay_any a a' n m c c' UW UH OW OH x y way U O W3 (hU.below HB3.out) (hO.below HB3.out) bU bO)
  clear hU hO bU bO
  obtain ⟨RE,hRE⟩:∃RE,RE=Num.layE UW UH n OW OH m way 8 9:=⟨_,rfl⟩
  obtain ⟨RL,hRL⟩:∃RL,RL=layR UW UH n OW OH m U O x y way:=⟨_,rfl⟩
  rw [←hRE,←hRL] at HCall
  rw [←hRE,←hRL]
  clear hRE hRL
  go_enter Tryz.func54,Tryz.ntmps54
  go_wp2_with fail
  rw [←hW3]
  refine HCall.out.mono ?_
  rintro e w1 ⟨rw',rh',v,l,rfl,hb1,hown,hq⟩
  have hs1:=hb1.size
  have hZ2:=row_below HZ.out hb1 (by omega)
  obtain ⟨z0,z1,z2⟩:=gz_cells hZ2
  have f0:=hZ2.frozen 0
  have f1:=hZ2.frozen 1
  have f2:=hZ2.frozen 2
  have hsl:w.heap.size+1+1<w1.heap.size:=by omega
  obtain ⟨ao,cap0,hv,_⟩:=owns_formN hown
  have HR:=hide (gz_set hZ2 rw' rh' v)
  have hB:Below w.heap.size w w1:=HB3.out.trans (hb1.mono (by omega))
  have HB:Hid (Below w.heap.size w (((w1.setCell ⟨w.heap.size+1+1,0,none⟩ (.int .i64 rw')).setCell ⟨w.heap.size+1+1,1,none⟩ (.int .i64 rh')).setCell ⟨w.heap.size+1+1,2,none⟩ v)):=((hB.setCell (p:=⟨w.heap.size+1+1,0,none⟩) (by show w.heap.size≤w.heap.size+1+1;omega) _).setCell (p:=⟨w.heap.size+1+1,1,none⟩) (by show w.heap.size≤w.heap.size+1+1;omega) _).setCell (p:=⟨w.heap.size+1+1,2,none⟩) (by show w.heap.size≤w.heap.size+1+1;omega) _
  have HOF:Hid ((((w1.setCell ⟨w.heap.size+1+1,0,none⟩ (.int .i64 rw')).setCell ⟨w.heap.size+1+1,1,none⟩ (.int .i64 rh')).setCell ⟨w.heap.size+1+1,2,none⟩ v).ownsRow w.heap.size 5 1 v l.length (byC l)):=by
    refine owns_mono (owns_of_block hown (fun q hq=>?_)) (by omega)
    have hq1:=(hown.lt q hq).1
    have hne:q≠w.heap.size+1+1:=by omega
    rw [set_other hne,set_other hne,set_other hne]
  have HQ:=hide hq
  subst hv
  clear hown hb1 hZ2 hB HCall hq hW3
  go_wp2
  obtain ⟨wF,hwF⟩:∃wF,wF=((w1.setCell ⟨w.heap.size+1+1,0,none⟩ (.int .i64 rw')).setCell ⟨w.heap.size+1+1,1,none⟩ (.int .i64 rh')).setCell ⟨w.heap.size+1+1,2,none⟩ (.slice ao l.length cap0):=⟨_,rfl⟩
  rw [←hwF]
  rw [←hwF] at HR HB HOF
  obtain ⟨g0,g1,g2⟩:=gz_cells HR.out
  exact bodyPost_ret (v:=.tuple #[.agg #[.int .i64 rw',.int .i64 rh',.slice ao l.length cap0],.int .i64 RE]) (by simp [results,Tryz.results54,go_sem,g0,g1,g2]) rfl ⟨_,_,_,l,rfl,HB.out,HOF.out,HQ.out⟩
set_option maxRecDepth 100000 in
theorem isGray_any (a:Option Addr) (n c:Nat) (W H:Int) (w:World) :
    Calls Tryz.prog 94 #[.agg #[.int .i64 W,.int .i64 H,.slice a n c]] w fun e w'=>e=.returned (.bool (Num.picB W H n))∧w'=w.alloc (.cells #[.int .i64 W,.int .i64 H,.slice a n c] 47):=by
  by_cases h1:1≤W∧W≤64
  · by_cases h2:1≤H∧H≤64
    · have hm:0≤W*H∧W*H≤4096:=by
        have h3:W*H≤64*64:=Int.mul_le_mul h1.2 h2.2 (by omega) (by omega)
        have h4:0≤W*H:=Int.mul_nonneg (by omega) (by omega)
        omega
      have hw:IntKind.i64.wrap (W*H)=W*H:=by rw [IntKind.wrap_i64];omega
      have hq:Num.picB W H n=decide ((n:Int)=W*H):=by simp [Num.picB,h1,h2]
      rw [hq]
      clear hq
      go_enter Tryz.func94,Tryz.ntmps94
      go_wp2
      go_ret
      exact ⟨ret_bool (by first | rfl | (simp;done) | (rw [hw])),rfl⟩
    · have hq:Num.picB W H n=false:=by simp [Num.picB];omega
      rw [hq]
      clear hq
      by_cases h3:1≤H
      · have h4:¬H≤64:=by omega
        clear h2
        go_enter Tryz.func94,Tryz.ntmps94
        go_wp2
        go_ret
        exact ⟨rfl,rfl⟩
      · clear h2
        go_enter Tryz.func94,Tryz.ntmps94
        go_wp2
        go_ret
        exact ⟨rfl,rfl⟩
  · have hq:Num.picB W H n=false:=by simp [Num.picB];omega
    rw [hq]
    clear hq
    by_cases h3:1≤W
    · have h4:¬W≤64:=by omega
      clear h1
      go_enter Tryz.func94,Tryz.ntmps94
      go_wp2
      go_ret
      exact ⟨rfl,rfl⟩
    · clear h1
      go_enter Tryz.func94,Tryz.ntmps94
      go_wp2
      go_ret
      exact ⟨rfl,rfl⟩
def liesV (v:Int) (n k:Nat):Int:=if Num.covB v n k=true then (k:Int)-v else -1
theorem refLies_any (k n:Nat) (v:Int) (w:World) (hk:k<64) (hn:n≤64) :
    Calls Tryz.prog 102 #[.int .i64 k,.int .i64 v,.int .i64 n] w fun e w'=>e=.returned (.int .i64 (liesV v n k))∧w'=w:=by
  unfold liesV
  by_cases hc:Num.covB v n k=true
  · rw [if_pos hc]
    have hc2:v≤(k:Int)∧(k:Int)-v<(n:Int):=by simpa [Num.covB] using hc
    obtain ⟨t,ht⟩:∃t:Nat,(t:Int)=(k:Int)-v:=⟨((k:Int)-v).toNat,by omega⟩
    rw [←ht]
    have h1:v≤(k:Int):=hc2.1
    clear hc
    go_enter Tryz.func102,Tryz.ntmps102
    go_wp2_with fail
    go_loopw [7] (fun u wr=>∃i:Nat,i≤t∧u=.int .i64 i∧wr=w) (fun u _=>t+1-(intOf u).toNat)
    case atStart=>exact ⟨0,by omega,rfl,rfl⟩
    case round=>
      obtain ⟨i,hi,rfl,rfl⟩:=hrel
      have hin:i<n:=by omega
      have hd1:decide ((i:Int)<(n:Int))=true:=by simp;omega
      by_cases hlt:i<t
      · have hd2:((k:Int)-(i:Int) == v)=false:=by simp;omega
        clear ht
        go_wp2
        go_roundw
        case rel=>exact ⟨i+1,by omega,by go_num,by first | rfl | trivial⟩
        case measure=>simp [intOf];omega
      · have hd2:((k:Int)-(i:Int) == v)=true:=by simp;omega
        have e:Hid (i=t):=by unfold Hid;omega
        clear ht
        go_wp2
        go_ret
        exact ⟨ret_int (by rw [e.out]),rfl⟩
  · rw [if_neg hc]
    have hc2:¬(v≤(k:Int)∧(k:Int)-v<(n:Int)):=by simpa [Num.covB] using hc
    clear hc
    go_enter Tryz.func102,Tryz.ntmps102
    go_wp2_with fail
    go_loopw [7] (fun u wr=>∃i:Nat,i≤n∧u=.int .i64 i∧wr=w) (fun u _=>n-(intOf u).toNat)
    case atStart=>exact ⟨0,by omega,rfl,rfl⟩
    case round=>
      obtain ⟨i,hi,rfl,rfl⟩:=hrel
      by_cases hlt:i<n
      · have hd1:decide ((i:Int)<(n:Int))=true:=by simp;omega
        by_cases hv:v≤(k:Int)
        · have hd2:((k:Int)-(i:Int) == v)=false:=by simp;omega
          clear hc2
          go_wp2
          go_roundw
          case rel=>exact ⟨i+1,by omega,by go_num,by first | rfl | trivial⟩
          case measure=>simp [intOf];omega
        · clear hc2
          go_wp2
          go_roundw
          case rel=>exact ⟨i+1,by omega,by go_num,by first | rfl | trivial⟩
          case measure=>simp [intOf];omega
      · have hd1:decide ((i:Int)<(n:Int))=false:=by simp;omega
        clear hc2
        go_wp2
        go_ret
        exact ⟨rfl,rfl⟩
theorem rleastY_any (a b:Int) (w:World):Calls Tryz.prog 148 #[.int .i64 a,.int .i64 b] w fun e w'=>e=.returned (.int .i64 (Num.lsY a b))∧w'=w:=by
  by_cases h:a<b
  · go_enter Tryz.func148,Tryz.ntmps148
    go_wp2
    go_ret
    exact ⟨ret_int (by unfold Num.lsY;rw [if_pos h]),rfl⟩
  · go_enter Tryz.func148,Tryz.ntmps148
    go_wp2
    go_ret
    exact ⟨ret_int (by unfold Num.lsY;rw [if_neg (by omega)]),rfl⟩
theorem rmostY_any (a b:Int) (w:World):Calls Tryz.prog 129 #[.int .i64 a,.int .i64 b] w fun e w'=>e=.returned (.int .i64 (Num.gr a b))∧w'=w:=by
  by_cases h:b<a
  · go_enter Tryz.func129,Tryz.ntmps129
    go_wp2
    go_ret
    exact ⟨ret_int (by unfold Num.gr;rw [if_pos h]),rfl⟩
  · go_enter Tryz.func129,Tryz.ntmps129
    go_wp2
    go_ret
    exact ⟨ret_int (by unfold Num.gr;rw [if_neg (by omega)]),rfl⟩
theorem both_any (u v way:Int) (w:World) (hu:0≤u∧u≤255) (hv:0≤v∧v≤255) (hw:0≤way∧way≤3):Calls Tryz.prog 103 #[.int .i64 u,.int .i64 v,.int .i64 way] w fun e w'=>e=.returned (.int .i64 (Num.mixV u v way))∧w'=w:=by
  obtain ⟨z,hz⟩:∃z,z=Num.mixV u v way:=⟨_,rfl⟩
  rw [←hz]
  unfold Num.mixV at hz
  have HZ:=hide hz
  clear hz
  rcases (show way=0∨way=1∨way=2∨way=3 by omega) with rfl | rfl | rfl | rfl
  all_goals
    go_enter Tryz.func103,Tryz.ntmps103
    go_wp2_with (first | (go_at_call 129;refine (rmostY_any _ _ _).mono ?_;rintro e w' ⟨rfl,rfl⟩) | (go_at_call 148;refine (rleastY_any _ _ _).mono ?_;rintro e w' ⟨rfl,rfl⟩))
    all_goals
      go_ret
      exact ⟨ret_int (by rw [HZ.out];first | (simp only [if_true,if_false,Int.reduceEq];done) | (simp only [if_true,if_false,Int.reduceEq];first | rfl | (unfold Num.lsY;rfl) | (unfold Num.gr;rfl))),rfl⟩
theorem gz_pix {w:World} {p:Nat} {t:TypeId} {a b:Int} {v:Value} (h:w.rowIs p t 3 (gz a b v)) (u:Value):(w.setCell ⟨p,2,none⟩ u).rowIs p t 3 (gz a b u):=by
  refine (h.set 2 _).congr fun q hq=>?_
  rcases (show q=0∨q=1∨q=2 by omega) with rfl | rfl | rfl <;> rfl
set_option maxRecDepth 100000 in
theorem refLay_no (a a':Option Addr) (n m c c':Nat) (UW UH OW OH x y way:Int) (w:World) (hE:Num.layE UW UH n OW OH m way 8 9≠0) :
    Calls Tryz.prog 55 #[.agg #[.int .i64 UW,.int .i64 UH,.slice a n c],.agg #[.int .i64 OW,.int .i64 OH,.slice a' m c'],.int .i64 x,.int .i64 y,.int .i64 way] w fun e w'=>e=.returned (.tuple #[.agg #[.int .i64 0,.int .i64 0,.slice none 0 0],.int .i64 (Num.layE UW UH n OW OH m way 8 9)])∧Below w.heap.size w w':=by
  unfold Num.layE at hE ⊢
  cases h1:Num.picB UW UH n
  · simp only [h1,Bool.false_eq_true,false_and,if_false] at hE ⊢
    go_enter Tryz.func55,Tryz.ntmps55
    go_wp2_with (go_at_call 94;refine (isGray_any _ _ _ _ _ _).mono ?_;rintro e w' ⟨rfl,rfl⟩)
    exact bodyPost_ret (v:=.tuple #[.agg #[.int .i64 0,.int .i64 0,.slice none 0 0],.int .i64 8]) (by simp [results,Tryz.results55,go_sem]) rfl ⟨rfl,by (repeat any_goals first | exact .refl _ _ | assumption | refine .drew ?_ | refine below_drewN ?_ _ | refine .setCell ?_ ?_ _ | refine .alloc ?_ ?_ _ | omega | (simp <;> omega))⟩
  · cases h2:Num.picB OW OH m
    · simp only [h1,h2,Bool.false_eq_true,and_false,if_false] at hE ⊢
      go_enter Tryz.func55,Tryz.ntmps55
      go_wp2_with (go_at_call 94;refine (isGray_any _ _ _ _ _ _).mono ?_;rintro e w' ⟨rfl,rfl⟩)
      exact bodyPost_ret (v:=.tuple #[.agg #[.int .i64 0,.int .i64 0,.slice none 0 0],.int .i64 8]) (by simp [results,Tryz.results55,go_sem]) rfl ⟨rfl,by (repeat any_goals first | exact .refl _ _ | assumption | refine .drew ?_ | refine below_drewN ?_ _ | refine .setCell ?_ ?_ _ | refine .alloc ?_ ?_ _ | omega | (simp <;> omega))⟩
    · simp only [h1,h2,and_self,if_true] at hE ⊢
      have hw:¬(0≤way∧way≤3):=fun h=>by rw [if_pos h] at hE;exact hE rfl
      rw [if_neg hw]
      clear hE
      by_cases w0:way<0
      · clear hw
        go_enter Tryz.func55,Tryz.ntmps55
        go_wp2_with (go_at_call 94;refine (isGray_any _ _ _ _ _ _).mono ?_;rintro e w' ⟨rfl,rfl⟩)
        exact bodyPost_ret (v:=.tuple #[.agg #[.int .i64 0,.int .i64 0,.slice none 0 0],.int .i64 9]) (by simp [results,Tryz.results55,go_sem]) rfl ⟨rfl,by (repeat any_goals first | exact .refl _ _ | assumption | refine .drew ?_ | refine below_drewN ?_ _ | refine .setCell ?_ ?_ _ | refine .alloc ?_ ?_ _ | omega | (simp <;> omega))⟩
      · have w1:3<way:=by omega
        clear hw
        go_enter Tryz.func55,Tryz.ntmps55
        go_wp2_with (go_at_call 94;refine (isGray_any _ _ _ _ _ _).mono ?_;rintro e w' ⟨rfl,rfl⟩)
        exact bodyPost_ret (v:=.tuple #[.agg #[.int .i64 0,.int .i64 0,.slice none 0 0],.int .i64 9]) (by simp [results,Tryz.results55,go_sem]) rfl ⟨rfl,by (repeat any_goals first | exact .refl _ _ | assumption | refine .drew ?_ | refine below_drewN ?_ _ | refine .setCell ?_ ?_ _ | refine .alloc ?_ ?_ _ | omega | (simp <;> omega))⟩
set_option maxRecDepth 100000 in
theorem refLay_yes (a a':Option Addr) (uw uh ow oh c c':Nat) (U O:Nat→Int) (x y way:Int) (w:World) (hu:1≤uw∧uw≤64∧1≤uh∧uh≤64) (ho:1≤ow∧ow≤64∧1≤oh∧oh≤64) (hw:0≤way∧way≤3)
    (hU:ByAt w a (uw*uh) U) (hO:ByAt w a' (ow*oh) O) (bU:∀k,k<uw*uh→0≤U k∧U k≤255) (bO:∀k,k<ow*oh→0≤O k∧O k≤255) :
    Calls Tryz.prog 55 #[.agg #[.int .i64 uw,.int .i64 uh,.slice a (uw*uh) c],.agg #[.int .i64 ow,.int .i64 oh,.slice a' (ow*oh) c'],.int .i64 x,.int .i64 y,.int .i64 way] w fun e w'=>∃v,e=.returned (.tuple #[.agg #[.int .i64 uw,.int .i64 uh,v],.int .i64 0])∧Below w.heap.size w w'∧w'.ownsRow w.heap.size 5 1 v (uw*uh) (byC (Num.layL uw ow oh U O x y way (uw*uh))):=by
  obtain ⟨i0,hi0,hz0,hz1,hz2⟩:=info_parts info_by
  obtain ⟨n,hn⟩:∃n,n=uw*uh:=⟨_,rfl⟩
  obtain ⟨m,hm⟩:∃m,m=ow*oh:=⟨_,rfl⟩
  have hn1:n≤4096:=by rw [hn];exact Num.mul_le_sq hu.2.1 hu.2.2.2
  have hm1:m≤4096:=by rw [hm];exact Num.mul_le_sq ho.2.1 ho.2.2.2
  have p1:Num.picB (uw:Int) (uh:Int) n=true:=by simp [Num.picB,hn];omega
  have p2:Num.picB (ow:Int) (oh:Int) m=true:=by simp [Num.picB,hm];omega
  rw [←hn] at hU bU ⊢
  rw [←hm] at hO bO ⊢
  obtain ⟨sb,hsb⟩:∃sb,sb=w.heap.size:=⟨_,rfl⟩
  obtain ⟨W5,hW5⟩:∃W5,W5=((((w.alloc (.cells #[.int .i64 uw,.int .i64 uh,.slice a n c] 47)).alloc (.cells #[.int .i64 ow,.int .i64 oh,.slice a' m c'] 47)).alloc (.cells #[.int .i64 0,.int .i64 0,.slice none 0 0] 47)).alloc (.cells #[.int .i64 uw,.int .i64 uh,.slice a n c] 47)).alloc (.cells #[.int .i64 ow,.int .i64 oh,.slice a' m c'] 47):=⟨_,rfl⟩
  obtain ⟨W6,hW6⟩:∃W6,W6=W5.alloc (.cells #[.int .i64 uw,.int .i64 uh,.slice none 0 0] 47):=⟨_,rfl⟩
  have hs5:W5.heap.size=sb+5:=by rw [hW5,hsb];simp
  have hs6:W6.heap.size=sb+6:=by rw [hW6];simp [hs5]
  have hB6:Below w.heap.size w W6:=by rw [hW6,hW5];(repeat any_goals first | exact .refl _ _ | assumption | refine .drew ?_ | refine below_drewN ?_ _ | refine .setCell ?_ ?_ _ | refine .alloc ?_ ?_ _ | omega | (simp <;> omega))
  have hGu:W6.rowIs sb 47 3 (gz uw uh (.slice a n c)):=by rw [hW6,hW5,hsb];exact (((((gz_row _ _ _ _ _).alloc _).alloc _).alloc _).alloc _).alloc _
  have hGo:W6.rowIs (sb+1) 47 3 (gz ow oh (.slice a' m c')):=by
    have h:=gz_row ow oh (.slice a' m c') (w.alloc (.cells #[.int .i64 (uw:Int),.int .i64 (uh:Int),.slice a n c] 47)) 47
    rw [nblk_alloc] at h
    rw [hW6,hW5,hsb];exact (((h.alloc _).alloc _).alloc _).alloc _
  have hGz:W6.rowIs (sb+1+1) 47 3 (gz 0 0 (.slice none 0 0)):=by
    have h:=gz_row 0 0 (.slice none 0 0) ((w.alloc (.cells #[.int .i64 (uw:Int),.int .i64 (uh:Int),.slice a n c] 47)).alloc (.cells #[.int .i64 (ow:Int),.int .i64 (oh:Int),.slice a' m c'] 47)) 47
    rw [nblk_alloc,nblk_alloc] at h
    rw [hW6,hW5,hsb];exact ((h.alloc _).alloc _).alloc _
  have hGg:W6.rowIs (sb+1+1+1+1+1) 47 3 (gz uw uh (.slice none 0 0)):=by
    have h:=gz_row uw uh (.slice none 0 0) W5 47
    rw [hs5] at h
    rw [hW6];exact h
  have HU:=hide hU
  have HO:=hide hO
  have HbU:=hide bU
  have HbO:=hide bO
  have HGu:=hide hGu
  have HGo:=hide hGo
  have HGz:=hide hGz
  have HGg:=hide hGg
  have HB6:Hid (Below sb w W6):=by unfold Hid;rw [hsb];exact hB6
  have HSb:=hide hsb
  have HN:=hide hn
  have HM:=hide hm
  have HS6:=hide hs6
  have w0:¬way<0:=by omega
  have w1:¬3<way:=by omega
  clear hU hO bU bO hB6 hGu hGo hGz hGg hn hm hs5 hs6
  go_enter Tryz.func55,Tryz.ntmps55
  go_wp2_with (go_at_call 94;refine (isGray_any _ _ _ _ _ _).mono ?_;rintro e w' ⟨rfl,rfl⟩)
  rw [←hW5,←hW6]
  try rw [←hsb]
  clear hW5 hW6 hsb
  go_loopw [15] (fun t wr=>∃(j:Nat) (v:Value),j≤uh∧t=.int .i64 j∧Below (sb+5) W6 wr∧wr.rowIs (sb+1+1+1+1+1) 47 3 (gz uw uh v)∧wr.ownsRow (sb+6) 5 1 v (j*uw) (byC (Num.layL uw ow oh U O x y way (j*uw)))) (fun t _=>uh-(intOf t).toNat)
  case atStart=>exact ⟨0,.slice none 0 0,by omega,rfl,Below.refl _ _,HGg.out,by simp [Num.layL,byC];exact World.ownsRow_nil _ _ _ _⟩
  case round=>
    obtain ⟨wo,rfl⟩:∃wo,wo=wr:=⟨_,rfl⟩
    obtain ⟨j,vo,hj,rfl,hbo,hgo,howno⟩:=hrel
    have hszo:=hbo.size
    have hS6:=HS6.out
    obtain ⟨u0,u1,u2⟩:=gz_cells (row_below HGu.out hbo (by omega))
    obtain ⟨o0,o1,o2⟩:=gz_cells (row_below HGo.out hbo (by omega))
    by_cases hlt:j<uh
    · have hd1:decide ((j:Int)<(uh:Int))=true:=by simp;omega
      have hmj:j*uw+uw≤n:=by rw [HN.out,Nat.mul_comm uw uh,←Nat.succ_mul];exact Nat.mul_le_mul_right uw hlt
      obtain ⟨ja,hja⟩:∃ja,ja=j*uw:=⟨_,rfl⟩
      have hmul:(j:Int)*(uw:Int)=(ja:Int):=by rw [hja];simp
      rw [←hja] at howno hmj
      have HJA:=hide hja
      have HOo:=hide (And.intro hbo (And.intro hgo howno))
      have hj64:j<64:=by omega
      clear howno hbo hja hgo
      by_cases hcy:Num.covB y oh j=true
      · have by':y≤(j:Int)∧(j:Int)-y<(oh:Int):=by simpa [Num.covB] using hcy
        obtain ⟨jy,hjy⟩:∃jy:Nat,(j:Int)-y=(jy:Int):=⟨((j:Int)-y).toNat,by omega⟩
        have hly:liesV y oh j=(jy:Int):=by unfold liesV;rw [if_pos hcy];exact hjy
        have HJY:=hide (And.intro hjy by')
        have hjyb:jy<oh:=by omega
        clear hjy by'
        go_wp2_with (go_at_call 102;refine (refLies_any _ _ _ _ (by omega) (by omega)).mono ?_;rintro e w' ⟨rfl,hw'⟩;rw [hw'];clear hw')
        go_loopw [17] (fun t wr=>∃(i:Nat) (v:Value),i≤uw∧t=.int .i64 i∧Below (sb+5) W6 wr∧wr.rowIs (sb+1+1+1+1+1) 47 3 (gz uw uh v)∧wr.ownsRow (sb+6) 5 1 v (ja+i) (byC (Num.layL uw ow oh U O x y way (ja+i)))) (fun t _=>uw-(intOf t).toNat)
        case atStart=>exact ⟨0,vo,by omega,rfl,HOo.out.1,HOo.out.2.1,HOo.out.2.2⟩
        case round=>
          obtain ⟨i,v,hi,rfl,hb1,hg1',hown⟩:=hrel
          have hsz:=hb1.size
          clear u0 u1 u2 o0 o1 o2
          obtain ⟨u0,u1,u2⟩:=gz_cells (row_below HGu.out hb1 (by omega))
          obtain ⟨o0,o1,o2⟩:=gz_cells (row_below HGo.out hb1 (by omega))
          by_cases hli:i<uw
          · have hdi:decide ((i:Int)<(uw:Int))=true:=by simp;omega
            have hin:ja+i<n:=by omega
            have hBw:Below w.heap.size w wr:=by rw [←HSb.out];exact HB6.out.trans (hb1.mono (by omega))
            obtain ⟨ub,uoff,rfl,cu,hub⟩:=cellBy (HU.out.below hBw) hin
            have hUb:=HbU.out _ hin
            have cu':wr.cell? ⟨ub,uoff+((ja:Int)+(i:Int)).toNat,none⟩=some (.int .u8 (U (ja+i))):=by rw [show ((ja:Int)+(i:Int)).toNat=ja+i by omega];exact cu
            have g0:(0:Int)≤(ja:Int)+(i:Int):=by omega
            have g1:(ja:Int)+(i:Int)<(n:Int):=by omega
            have hmod:(ja+i) % uw=i:=by rw [HJA.out,Nat.mul_comm j uw,Nat.mul_add_mod,Nat.mod_eq_of_lt hli]
            have hdiv:(ja+i) / uw=j:=by rw [HJA.out,Nat.mul_comm j uw,Nat.mul_add_div (by omega),Nat.div_eq_of_lt hli,Nat.add_zero]
            have HSu:=hide (Num.layL_succ uw ow oh U O x y way (ja+i))
            rw [hmod,hdiv] at HSu
            have HJi:Hid (j*uw+i=ja+i):=by unfold Hid;rw [HJA.out]
            obtain ⟨L,hL⟩:∃L,L=byC (Num.layL uw ow oh U O x y way (ja+i)):=⟨_,rfl⟩
            rw [←hL] at hown
            obtain ⟨z,hz⟩:∃z,z=Num.layV uw ow oh U O x y way i j:=⟨_,rfl⟩
            have HLs:Hid (byC (Num.layL uw ow oh U O x y way (ja+i+1))=L++[.int .u8 z]):=by unfold Hid;rw [HSu.out,byC_snoc,hL,hz]
            have hzv:Hid (z=if Num.covB x ow i=true∧Num.covB y oh j=true then Num.mixV (U (ja+i)) (O (((j:Int)-y).toNat*ow+((i:Int)-x).toNat)) way else U (ja+i)):=by unfold Hid;rw [hz];unfold Num.layV;rw [HJi.out]
            have HOw:=hide hown
            have HBw:=hide hb1
            have HGw:=hide hg1'
            have k2:=(gz_cells hg1').2.2
            have f2:=hg1'.frozen 2
            have hgl:=hg1'.lt
            have HBww:=hide hBw
            have hi64:i<64:=by omega
            clear hmod hdiv hL HSu hown hb1 hz hg1' hBw
            by_cases hcx:Num.covB x ow i=true
            · have bx:x≤(i:Int)∧(i:Int)-x<(ow:Int):=by simpa [Num.covB] using hcx
              obtain ⟨ix,hix⟩:∃ix:Nat,(i:Int)-x=(ix:Int):=⟨((i:Int)-x).toNat,by omega⟩
              have hlx:liesV x ow i=(ix:Int):=by unfold liesV;rw [if_pos hcx];exact hix
              obtain ⟨jo,hjo⟩:∃jo,jo=jy*ow:=⟨_,rfl⟩
              have hmul2:(jy:Int)*(ow:Int)=(jo:Int):=by rw [hjo];simp
              have hom:jo+ix<m:=by rw [hjo,HM.out];exact Num.mul_row (by omega) (by omega)
              obtain ⟨ob,ooff,rfl,co,hob⟩:=cellBy (HO.out.below HBww.out) hom
              have hOb:=HbO.out _ hom
              have co':wr.cell? ⟨ob,ooff+((jo:Int)+(ix:Int)).toNat,none⟩=some (.int .u8 (O (jo+ix))):=by rw [show ((jo:Int)+(ix:Int)).toNat=jo+ix by omega];exact co
              have k0:(0:Int)≤(jo:Int)+(ix:Int):=by omega
              have k1:(jo:Int)+(ix:Int)<(m:Int):=by omega
              have hzz:Hid (z=Num.mixV (U (ja+i)) (O (jo+ix)) way):=by
                unfold Hid
                rw [hzv.out,if_pos ⟨hcx,hcy⟩,hjo,show ((j:Int)-y).toNat=jy by have:=HJY.out.1;omega,show ((i:Int)-x).toNat=ix by omega]
              have HMix:=hide (fun w=>both_any (U (ja+i)) (O (jo+ix)) way w hUb hOb hw)
              rw [←hzz.out] at HMix
              have hzb:0≤z∧z≤255:=by rw [hzz.out];exact Num.mixV_bd hUb hOb
              have hjx:(0:Int)≤(jy:Int):=by omega
              have hixx:(0:Int)≤(ix:Int):=by omega
              clear hjo hzv hix bx
              go_wp2_with (first | (go_at_call 102;refine (refLies_any _ _ _ _ (by omega) (by omega)).mono ?_;rintro e w' ⟨rfl,hw'⟩;rw [hw'];clear hw') | (go_at_call 103;refine (HMix.out _).mono ?_;rintro e w' ⟨rfl,hw'⟩;rw [hw'];clear hw') | (at_builtin;refine wpList_append_lies _ rfl _ _ 45 rfl (sb+6) 5 i0 (.int .u8 0) 1 1 Tryz.underlying45 hi0 hz0 hz1 hz2 rfl (by omega) v (ja+i) L rfl (HOw.out.alloc _) ⟨wr.heap.size,0,none⟩ 1 1 [.int .u8 z] rfl rfl ?a1 ?a2 (by omega) ?a3 ?a4 ?a5 (wr.heap.size+1) (by simp) ?_))
              try (case a1=>exact news_sp wr [.int .u8 z] _ _ rfl)
              case a2=>first | rfl | (intro u hu;simp at hu;subst hu;rfl)
              case a3=>unfold maxLen;omega
              case a4=>omega
              case a5=>first | omega | (simp;omega)
              intro g cap w4 hown4 hgrow hat hlt4
              have hnb:∀q,v.ownBlock=some q→sb+6≤q:=fun q hq=>(HOw.out.lt q hq).1
              have hb4:Below (sb+5) W6 w4:=(HBw.out.alloc (by omega) _).grown hgrow (by simp;omega) (fun q hq=>by have:=hnb q hq;omega)
              have hg4:=HGw.out.of_block (show w4.heap[sb+1+1+1+1+1]? = wr.heap[sb+1+1+1+1+1]? by rw [hgrow.block _ (by rw [nblk_alloc];have:=HGw.out.lt;omega) (fun e=>by have:=hnb _ e.symm;omega),blk_alloc_lt _ _ _ HGw.out.lt])
              have hgge:sb+6≤g:=by
                rcases hat with h | h
                · exact hnb g h
                · omega
              have HG4:=hide (gz_pix hg4 (.slice (some ⟨g,0,none⟩) (ja+i+1) cap))
              have HO4:Hid ((w4.setCell ⟨sb+1+1+1+1+1,2,none⟩ (.slice (some ⟨g,0,none⟩) (ja+i+1) cap)).ownsRow (sb+6) 5 1 (.slice (some ⟨g,0,none⟩) (ja+i+1) cap) (ja+(i+1)) (byC (Num.layL uw ow oh U O x y way (ja+(i+1))))):=by
                unfold Hid
                rw [←Nat.add_assoc,HLs.out]
                exact owns_of_block hown4 (fun q hq=>set_other (by simp [Value.ownBlock] at hq;omega))
              have HB4:Hid (Below (sb+5) W6 (w4.setCell ⟨sb+1+1+1+1+1,2,none⟩ (.slice (some ⟨g,0,none⟩) (ja+i+1) cap))):=hb4.setCell (p:=⟨sb+1+1+1+1+1,2,none⟩) (by show sb+5≤sb+1+1+1+1+1;omega) _
              have k4:=(gz_cells hg4).2.2
              have f4:=hg4.frozen 2
              have hgl4:=hg4.lt
              clear hown4 hgrow hat hnb hb4 hg4 k2 f2
              go_wp2
              go_roundw
              case rel=>exact ⟨i+1,_,by omega,by go_num,HB4.out,HG4.out,HO4.out⟩
              case measure=>simp [intOf];omega
            · have hcx:Num.covB x ow i=false:=by simpa using hcx
              have hlx:liesV x ow i = -1:=by unfold liesV;rw [hcx];rfl
              have hzU:Hid (z=U (ja+i)):=by unfold Hid;rw [hzv.out,if_neg (fun e=>by rw [e.1] at hcx;cases hcx)]
              have hjx:(0:Int)≤(jy:Int):=by omega
              clear hzv
              go_wp2_with (first | (go_at_call 102;refine (refLies_any _ _ _ _ (by omega) (by omega)).mono ?_;rintro e w' ⟨rfl,hw'⟩;rw [hw'];clear hw') | (at_builtin;refine wpList_append_lies _ rfl _ _ 45 rfl (sb+6) 5 i0 (.int .u8 0) 1 1 Tryz.underlying45 hi0 hz0 hz1 hz2 rfl (by omega) v (ja+i) L rfl (HOw.out.alloc _) ⟨wr.heap.size,0,none⟩ 1 1 [.int .u8 (U (ja+i))] rfl rfl ?a1 ?a2 (by omega) ?a3 ?a4 ?a5 (wr.heap.size+1) (by simp) ?_))
              try (case a1=>exact news_sp wr [.int .u8 (U (ja+i))] _ _ rfl)
              case a2=>first | rfl | (intro u hu;simp at hu;subst hu;rfl)
              case a3=>unfold maxLen;omega
              case a4=>omega
              case a5=>first | omega | (simp;omega)
              intro g cap w4 hown4 hgrow hat hlt4
              have hnb:∀q,v.ownBlock=some q→sb+6≤q:=fun q hq=>(HOw.out.lt q hq).1
              have hb4:Below (sb+5) W6 w4:=(HBw.out.alloc (by omega) _).grown hgrow (by simp;omega) (fun q hq=>by have:=hnb q hq;omega)
              have hg4:=HGw.out.of_block (show w4.heap[sb+1+1+1+1+1]? = wr.heap[sb+1+1+1+1+1]? by rw [hgrow.block _ (by rw [nblk_alloc];have:=HGw.out.lt;omega) (fun e=>by have:=hnb _ e.symm;omega),blk_alloc_lt _ _ _ HGw.out.lt])
              have hgge:sb+6≤g:=by
                rcases hat with h | h
                · exact hnb g h
                · omega
              have HG4:=hide (gz_pix hg4 (.slice (some ⟨g,0,none⟩) (ja+i+1) cap))
              have HO4:Hid ((w4.setCell ⟨sb+1+1+1+1+1,2,none⟩ (.slice (some ⟨g,0,none⟩) (ja+i+1) cap)).ownsRow (sb+6) 5 1 (.slice (some ⟨g,0,none⟩) (ja+i+1) cap) (ja+(i+1)) (byC (Num.layL uw ow oh U O x y way (ja+(i+1))))):=by
                unfold Hid
                rw [←Nat.add_assoc,HLs.out]
                try rw [hzU.out]
                exact owns_of_block hown4 (fun q hq=>set_other (by simp [Value.ownBlock] at hq;omega))
              have HB4:Hid (Below (sb+5) W6 (w4.setCell ⟨sb+1+1+1+1+1,2,none⟩ (.slice (some ⟨g,0,none⟩) (ja+i+1) cap))):=hb4.setCell (p:=⟨sb+1+1+1+1+1,2,none⟩) (by show sb+5≤sb+1+1+1+1+1;omega) _
              have k4:=(gz_cells hg4).2.2
              have f4:=hg4.frozen 2
              have hgl4:=hg4.lt
              clear hown4 hgrow hat hnb hb4 hg4 k2 f2
              go_wp2
              go_roundw
              case rel=>exact ⟨i+1,_,by omega,by go_num,HB4.out,HG4.out,HO4.out⟩
              case measure=>simp [intOf];omega
          · have e:i=uw:=by omega
            have hdi:decide ((i:Int)<(uw:Int))=false:=by simp;omega
            have HOF:Hid (wr.ownsRow (sb+6) 5 1 v ((j+1)*uw) (byC (Num.layL uw ow oh U O x y way ((j+1)*uw)))):=by
              unfold Hid
              rw [e,HJA.out,←Nat.succ_mul] at hown
              exact hown
            have HB:=hide (And.intro hb1 hg1')
            clear hown hb1 hg1'
            go_wp2
            go_roundw
            case rel=>exact ⟨j+1,v,by omega,by go_num,HB.out.1,HB.out.2,HOF.out⟩
            case measure=>simp [intOf];omega
      · have hcy:Num.covB y oh j=false:=by simpa using hcy
        have hly:liesV y oh j = -1:=by unfold liesV;rw [hcy];rfl
        go_wp2_with (go_at_call 102;refine (refLies_any _ _ _ _ (by omega) (by omega)).mono ?_;rintro e w' ⟨rfl,hw'⟩;rw [hw'];clear hw')
        go_loopw [17] (fun t wr=>∃(i:Nat) (v:Value),i≤uw∧t=.int .i64 i∧Below (sb+5) W6 wr∧wr.rowIs (sb+1+1+1+1+1) 47 3 (gz uw uh v)∧wr.ownsRow (sb+6) 5 1 v (ja+i) (byC (Num.layL uw ow oh U O x y way (ja+i)))) (fun t _=>uw-(intOf t).toNat)
        case atStart=>exact ⟨0,vo,by omega,rfl,HOo.out.1,HOo.out.2.1,HOo.out.2.2⟩
        case round=>
          obtain ⟨i,v,hi,rfl,hb1,hg1',hown⟩:=hrel
          have hsz:=hb1.size
          clear u0 u1 u2 o0 o1 o2
          obtain ⟨u0,u1,u2⟩:=gz_cells (row_below HGu.out hb1 (by omega))
          obtain ⟨o0,o1,o2⟩:=gz_cells (row_below HGo.out hb1 (by omega))
          by_cases hli:i<uw
          · have hdi:decide ((i:Int)<(uw:Int))=true:=by simp;omega
            have hin:ja+i<n:=by omega
            have hBw:Below w.heap.size w wr:=by rw [←HSb.out];exact HB6.out.trans (hb1.mono (by omega))
            obtain ⟨ub,uoff,rfl,cu,hub⟩:=cellBy (HU.out.below hBw) hin
            have hUb:=HbU.out _ hin
            have cu':wr.cell? ⟨ub,uoff+((ja:Int)+(i:Int)).toNat,none⟩=some (.int .u8 (U (ja+i))):=by rw [show ((ja:Int)+(i:Int)).toNat=ja+i by omega];exact cu
            have g0:(0:Int)≤(ja:Int)+(i:Int):=by omega
            have g1:(ja:Int)+(i:Int)<(n:Int):=by omega
            have hmod:(ja+i) % uw=i:=by rw [HJA.out,Nat.mul_comm j uw,Nat.mul_add_mod,Nat.mod_eq_of_lt hli]
            have hdiv:(ja+i) / uw=j:=by rw [HJA.out,Nat.mul_comm j uw,Nat.mul_add_div (by omega),Nat.div_eq_of_lt hli,Nat.add_zero]
            have HSu:=hide (Num.layL_succ uw ow oh U O x y way (ja+i))
            rw [hmod,hdiv] at HSu
            have HJi:Hid (j*uw+i=ja+i):=by unfold Hid;rw [HJA.out]
            obtain ⟨L,hL⟩:∃L,L=byC (Num.layL uw ow oh U O x y way (ja+i)):=⟨_,rfl⟩
            rw [←hL] at hown
            obtain ⟨z,hz⟩:∃z,z=Num.layV uw ow oh U O x y way i j:=⟨_,rfl⟩
            have HLs:Hid (byC (Num.layL uw ow oh U O x y way (ja+i+1))=L++[.int .u8 z]):=by unfold Hid;rw [HSu.out,byC_snoc,hL,hz]
            have hzv:Hid (z=if Num.covB x ow i=true∧Num.covB y oh j=true then Num.mixV (U (ja+i)) (O (((j:Int)-y).toNat*ow+((i:Int)-x).toNat)) way else U (ja+i)):=by unfold Hid;rw [hz];unfold Num.layV;rw [HJi.out]
            have HOw:=hide hown
            have HBw:=hide hb1
            have HGw:=hide hg1'
            have k2:=(gz_cells hg1').2.2
            have f2:=hg1'.frozen 2
            have hgl:=hg1'.lt
            have HBww:=hide hBw
            have hi64:i<64:=by omega
            clear hmod hdiv hL HSu hown hb1 hz hg1' hBw
            have hzU:Hid (z=U (ja+i)):=by unfold Hid;rw [hzv.out,if_neg (fun e=>by rw [e.2] at hcy;cases hcy)]
            clear hzv
            go_wp2_with (first | (go_at_call 102;refine (refLies_any _ _ _ _ (by omega) (by omega)).mono ?_;rintro e w' ⟨rfl,hw'⟩;rw [hw'];clear hw') | (at_builtin;refine wpList_append_lies _ rfl _ _ 45 rfl (sb+6) 5 i0 (.int .u8 0) 1 1 Tryz.underlying45 hi0 hz0 hz1 hz2 rfl (by omega) v (ja+i) L rfl (HOw.out.alloc _) ⟨wr.heap.size,0,none⟩ 1 1 [.int .u8 (U (ja+i))] rfl rfl ?a1 ?a2 (by omega) ?a3 ?a4 ?a5 (wr.heap.size+1) (by simp) ?_))
            try (case a1=>exact news_sp wr [.int .u8 (U (ja+i))] _ _ rfl)
            case a2=>first | rfl | (intro u hu;simp at hu;subst hu;rfl)
            case a3=>unfold maxLen;omega
            case a4=>omega
            case a5=>first | omega | (simp;omega)
            intro g cap w4 hown4 hgrow hat hlt4
            have hnb:∀q,v.ownBlock=some q→sb+6≤q:=fun q hq=>(HOw.out.lt q hq).1
            have hb4:Below (sb+5) W6 w4:=(HBw.out.alloc (by omega) _).grown hgrow (by simp;omega) (fun q hq=>by have:=hnb q hq;omega)
            have hg4:=HGw.out.of_block (show w4.heap[sb+1+1+1+1+1]? = wr.heap[sb+1+1+1+1+1]? by rw [hgrow.block _ (by rw [nblk_alloc];have:=HGw.out.lt;omega) (fun e=>by have:=hnb _ e.symm;omega),blk_alloc_lt _ _ _ HGw.out.lt])
            have hgge:sb+6≤g:=by
              rcases hat with h | h
              · exact hnb g h
              · omega
            have HG4:=hide (gz_pix hg4 (.slice (some ⟨g,0,none⟩) (ja+i+1) cap))
            have HO4:Hid ((w4.setCell ⟨sb+1+1+1+1+1,2,none⟩ (.slice (some ⟨g,0,none⟩) (ja+i+1) cap)).ownsRow (sb+6) 5 1 (.slice (some ⟨g,0,none⟩) (ja+i+1) cap) (ja+(i+1)) (byC (Num.layL uw ow oh U O x y way (ja+(i+1))))):=by
              unfold Hid
              rw [←Nat.add_assoc,HLs.out]
              try rw [hzU.out]
              exact owns_of_block hown4 (fun q hq=>set_other (by simp [Value.ownBlock] at hq;omega))
            have HB4:Hid (Below (sb+5) W6 (w4.setCell ⟨sb+1+1+1+1+1,2,none⟩ (.slice (some ⟨g,0,none⟩) (ja+i+1) cap))):=hb4.setCell (p:=⟨sb+1+1+1+1+1,2,none⟩) (by show sb+5≤sb+1+1+1+1+1;omega) _
            have k4:=(gz_cells hg4).2.2
            have f4:=hg4.frozen 2
            have hgl4:=hg4.lt
            clear hown4 hgrow hat hnb hb4 hg4 k2 f2
            go_wp2
            go_roundw
            case rel=>exact ⟨i+1,_,by omega,by go_num,HB4.out,HG4.out,HO4.out⟩
            case measure=>simp [intOf];omega
          · have e:i=uw:=by omega
            have hdi:decide ((i:Int)<(uw:Int))=false:=by simp;omega
            have HOF:Hid (wr.ownsRow (sb+6) 5 1 v ((j+1)*uw) (byC (Num.layL uw ow oh U O x y way ((j+1)*uw)))):=by
              unfold Hid
              rw [e,HJA.out,←Nat.succ_mul] at hown
              exact hown
            have HB:=hide (And.intro hb1 hg1')
            clear hown hb1 hg1'
            go_wp2
            go_roundw
            case rel=>exact ⟨j+1,v,by omega,by go_num,HB.out.1,HB.out.2,HOF.out⟩
            case measure=>simp [intOf];omega
    · have e:j=uh:=by omega
      have hd0:decide ((j:Int)<(uh:Int))=false:=by simp;omega
      have HOF:Hid (wo.ownsRow (sb+6) 5 1 vo n (byC (Num.layL uw ow oh U O x y way n))):=by
        unfold Hid
        rw [e,Nat.mul_comm uh uw,←HN.out] at howno
        exact howno
      have hZ2:=row_below HGz.out hbo (by omega)
      obtain ⟨z0,z1,z2⟩:=gz_cells hZ2
      obtain ⟨y0,y1,y2⟩:=gz_cells hgo
      have f0:=hZ2.frozen 0
      have f1:=hZ2.frozen 1
      have f2:=hZ2.frozen 2
      have hsl:=hZ2.lt
      obtain ⟨ao,cap0,hv,_⟩:=owns_formN HOF.out
      have HR:=hide (gz_set hZ2 uw uh vo)
      have hB:Below sb w wo:=HB6.out.trans (hbo.mono (by omega))
      have HB:Hid (Below sb w (((wo.setCell ⟨sb+1+1,0,none⟩ (.int .i64 uw)).setCell ⟨sb+1+1,1,none⟩ (.int .i64 uh)).setCell ⟨sb+1+1,2,none⟩ vo)):=((hB.setCell (p:=⟨sb+1+1,0,none⟩) (by show sb≤sb+1+1;omega) _).setCell (p:=⟨sb+1+1,1,none⟩) (by show sb≤sb+1+1;omega) _).setCell (p:=⟨sb+1+1,2,none⟩) (by show sb≤sb+1+1;omega) _
      have HOG:Hid ((((wo.setCell ⟨sb+1+1,0,none⟩ (.int .i64 uw)).setCell ⟨sb+1+1,1,none⟩ (.int .i64 uh)).setCell ⟨sb+1+1,2,none⟩ vo).ownsRow sb 5 1 vo n (byC (Num.layL uw ow oh U O x y way n))):=by
        refine owns_mono (owns_of_block HOF.out (fun q hq=>?_)) (by omega)
        have hq1:=(HOF.out.lt q hq).1
        have hne:q≠sb+1+1:=by omega
        rw [set_other hne,set_other hne,set_other hne]
      subst hv
      clear howno hbo hZ2 hB HOF hgo
      go_wp2
      obtain ⟨wF,hwF⟩:∃wF,wF=((wo.setCell ⟨sb+1+1,0,none⟩ (.int .i64 uw)).setCell ⟨sb+1+1,1,none⟩ (.int .i64 uh)).setCell ⟨sb+1+1,2,none⟩ (.slice ao n cap0):=⟨_,rfl⟩
      rw [←hwF]
      rw [←hwF] at HR HB HOG
      obtain ⟨g0,g1,g2⟩:=gz_cells HR.out
      exact bodyPost_ret (v:=.tuple #[.agg #[.int .i64 uw,.int .i64 uh,.slice ao n cap0],.int .i64 0]) (by simp [results,Tryz.results55,go_sem,g0,g1,g2]) rfl ⟨_,rfl,by rw [←HSb.out];exact HB.out,by rw [←HSb.out];exact HOG.out⟩
theorem refLay_any (a a':Option Addr) (n m c c':Nat) (UW UH OW OH x y way:Int) (U O:Nat→Int) (w:World)
    (hU:ByAt w a n U) (hO:ByAt w a' m O) (bU:∀k,k<n→0≤U k∧U k≤255) (bO:∀k,k<m→0≤O k∧O k≤255) :
    Calls Tryz.prog 55 #[.agg #[.int .i64 UW,.int .i64 UH,.slice a n c],.agg #[.int .i64 OW,.int .i64 OH,.slice a' m c'],.int .i64 x,.int .i64 y,.int .i64 way] w fun e w'=>∃rw rh v l,e=.returned (.tuple #[.agg #[.int .i64 rw,.int .i64 rh,v],.int .i64 (Num.layE UW UH n OW OH m way 8 9)])∧Below w.heap.size w w'∧w'.ownsRow w.heap.size 5 1 v (List.length l) (byC l)∧(rw,rh,l)=layR UW UH n OW OH m U O x y way:=by
  rcases layE_cases UW UH n OW OH m way with h | ⟨h,p1,p2,h3⟩
  · refine (refLay_no a a' n m c c' UW UH OW OH x y way w h).mono ?_
    rintro e w' ⟨rfl,hb⟩
    exact ⟨0,0,.slice none 0 0,[],rfl,hb,World.ownsRow_nil _ _ _ _,by unfold layR;rw [if_neg h]⟩
  · obtain ⟨uw,uh,rfl,rfl,u1,u2,u3,u4,rfl⟩:=picB_yes p1
    obtain ⟨ow,oh,rfl,rfl,o1,o2,o3,o4,rfl⟩:=picB_yes p2
    refine (refLay_yes a a' uw uh ow oh c c' U O x y way w ⟨u1,u2,u3,u4⟩ ⟨o1,o2,o3,o4⟩ h3 hU hO bU bO).mono ?_
    rintro e w' ⟨v,rfl,hb,hown⟩
    refine ⟨uw,uh,v,Num.layL uw ow oh U O x y way (uw*uh),by rw [h],hb,by rw [Num.layL_len];exact hown,?_⟩
    unfold layR
    rw [if_pos h]
    simp
theorem info_u8g:(Tryz.prog.info? 5).map (fun i=>(i.zero,i.size,i.bytes))=some (some (.int .u8 0),1,1):=by kernel_rfl
theorem mk_bytes (n:Nat) (hn:n≤140737488355328) (w:World):(Instr.makeSlice 45 (.int .i64 ((n:Int)+2)) (.int .i64 ((n:Int)+2))).run Tryz.prog w=.ok (.slice (some ⟨w.heap.size,0,none⟩) (n+2) (n+2)) (w.alloc (.cells (madeCells #[.int .u8 0] (n+2)) 5)):=by
  obtain ⟨i,hi,hz0,hz1,hz2⟩:=info_parts info_u8g
  have h:=run_make (P:=Tryz.prog) w 45 5 i _ Tryz.underlying45 hi hz0 .i64 .i64 ((n:Int)+2) ((n:Int)+2) (by omega) (Int.le_refl _) (by rw [hz2];omega) (by omega)
  rw [hz1,show ((n:Int)+2).toNat=n+2 by omega] at h
  simpa [Value.cells] using h
def lentB (n:Nat) (X:Nat→Int) (k:Nat):Value:=.int .u8 (if k<n then X k else 195)
def cutB (n:Nat) (X:Nat→Int):List Value:=(List.range n).map fun k=>.int .u8 (X k)
theorem cutB_len (n:Nat) (X:Nat→Int):(cutB n X).length=n:=by simp [cutB]
theorem info_sz:(Tryz.prog.info? 5).map (·.size)=some 1:=by kernel_rfl
theorem splice_cell (n i:Nat) (X:Nat→Int) (hi:i<n+2):(splice (madeCells #[Value.int .u8 0] (n+2)).toList 0 (cutB n X))[i]? = some (.int .u8 (if i<n then X i else 0)):=by
  unfold splice
  rw [List.take_zero,List.nil_append,cutB_len,Nat.zero_add]
  by_cases h:i<n
  · rw [List.getElem?_append_left (by rw [cutB_len];exact h),if_pos h]
    simp [cutB,h]
  · rw [List.getElem?_append_right (by rw [cutB_len];omega),if_neg h,cutB_len,List.getElem?_drop]
    have e:n+(i-n)=i:=by omega
    rw [e]
    simp [madeCells,hi,Nat.mod_one]
theorem splice_row {w:World} {g n:Nat} {t:TypeId} {X:Nat→Int} (h:w.heap[g]? = some (.cells (splice (madeCells #[Value.int .u8 0] (n+2)).toList 0 (cutB n X)).toArray t (0,0))) :
    w.rowIs g t (n+2) (fun k=>.int .u8 (if k<n then X k else 0)):=by
  have hl:(madeCells #[Value.int .u8 0] (n+2)).toList.length=n+2:=by rw [Array.length_toList,size_madeCells]
  have hs:(splice (madeCells #[Value.int .u8 0] (n+2)).toList 0 (cutB n X)).length=n+2:=by
    rw [length_splice _ _ _ (by rw [cutB_len,hl];omega),hl]
  refine ⟨_,h,by simpa using hs,fun i hi=>?_⟩
  simpa using splice_cell n i X hi
theorem gz3_row (a b:Int) (v:Value) (w:World) (t:TypeId):(w.alloc (.cells #[.int .i64 a,.int .i64 b,v] t)).rowIs w.heap.size t 3 (fun q=>[Value.int .i64 a,.int .i64 b,v][q]?.getD undef):=by
  refine World.rowIs_alloc w #[.int .i64 a,.int .i64 b,v] t _ (fun i hi=>?_)
  have hi:i<3:=hi
  rcases (show i=0∨i=1∨i=2 by omega) with rfl | rfl | rfl <;> rfl
theorem copy_lent (a:Option Addr) (n c g:Nat) (X:Nat→Int) (w:World) (hg:g=w.heap.size) (h:ByAt w a n X) :
    ∃w',(∀ty,(Builtin.copy_ #[45,45] ty #[.slice (some ⟨g,0,none⟩) (n+2) (n+2),.slice a n c]).run Tryz.prog (w.alloc (.cells (madeCells #[Value.int .u8 0] (n+2)) 5))=.ok (goInt n) w')∧w'.rowIs g 5 (n+2) (fun k=>.int .u8 (if k<n then X k else 0))∧Below g w w':=by
  subst hg
  have hZ:(w.alloc (.cells (madeCells #[Value.int .u8 0] (n+2)) 5)).heap[w.heap.size]? = some (.cells (madeCells #[Value.int .u8 0] (n+2)) 5 (0,0)):=by
    show (w.heap.push _)[w.heap.size]? = _
    exact Array.getElem?_push_size
  have hb:Below w.heap.size w (w.alloc (.cells (madeCells #[Value.int .u8 0] (n+2)) 5)):=(Below.refl _ _).alloc (Nat.le_refl _) _
  have hmin:Nat.min n (n+2)=n:=Nat.min_eq_left (by omega)
  rcases Nat.eq_zero_or_pos n with h0 | h0
  · subst h0
    refine ⟨_,fun ty=>run_copy_none (P:=Tryz.prog) _ 45 45 ty 5 _ a _ _ 0 c Tryz.underlying45 info_sz hmin,?_,hb⟩
    have:=splice_row (n:=0) (X:=X) (g:=w.heap.size) (t:=5) (w:=w.alloc (.cells (madeCells #[Value.int .u8 0] (0+2)) 5)) (by rw [hZ];simp [splice,cutB])
    exact this
  · rcases h with h | ⟨b,off,rfl,hc⟩
    · omega
    have hsrc:∀j v,(cutB n X)[j]? = some v→(w.alloc (.cells (madeCells #[Value.int .u8 0] (n+2)) 5)).cell? ((⟨b,off,none⟩:Addr).add j)=some v:=fun j v hj=>by
      have hjn:j<n:=by
        rcases Nat.lt_or_ge j n with h | h
        · exact h
        · rw [List.getElem?_eq_none (by rw [cutB_len];exact h)] at hj;cases hj
      have hlt:b<w.heap.size:=World.block_lt_of_cell? w _ (hc 0 h0)
      have e:((⟨b,off,none⟩:Addr).add j)=⟨b,off+j,none⟩:=by unfold Addr.add;split <;> simp_all
      rw [e,(hb.cell (p:=⟨b,off+j,none⟩) hlt),hc j hjn]
      simp [cutB,hjn] at hj
      rw [hj]
    refine ⟨_,fun ty=>by
      have:=run_copy_row (P:=Tryz.prog) (w.alloc (.cells (madeCells #[Value.int .u8 0] (n+2)) 5)) 45 45 ty 5 w.heap.size 0 (n+2) (n+2) ⟨b,off,none⟩ n c (madeCells #[Value.int .u8 0] (n+2)) 5 (cutB n X) Tryz.underlying45 info_sz hZ (by rw [cutB_len,hmin]) hsrc (by rw [cutB_len,size_madeCells];omega) (fun v hv=>by
        simp [cutB] at hv
        obtain ⟨k,_,rfl⟩:=hv
        rfl)
      rw [cutB_len] at this
      exact this,splice_row ?_,below_setRow hb (Nat.le_refl _) _⟩
    rw [setRow_heap _ _ _ _ _ _ hZ]
    simp [splice,cutB_len]
set_option maxRecDepth 100000 in
theorem lendGray_any (a:Option Addr) (n c:Nat) (W H:Int) (X:Nat→Int) (w:World) (hn:n≤140737488355328) (h:ByAt w a n X) :
    Calls Tryz.prog 48 #[.agg #[.int .i64 W,.int .i64 H,.slice a n c]] w fun e w'=>∃B,e=.returned (.agg #[.int .i64 W,.int .i64 H,.slice (some ⟨B,0,none⟩) n (n+2)])∧Below w.heap.size w w'∧w.heap.size≤B∧w'.rowIs B 5 (n+2) (lentB n X):=by
  obtain ⟨W1,hW1⟩:∃W1,W1=w.alloc (.cells #[.int .i64 W,.int .i64 H,.slice a n c] 47):=⟨_,rfl⟩
  obtain ⟨W2,hW2⟩:∃W2,W2=W1.alloc (.cells #[.int .i64 0,.int .i64 0,.slice none 0 0] 47):=⟨_,rfl⟩
  have hs1:W1.heap.size=w.heap.size+1:=by rw [hW1];simp
  have hs2:W2.heap.size=w.heap.size+2:=by rw [hW2];simp [hs1]
  have hB2:Below w.heap.size w W2:=by rw [hW2,hW1];(repeat any_goals first | exact .refl _ _ | assumption | refine .drew ?_ | refine below_drewN ?_ _ | refine .setCell ?_ ?_ _ | refine .alloc ?_ ?_ _ | omega | (simp <;> omega))
  have HA:=hide (h.below hB2)
  have HB2:=hide hB2
  have HG:Hid (W2.rowIs w.heap.size 47 3 (fun q=>[Value.int .i64 W,.int .i64 H,.slice a n c][q]?.getD undef)):=by unfold Hid;rw [hW2,hW1];exact (gz3_row _ _ _ _ _).alloc _
  have HZ:Hid (W2.rowIs (w.heap.size+1) 47 3 (fun q=>[Value.int .i64 0,.int .i64 0,.slice none 0 0][q]?.getD undef)):=by unfold Hid;rw [←hs1,hW2];exact gz3_row _ _ _ _ _
  clear h hB2
  obtain ⟨ZA,hZA⟩:∃ZA,ZA=madeCells #[Value.int .u8 0] (n+2):=⟨_,rfl⟩
  have hmk:∀w,(Instr.makeSlice 45 (.int .i64 ((n:Int)+2)) (.int .i64 ((n:Int)+2))).run Tryz.prog w=.ok (.slice (some ⟨w.heap.size,0,none⟩) (n+2) (n+2)) (w.alloc (.cells ZA 5)):=fun w=>by rw [hZA];exact mk_bytes n hn w
  obtain ⟨W3,hcp,hrow3,hb3⟩:=copy_lent a n c (w.heap.size+1+1) X W2 (by rw [hs2]) HA.out
  rw [←hZA,hW2,hW1] at hcp
  have HR3:=hide hrow3
  have HB3:=hide hb3
  have hG3:=row_below HG.out (hb3.mono (Nat.le_refl _)) (by omega)
  have hZ3:=row_below HZ.out hb3 (by omega)
  have HS2:=hide hs2
  clear hrow3 hb3 hZA hs1 hs2 hW1 hW2
  go_enter Tryz.func48,Tryz.ntmps48
  go_wp2_with fail
  go_loopw [5] (fun t wr=>∃k:Nat,n≤k∧k≤n+2∧t=.int .i64 k∧Below (w.heap.size+2) W3 wr∧wr.rowIs (w.heap.size+1+1) 5 (n+2) (fun q=>.int .u8 (if q<n then X q else if q<k then 195 else 0))) (fun t _=>n+2-(intOf t).toNat)
  case atStart=>exact ⟨n,by omega,by omega,rfl,Below.refl _ _,HR3.out.congr (fun q hq=>by by_cases e:q<n <;> simp [e])⟩
  case round=>
    obtain ⟨k,hk0,hk,rfl,hb,hrow⟩:=hrel
    have hsz:=hb.size
    have hrl:=hrow.lt
    by_cases hlt:k<n+2
    · have hd1:decide ((k:Int)<(n:Int)+2)=true:=by simp;omega
      have g0:(0:Int)≤(k:Int):=by omega
      have g1:(k:Int)<(n:Int)+2:=by omega
      have c0:=hrow.cell (i:=k) hlt
      have z0:=hrow.frozen k
      have HR:Hid ((wr.setCell ⟨w.heap.size+1+1,k,none⟩ (.int .u8 195)).rowIs (w.heap.size+1+1) 5 (n+2) (fun q=>.int .u8 (if q<n then X q else if q<k+1 then 195 else 0))):=by
        refine (hrow.set k _).congr fun q hq=>?_
        by_cases e:q=k
        · subst e;rw [if_pos rfl,if_neg (by omega),if_pos (by omega)]
        · rw [if_neg e]
          by_cases e1:q<n
          · rw [if_pos e1,if_pos e1]
          · rw [if_neg e1,if_neg e1]
            by_cases e2:q<k
            · rw [if_pos e2,if_pos (by omega)]
            · rw [if_neg e2,if_neg (by omega)]
      have HB:=hide (hb.setCell (p:=⟨w.heap.size+1+1,k,none⟩) (Nat.le_refl _) (.int .u8 195))
      clear hb hrow
      go_wp2
      go_roundw
      case rel=>exact ⟨k+1,by omega,by omega,by go_num,HB.out,HR.out⟩
      case measure=>simp [intOf];omega
    · have e:k=n+2:=by omega
      have hd0:decide ((k:Int)<(n:Int)+2)=false:=by simp;omega
      have hs3:w.heap.size+2≤W3.heap.size:=by have:=HB3.out.size;have:=HS2.out;omega
      have hG4:=row_below hG3 (hb.mono (Nat.le_refl _)) (by omega)
      have hZ4:=row_below hZ3 hb (by omega)
      have q0:wr.cell? ⟨w.heap.size,0,none⟩=some (.int .i64 W):=hG4.cell (i:=0) (by omega)
      have q1:wr.cell? ⟨w.heap.size,1,none⟩=some (.int .i64 H):=hG4.cell (i:=1) (by omega)
      have z0:wr.cell? ⟨w.heap.size+1,0,none⟩=some (.int .i64 0):=hZ4.cell (i:=0) (by omega)
      have z1:wr.cell? ⟨w.heap.size+1,1,none⟩=some (.int .i64 0):=hZ4.cell (i:=1) (by omega)
      have z2:wr.cell? ⟨w.heap.size+1,2,none⟩=some (.slice none 0 0):=hZ4.cell (i:=2) (by omega)
      have f0:=hZ4.frozen 0
      have f1:=hZ4.frozen 1
      have f2:=hZ4.frozen 2
      have hzl:=hZ4.lt
      have HRow:=hide hrow
      have HBr:=hide hb
      have HZr:=hide hZ4
      clear hG4 hZ4 hG3 hZ3 hrow hb hmk hcp
      have HF:Hid ((((wr.setCell ⟨w.heap.size+1,0,none⟩ (.int .i64 W)).setCell ⟨w.heap.size+1,1,none⟩ (.int .i64 H)).setCell ⟨w.heap.size+1,2,none⟩ (.slice (some ⟨w.heap.size+1+1,0,none⟩) n (n+2))).drew.rowIs (w.heap.size+1) 47 3 (fun q=>[Value.int .i64 W,.int .i64 H,.slice (some ⟨w.heap.size+1+1,0,none⟩) n (n+2)][q]?.getD undef)):=by
        refine World.rowIs.of_block ((((HZr.out.set 0 _).set 1 _).set 2 _).congr fun q hq=>?_) rfl
        rcases (show q=0∨q=1∨q=2 by omega) with rfl | rfl | rfl <;> rfl
      go_wp2
      go_region
      all_goals
        obtain ⟨wF,hwF⟩:∃wF,wF=(((wr.setCell ⟨w.heap.size+1,0,none⟩ (.int .i64 W)).setCell ⟨w.heap.size+1,1,none⟩ (.int .i64 H)).setCell ⟨w.heap.size+1,2,none⟩ (.slice (some ⟨w.heap.size+1+1,0,none⟩) n (n+2))).drew:=⟨_,rfl⟩
        have HBF:Hid (Below w.heap.size w wF):=by
          unfold Hid
          have hB:Below w.heap.size w wr:=(HB2.out.trans (HB3.out.mono (by omega))).trans (HBr.out.mono (by omega))
          rw [hwF]
          exact (((hB.setCell (p:=⟨w.heap.size+1,0,none⟩) (by simp) _).setCell (p:=⟨w.heap.size+1,1,none⟩) (by simp) _).setCell (p:=⟨w.heap.size+1,2,none⟩) (by simp) _).drew
        have HRF:Hid (wF.rowIs (w.heap.size+1+1) 5 (n+2) (lentB n X)):=by
          unfold Hid
          have h1:wr.rowIs (w.heap.size+1+1) 5 (n+2) (lentB n X):=HRow.out.congr (fun q hq=>by
            unfold lentB
            by_cases e1:q<n
            · rw [if_pos e1,if_pos e1]
            · rw [if_neg e1,if_neg e1,if_pos (by omega)])
          refine h1.of_block ?_
          rw [hwF]
          show (((wr.setCell ⟨w.heap.size+1,0,none⟩ (.int .i64 W)).setCell ⟨w.heap.size+1,1,none⟩ (.int .i64 H)).setCell ⟨w.heap.size+1,2,none⟩ (.slice (some ⟨w.heap.size+1+1,0,none⟩) n (n+2))).heap[w.heap.size+1+1]? = _
          rw [set_other (by omega),set_other (by omega),set_other (by omega)]
        rw [←hwF] at HF ⊢
        have g0:wF.cell? ⟨w.heap.size+1,0,none⟩=some (.int .i64 W):=HF.out.cell (i:=0) (by omega)
        have g1:wF.cell? ⟨w.heap.size+1,1,none⟩=some (.int .i64 H):=HF.out.cell (i:=1) (by omega)
        have g2:wF.cell? ⟨w.heap.size+1,2,none⟩=some (.slice (some ⟨w.heap.size+1+1,0,none⟩) n (n+2)):=HF.out.cell (i:=2) (by omega)
        clear hwF
        go_wp2
        exact bodyPost_ret (v:=.agg #[.int .i64 W,.int .i64 H,.slice (some ⟨w.heap.size+1+1,0,none⟩) n (n+2)]) (by simp [results,Tryz.results48,go_sem,g0,g1,g2]) rfl ⟨_,rfl,HBF.out,by omega,HRF.out⟩
theorem lentB_by {w:World} {B n:Nat} {X:Nat→Int} (h:w.rowIs B 5 (n+2) (lentB n X)):ByAt w (some ⟨B,0,none⟩) n X:=ByAt.of_row h (by omega) (fun k hk=>by unfold lentB;rw [if_pos hk])
set_option maxRecDepth 100000 in
theorem lentGray_any (a:Option Addr) (B n c:Nat) (W H:Int) (X:Nat→Int) (w:World) (hn:n≤140737488355328) (hB:w.rowIs B 5 (n+2) (lentB n X)) (h:ByAt w a n X) :
    Calls Tryz.prog 51 #[.agg #[.int .i64 W,.int .i64 H,.slice (some ⟨B,0,none⟩) n (n+2)],.agg #[.int .i64 W,.int .i64 H,.slice a n c]] w fun e w'=>e=.returned (.bool true)∧Below w.heap.size w w':=by
  obtain ⟨W1,hW1⟩:∃W1,W1=w.alloc (.cells #[.int .i64 W,.int .i64 H,.slice (some ⟨B,0,none⟩) n (n+2)] 47):=⟨_,rfl⟩
  obtain ⟨W2,hW2⟩:∃W2,W2=W1.alloc (.cells #[.int .i64 W,.int .i64 H,.slice a n c] 47):=⟨_,rfl⟩
  have hs1:W1.heap.size=w.heap.size+1:=by rw [hW1];simp
  have hs2:W2.heap.size=w.heap.size+2:=by rw [hW2];simp [hs1]
  have hB2:Below w.heap.size w W2:=by rw [hW2,hW1];(repeat any_goals first | exact .refl _ _ | assumption | refine .drew ?_ | refine below_drewN ?_ _ | refine .setCell ?_ ?_ _ | refine .alloc ?_ ?_ _ | omega | (simp <;> omega))
  have HB2:=hide hB2
  have HG:Hid (W2.rowIs w.heap.size 47 3 (fun q=>[Value.int .i64 W,.int .i64 H,.slice (some ⟨B,0,none⟩) n (n+2)][q]?.getD undef)):=by unfold Hid;rw [hW2,hW1];exact (gz3_row _ _ _ _ _).alloc _
  have HZ:Hid (W2.rowIs (w.heap.size+1) 47 3 (fun q=>[Value.int .i64 W,.int .i64 H,.slice a n c][q]?.getD undef)):=by unfold Hid;rw [←hs1,hW2];exact gz3_row _ _ _ _ _
  have HR:=hide (row_below hB hB2 hB.lt)
  have HS:=hide (sameGray_any (some ⟨B,0,none⟩) a n (n+2) c W H X W2 (by omega) (lentB_by HR.out) (h.below hB2))
  have hBl:=hB.lt
  clear hB h hB2
  go_enter Tryz.func51,Tryz.ntmps51
  go_wp2_with fail
  rw [←hW1,←hW2]
  refine HS.out.mono ?_
  rintro e w3 ⟨rfl,hb3⟩
  have hs3:=hb3.size
  have hG3:=row_below HG.out hb3 (by omega)
  have hZ3:=row_below HZ.out hb3 (by omega)
  have q2:w3.cell? ⟨w.heap.size,2,none⟩=some (.slice (some ⟨B,0,none⟩) n (n+2)):=hG3.cell (i:=2) (by omega)
  have z2:w3.cell? ⟨w.heap.size+1,2,none⟩=some (.slice a n c):=hZ3.cell (i:=2) (by omega)
  have hR3:=row_below HR.out hb3 (by omega)
  have HB3:=hide (HB2.out.trans (hb3.mono (by omega)))
  have HR3:=hide hR3
  have hw3:w.heap.size+2≤w3.heap.size:=by omega
  clear hb3 hR3 hG3 hZ3 HS hs1 hs2 hW1 hW2
  go_wp2_with fail
  go_loopw [8] (fun t wr=>∃k:Nat,n≤k∧k≤n+2∧t=.int .i64 k∧wr=w3) (fun t _=>n+2-(intOf t).toNat)
  case atStart=>exact ⟨n,by omega,by omega,rfl,rfl⟩
  case round=>
    obtain ⟨k,hk0,hk,rfl,rfl⟩:=hrel
    by_cases hlt:k<n+2
    · have hd1:decide ((k:Int)<(n:Int)+2)=true:=by simp;omega
      have g0:(0:Int)≤(k:Int):=by omega
      have g1:(k:Int)<(n:Int)+2:=by omega
      have c0:wr.cell? ⟨B,k,none⟩=some (.int .u8 195):=by
        rw [HR3.out.cell (i:=k) hlt]
        unfold lentB
        rw [if_neg (by omega)]
      go_wp2
      go_roundw
      case rel=>exact ⟨k+1,by omega,by omega,by go_num,by first | rfl | trivial⟩
      case measure=>simp [intOf];omega
    · have hd0:decide ((k:Int)<(n:Int)+2)=false:=by simp;omega
      go_wp2
      go_ret
      exact ⟨rfl,HB3.out⟩
end Go.Proofs.YtkhcjkmifddlbabGreatDoor
