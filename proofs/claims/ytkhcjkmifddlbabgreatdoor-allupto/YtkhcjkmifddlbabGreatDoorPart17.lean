import Derived.Test.YtkhcjkmifddlbabGreatDoorPart16
import Derived.Test.YtkhcjkmifddlbabGreatDoorPart12
import Derived.Test.YtkhcjkmifddlbabGreatDoorPart14
import Derived.WalkKit
import Derived.Test.YtkhcjkmifddlbabGreatDoorPart2
import Derived.Test.YtkhcjkmifddlbabGreatDoorPart1
import Derived.Laws.DeepStrings4
import Derived.Laws.IdiomStrings
set_option maxHeartbeats 8000000
namespace Go.Proofs.YtkhcjkmifddlbabGreatDoor
open Go.RowKit Go.Deep
theorem owns_byC {w:World} {base:Nat} {v:Value} {l:List Int} (h:w.ownsRow base 5 1 v l.length (byC l)):∃ao cap,v=.slice ao l.length cap∧ByAt w ao l.length (fun k=>l.getD k 0):=by
  obtain ⟨ao,cap,rfl,hao⟩:=owns_formN h
  refine ⟨ao,cap,rfl,?_⟩
  rcases Nat.eq_zero_or_pos l.length with h0 | h0
  · exact .inl h0
  · obtain ⟨g,rfl⟩:=hao h0
    refine .inr ⟨g,0,rfl,fun k hk=>?_⟩
    have hc:=h.cellAt k (by omega)
    rw [Nat.zero_add,hc]
    simp [byC,hk]
structure LayS (w:World) (ub vb ab bb B1 B2:Nat) (a a':Option Addr) (n m c c':Nat) (UW UH OW OH:Int) (U O:Nat→Int):Prop where
  ru:w.rowIs ub 47 3 (gz UW UH (.slice a n c))
  rv:w.rowIs vb 47 3 (gz OW OH (.slice a' m c'))
  ra:w.rowIs ab 47 3 (gz UW UH (.slice (some ⟨B1,0,none⟩) n (n+2)))
  rb:w.rowIs bb 47 3 (gz OW OH (.slice (some ⟨B2,0,none⟩) m (m+2)))
  l1:w.rowIs B1 5 (n+2) (lentB n U)
  l2:w.rowIs B2 5 (m+2) (lentB m O)
theorem LayS.of_blocks {w w':World} {ub vb ab bb B1 B2:Nat} {a a':Option Addr} {n m c c':Nat} {UW UH OW OH:Int} {U O:Nat→Int} (h:LayS w ub vb ab bb B1 B2 a a' n m c c' UW UH OW OH U O)
    (e:∀q,q=ub∨q=vb∨q=ab∨q=bb∨q=B1∨q=B2→w'.heap[q]? = w.heap[q]?):LayS w' ub vb ab bb B1 B2 a a' n m c c' UW UH OW OH U O:=
  ⟨h.ru.of_block (e _ (by simp)),h.rv.of_block (e _ (by simp)),h.ra.of_block (e _ (by simp)),h.rb.of_block (e _ (by simp)),h.l1.of_block (e _ (by simp)),h.l2.of_block (e _ (by simp))⟩
theorem LayS.lt {w:World} {ub vb ab bb B1 B2:Nat} {a a':Option Addr} {n m c c':Nat} {UW UH OW OH:Int} {U O:Nat→Int} (h:LayS w ub vb ab bb B1 B2 a a' n m c c' UW UH OW OH U O) {q:Nat} (hq:q=ub∨q=vb∨q=ab∨q=bb∨q=B1∨q=B2):q<w.heap.size:=by
  rcases hq with rfl | rfl | rfl | rfl | rfl | rfl
  · exact h.ru.lt
  · exact h.rv.lt
  · exact h.ra.lt
  · exact h.rb.lt
  · exact h.l1.lt
  · exact h.l2.lt
theorem LayS.below {w w':World} {ub vb ab bb B1 B2:Nat} {a a':Option Addr} {n m c c':Nat} {UW UH OW OH:Int} {U O:Nat→Int} (h:LayS w ub vb ab bb B1 B2 a a' n m c c' UW UH OW OH U O) (hb:Below w.heap.size w w'):LayS w' ub vb ab bb B1 B2 a a' n m c c' UW UH OW OH U O:=
  h.of_blocks fun q hq=>hb.block q (h.lt hq)
theorem gray_not {w:World} {h:Nat} {s:HS} {x:Value} (H:HeldInv w h s) (hx:ByRow w x) {q:Nat} {f:Nat→Value} (hr:w.rowIs q 47 3 f):¬byteS h s x q:=by
  rintro (rfl | h1 | h1)
  · have:=row_ty H.wd;rw [row_ty hr] at this;simp at this
  · have:=owns_ty H.oB h1;rw [row_ty hr] at this;simp at this
  · have:=(hx.lt h1).2;rw [row_ty hr] at this;simp at this
theorem byte_not {w:World} {h k:Nat} {s:HS} {x:Value} (H:HeldInv w h s) {q:Nat} {f:Nat→Value} (hr:w.rowIs q 5 k f) (hne:x.ownBlock≠some q):¬byteS h s x q:=by
  rintro (rfl | h1 | h1)
  · have:=row_ty H.wd;rw [row_ty hr] at this;simp at this
  · have:=owns_ty H.oB h1;rw [row_ty hr] at this;simp at this
  · exact hne h1
theorem LayS.held {w w':World} {h:Nat} {s:HS} {x:Value} {ub vb ab bb B1 B2:Nat} {a a':Option Addr} {n m c c':Nat} {UW UH OW OH:Int} {U O:Nat→Int} (L:LayS w ub vb ab bb B1 B2 a a' n m c c' UW UH OW OH U O) (H:HeldInv w h s) (hx:ByRow w x) (hT:Touch (byteS h s x) w w') (h1:x.ownBlock≠some B1) (h2:x.ownBlock≠some B2):LayS w' ub vb ab bb B1 B2 a a' n m c c' UW UH OW OH U O:=
  ⟨hT.row L.ru (gray_not H hx L.ru),hT.row L.rv (gray_not H hx L.rv),hT.row L.ra (gray_not H hx L.ra),hT.row L.rb (gray_not H hx L.rb),hT.row L.l1 (byte_not H L.l1 h1),hT.row L.l2 (byte_not H L.l2 h2)⟩
theorem gray_not_used {w:World} {h:Nat} {s:HS} (H:HeldInv w h s) {q:Nat} {f:Nat→Value} (hr:w.rowIs q 47 3 f):¬Used h s q:=by
  have ht:=row_ty hr
  intro u
  rcases u with rfl | u | u | u | ⟨x,hx,rfl⟩ | ⟨x,hx,rfl⟩ | ⟨x,hx,i,hi,rfl⟩ | ⟨x,hx,hb⟩ | u | u | ⟨x,hx,hb⟩ | ⟨x,hx,hb⟩ | ⟨x,hx,i,hi,rfl⟩ | u | ⟨x,hx,hb⟩
  · rw [row_ty H.wd] at ht;simp at ht
  · rw [owns_ty H.oP u] at ht;simp at ht
  · rw [owns_ty H.oO u] at ht;simp at ht
  · rw [owns_ty H.oS u] at ht;simp at ht
  · rw [row_ty (H.eP x hx)] at ht;simp at ht
  · rw [row_ty (H.eO x hx)] at ht;simp at ht
  · rw [row_ty (H.eI x hx i hi)] at ht;simp at ht
  · rw [row_ty (H.eS x hx _ hb)] at ht;simp at ht
  · rw [owns_ty H.oT u] at ht;simp at ht
  · rw [owns_ty H.oR u] at ht;simp at ht
  · rw [row_ty (H.eT x hx _ hb)] at ht;simp at ht
  · rw [row_ty (H.eR x hx _ hb)] at ht;simp at ht
  · rw [row_ty (H.eJ x hx i hi)] at ht;simp at ht
  · rw [owns_ty H.oB u] at ht;simp at ht
  · rw [rowIz_ty (H.eB x hx _ hb)] at ht;simp at ht
theorem byteS_ge {w:World} {h B0:Nat} {s:HS} {x:Value} (H:HeldInv w h s) (hh:B0≤h) (hx:∀q,x.ownBlock=some q→B0≤q) {q:Nat} (hq:byteS h s x q):B0≤q:=by
  rcases hq with rfl | hq | hq
  · exact hh
  · have:=(H.oB.lt q hq).1;omega
  · exact hx q hq
set_option maxRecDepth 100000 in
theorem lays_any (a a':Option Addr) (n m c c' h:Nat) (UW UH OW OH x y way:Int) (U O:Nat→Int) (s:HS) (w0 w:World) (hn:n≤140737488355328) (hm:m≤140737488355328)
    (hU:ByAt w0 a n U) (hO:ByAt w0 a' m O) (bU:∀k,k<n→0≤U k∧U k≤255) (bO:∀k,k<m→0≤O k∧O k≤255) (hb0:Below w0.heap.size w0 w) (hh:w0.heap.size≤h) (H:HeldInv w h s) (hs:s.n+24≤1099511627776) :
    Calls Tryz.prog 16 #[.pointer (some ⟨h,0,none⟩),.agg #[.int .i64 UW,.int .i64 UH,.slice a n c],.agg #[.int .i64 OW,.int .i64 OH,.slice a' m c'],.int .i64 x,.int .i64 y,.int .i64 way] w fun e w'=>e=.returned (.bool true)∧Below w0.heap.size w w'∧Touch (Used h s) w w'∧∃s',HeldInv w' h s'∧s'.n≤s.n+24∧s'.cs=s.cs∧s'.rs=s.rs∧NewUsed w.heap.size h s s':=by
  have hsz0:=hb0.size
  have hhw:=H.wd.lt
  obtain ⟨W2,hW2⟩:∃W2,W2=(w.alloc (.cells #[.int .i64 UW,.int .i64 UH,.slice a n c] 47)).alloc (.cells #[.int .i64 OW,.int .i64 OH,.slice a' m c'] 47):=⟨_,rfl⟩
  have hs2:W2.heap.size=w.heap.size+1+1:=by rw [hW2];simp
  have hbw2:Below w.heap.size w W2:=by rw [hW2];(repeat any_goals first | exact .refl _ _ | assumption | refine .drew ?_ | refine below_drewN ?_ _ | refine .setCell ?_ ?_ _ | refine .alloc ?_ ?_ _ | omega | (simp <;> omega))
  have hru:W2.rowIs w.heap.size 47 3 (gz UW UH (.slice a n c)):=by rw [hW2];exact (gz_row _ _ _ _ _).alloc _
  have hrv:W2.rowIs (w.heap.size+1) 47 3 (gz OW OH (.slice a' m c')):=by
    have h:=gz_row OW OH (.slice a' m c') (w.alloc (.cells #[.int .i64 UW,.int .i64 UH,.slice a n c] 47)) 47
    rw [nblk_alloc] at h
    rw [hW2];exact h
  obtain ⟨ub,hub⟩:∃ub,ub=w.heap.size:=⟨_,rfl⟩
  rw [←hub] at hru hrv
  have HB02:=hide (hb0.trans (hbw2.mono hsz0))
  have HBw2:=hide hbw2
  have HH:=hide H
  have HU:=hide hU
  have HO:=hide hO
  have HbU:=hide bU
  have HbO:=hide bO
  have HUB:=hide H.underB
  have HRu:=hide hru
  have HRv:=hide hrv
  have hub2:ub+1<W2.heap.size:=by omega
  have HW2:=hide hW2
  have HUb:=hide hub
  obtain ⟨q0,q1,q2⟩:=gz_cells hru
  obtain ⟨r0,r1,r2⟩:=gz_cells hrv
  clear hb0 hbw2 hU hO bU bO H hru hrv hW2
  go_enter Tryz.func16,Tryz.ntmps16
  go_wp2_with fail
  rw [←HW2.out]
  try rw [←hub]
  refine (lendGray_any a n c UW UH U W2 hn (HU.out.below HB02.out)).mono ?_
  rintro e w3 ⟨B1,rfl,hb3,hB1,hl1⟩
  clear hub
  obtain ⟨W3,hW3⟩:∃W3,W3=w3.alloc (.cells #[.int .i64 UW,.int .i64 UH,.slice (some ⟨B1,0,none⟩) n (n+2)] 47):=⟨_,rfl⟩
  have hs3:=hb3.size
  have hbb3:Below w3.heap.size w3 W3:=by rw [hW3];exact (Below.refl _ _).alloc (Nat.le_refl _) _
  have hsW3:W3.heap.size=w3.heap.size+1:=by rw [hW3];simp
  have hb23:Below W2.heap.size W2 W3:=hb3.trans (hbb3.mono hs3)
  have HRu3:=hide (row_below HRu.out hb23 (by omega))
  have HRv3:=hide (row_below HRv.out hb23 (by omega))
  have HRa3:Hid (W3.rowIs w3.heap.size 47 3 (gz UW UH (.slice (some ⟨B1,0,none⟩) n (n+2)))):=by unfold Hid;rw [hW3];exact gz_row _ _ _ _ _
  have HL13:=hide (row_below hl1 hbb3 hl1.lt)
  have HB03:=hide (HB02.out.trans (hb23.mono (by omega)))
  have HB23:=hide hb23
  obtain ⟨ab,hab⟩:∃ab,ab=w3.heap.size:=⟨_,rfl⟩
  rw [←hab] at HRa3
  have hrv3w:=row_below HRv.out hb3 (by omega)
  clear q0 q1 q2 r0 r1 r2
  obtain ⟨r0,r1,r2⟩:=gz_cells hrv3w
  have hrvl:=hrv3w.lt
  have HW3:=hide hW3
  have hab2:ab<W3.heap.size:=by omega
  have hB1l:B1<ab:=by have:=hl1.lt;omega
  have habu:ub+1<ab:=by omega
  clear hb3 hl1 hbb3 hb23 hW3 hrv3w HW2
  go_wp2_with fail
  rw [←HW3.out]
  try rw [←hab]
  refine (lendGray_any a' m c' OW OH O W3 hm (HO.out.below HB03.out)).mono ?_
  rintro e w4 ⟨B2,rfl,hb4,hB2,hl2⟩
  clear hab
  obtain ⟨W4,hW4⟩:∃W4,W4=w4.alloc (.cells #[.int .i64 OW,.int .i64 OH,.slice (some ⟨B2,0,none⟩) m (m+2)] 47):=⟨_,rfl⟩
  have hs4:=hb4.size
  have hbb4:Below w4.heap.size w4 W4:=by rw [hW4];exact (Below.refl _ _).alloc (Nat.le_refl _) _
  have hsW4:W4.heap.size=w4.heap.size+1:=by rw [hW4];simp
  have hb34:Below W3.heap.size W3 W4:=hb4.trans (hbb4.mono hs4)
  obtain ⟨bb,hbb⟩:∃bb,bb=w4.heap.size:=⟨_,rfl⟩
  have hL4:LayS W4 ub (ub+1) ab bb B1 B2 a a' n m c c' UW UH OW OH U O:=by
    refine ⟨row_below HRu3.out hb34 (by omega),row_below HRv3.out hb34 (by omega),row_below HRa3.out hb34 (by omega),?_,row_below HL13.out hb34 (by omega),row_below hl2 hbb4 hl2.lt⟩
    rw [hW4,hbb];exact gz_row _ _ _ _ _
  have hB12:B1≠B2:=by omega
  have HB04:=hide (HB03.out.trans (hb34.mono (by have:=HB03.out.size;omega)))
  have HB24:=hide (HB23.out.trans (hb34.mono (by omega)))
  have HL4:=hide hL4
  have HW4:=hide hW4
  have hra4:=row_below HRa3.out hb4 (by omega)
  clear r0 r1 r2
  obtain ⟨r0,r1,r2⟩:=gz_cells hra4
  have hral:=hra4.lt
  have hbb2:bb<W4.heap.size:=by omega
  have HBB:=hide (And.intro hsW4 hbb)
  clear hb4 hl2 hbb4 hb34 hW4 hra4 hL4 HW3 hsW4 hsW3 hbb
  go_wp2_with fail
  rw [←HW4.out]
  try rw [←HBB.out.2]
  have HK4:Hid (HK w0.heap.size w h s W4 s [] 0):=HK.below (HK.start HH.out) hsz0 (HBw2.out.trans (HB24.out.mono (by omega)))
  have hsz4:w.heap.size≤W4.heap.size:=HK4.out.touch.size
  have HB1u:Hid (w.heap.size≤B1):=by unfold Hid;omega
  have HB2u:Hid (w.heap.size≤B2):=by unfold Hid;omega
  have HB1b:Hid (B1<W4.heap.size∧B2<W4.heap.size):=⟨HL4.out.l1.lt,HL4.out.l2.lt⟩
  clear r0 r1 r2 HW4
  refine (glyphLay_any (some ⟨B1,0,none⟩) (some ⟨B2,0,none⟩) n m (n+2) (m+2) UW UH OW OH x y way U O W4 (lentB_by HL4.out.l1) (lentB_by HL4.out.l2) HbU.out HbO.out).mono ?_
  obtain ⟨RE,hRE⟩:∃RE,RE=Num.layE UW UH n OW OH m way 8 9:=⟨_,rfl⟩
  rw [←hRE]
  have HRE:=hide hRE
  clear hRE
  rintro e w5 ⟨g1,g2,v,l,rfl,hb5,hown5,hq5⟩
  have HLen:Hid (l.length≤4096):=by have:=layR_len UW UH n OW OH m U O x y way;rw [←hq5] at this;exact this
  obtain ⟨ao,cap,rfl,hby5⟩:=owns_byC hown5
  obtain ⟨gb,hgb⟩:∃gb,gb=w5.heap.size:=⟨_,rfl⟩
  obtain ⟨W5,hW5⟩:∃W5,W5=w5.alloc (.cells #[.int .i64 g1,.int .i64 g2,.slice ao l.length cap] 47):=⟨_,rfl⟩
  have hs5:=hb5.size
  have hbb5:Below w5.heap.size w5 W5:=by rw [hW5];exact (Below.refl _ _).alloc (Nat.le_refl _) _
  have hsW5:W5.heap.size=gb+1:=by rw [hW5,hgb];simp
  have hb45:Below W4.heap.size W4 W5:=hb5.trans (hbb5.mono hs5)
  have HL5:=hide (HL4.out.below hb45)
  have HK5:=hide (HK4.out.below hsz0 hb45)
  have HO5:=hide (owns_of_block hown5 (fun q hq=>hbb5.block q (hown5.lt q hq).2))
  have HY5:=hide (hby5.below hbb5)
  have HG5:Hid (W5.rowIs gb 47 3 (gz g1 g2 (.slice ao l.length cap))):=by unfold Hid;rw [hW5,hgb];exact gz_row _ _ _ _ _
  have HQ5:=hide hq5
  have HB05:=hide (HB04.out.trans (hb45.mono (by have:=HB04.out.size;omega)))
  have hL5w:=HL4.out.below hb5
  obtain ⟨p0,p1,p2⟩:=gz_cells hL5w.ru
  obtain ⟨r0,r1,r2⟩:=gz_cells hL5w.rv
  have hul:=hL5w.ru.lt
  have hvl:=hL5w.rv.lt
  have HW5:=hide hW5
  have hgbl:gb<W5.heap.size:=by omega
  have hg4:W4.heap.size≤gb:=by omega
  have HGB:=hide hgb
  clear hb5 hown5 hby5 hbb5 hb45 hq5 hW5 hL5w hsW5 hgb
  go_wp2_with fail
  rw [←HW5.out]
  try rw [←HGB.out]
  refine (refLay_any a a' n m c c' UW UH OW OH x y way U O W5 (HU.out.below HB05.out) (HO.out.below HB05.out) HbU.out HbO.out).mono ?_
  rw [←HRE.out]
  rintro e w6 ⟨k1,k2,v6,l6,rfl,hb6,hown6,hq6⟩
  have hsame:k1=g1∧k2=g2∧l6=l:=by
    have:=hq6.trans HQ5.out.symm
    simp only [Prod.mk.injEq] at this
    exact this
  obtain ⟨rfl,rfl,rfl⟩:=hsame
  obtain ⟨ao6,cap6,rfl,hby6⟩:=owns_byC hown6
  obtain ⟨rb,hrb⟩:∃rb,rb=w6.heap.size:=⟨_,rfl⟩
  obtain ⟨W6,hW6⟩:∃W6,W6=w6.alloc (.cells #[.int .i64 k1,.int .i64 k2,.slice ao6 l6.length cap6] 47):=⟨_,rfl⟩
  have hs6:=hb6.size
  have hbb6:Below w6.heap.size w6 W6:=by rw [hW6];exact (Below.refl _ _).alloc (Nat.le_refl _) _
  have hsW6:W6.heap.size=rb+1:=by rw [hW6,hrb];simp
  have hb56:Below W5.heap.size W5 W6:=hb6.trans (hbb6.mono hs6)
  have HL6:=hide (HL5.out.below hb56)
  have HK6:=hide (HK5.out.below hsz0 hb56)
  have HO6:=hide (owns_of_block HO5.out (fun q hq=>hb56.block q (HO5.out.lt q hq).2))
  have HY6:=hide (HY5.out.below hb56)
  have HZ6:=hide (hby6.below hbb6)
  have HG6:=hide (row_below HG5.out hb56 hgbl)
  have HR6:Hid (W6.rowIs rb 47 3 (gz k1 k2 (.slice ao6 l6.length cap6))):=by unfold Hid;rw [hW6,hrb];exact gz_row _ _ _ _ _
  have HB06:=hide (HB05.out.trans (hb56.mono (by have:=HB05.out.size;omega)))
  have hG6w:=row_below HG5.out hb6 hgbl
  clear p0 p1 p2 r0 r1 r2
  obtain ⟨p0,p1,p2⟩:=gz_cells hG6w
  have hG6l:=hG6w.lt
  have HW6:=hide hW6
  have hrbl:rb<W6.heap.size:=by omega
  have hr5:W5.heap.size≤rb:=by omega
  have HRB:=hide hrb
  clear hb6 hown6 hby6 hbb6 hb56 hq6 hW6 hG6w hsW6 hul hvl hrb
  go_wp2_with fail
  rw [←HW6.out]
  try rw [←HRB.out]
  refine (sameGray_any ao ao6 l6.length cap cap6 k1 k2 _ W6 (by have:=HLen.out;omega) HY6.out HZ6.out).mono ?_
  rintro e w7 ⟨rfl,hb7⟩
  have hs7:=hb7.size
  have HL7:=hide (HL6.out.below hb7)
  have HK7:=hide (HK6.out.below hsz0 hb7)
  have HO7:=hide (owns_of_block HO6.out (fun q hq=>hb7.block q (HO6.out.lt q hq).2))
  have HG7:=hide (row_below HG6.out hb7 (by omega))
  have HR7:=hide (row_below HR6.out hb7 (by omega))
  have HB07:=hide (HB06.out.trans (hb7.mono (by have:=HB06.out.size;omega)))
  clear p0 p1 p2 hb7 HW5 HW6
  obtain ⟨p0,p1,p2⟩:=gz_cells HL7.out.ra
  obtain ⟨r0,r1,r2⟩:=gz_cells HL7.out.ru
  have hx1:=HL7.out.ra.lt
  have hx2:=HL7.out.ru.lt
  go_wp2_with fail
  refine (lentGray_any a B1 n c UW UH U w7 hn HL7.out.l1 (HU.out.below HB07.out)).mono ?_
  rintro e w8 ⟨rfl,hb8⟩
  have hs8:=hb8.size
  have HL8:=hide (HL7.out.below hb8)
  have HK8:=hide (HK7.out.below hsz0 hb8)
  have HO8:=hide (owns_of_block HO7.out (fun q hq=>hb8.block q (HO7.out.lt q hq).2))
  have HG8:=hide (row_below HG7.out hb8 HG7.out.lt)
  have HR8:=hide (row_below HR7.out hb8 HR7.out.lt)
  have HB08:=hide (HB07.out.trans (hb8.mono (by have:=HB07.out.size;omega)))
  clear p0 p1 p2 r0 r1 r2 hx1 hx2 hb8
  obtain ⟨p0,p1,p2⟩:=gz_cells HL8.out.rb
  obtain ⟨r0,r1,r2⟩:=gz_cells HL8.out.rv
  have hx1:=HL8.out.rb.lt
  have hx2:=HL8.out.rv.lt
  go_wp2_with fail
  refine (lentGray_any a' B2 m c' OW OH O w8 hm HL8.out.l2 (HO.out.below HB08.out)).mono ?_
  rintro e w9 ⟨rfl,hb9⟩
  have hs9:=hb9.size
  have hb9':Below w8.heap.size w8 w9.drew:=hb9.drew
  have HL9:=hide (HL8.out.below hb9')
  have HK9:=hide (HK8.out.below hsz0 hb9')
  have HO9:=hide (owns_of_block HO8.out (fun q hq=>hb9'.block q (HO8.out.lt q hq).2))
  have HG9:=hide (row_below HG8.out hb9' HG8.out.lt)
  have HR9:=hide (row_below HR8.out hb9' HR8.out.lt)
  have HB09:=hide (HB08.out.trans (hb9'.mono (by have:=HB08.out.size;omega)))
  have hg9w:=row_below HG8.out hb9 HG8.out.lt
  clear p0 p1 p2 r0 r1 r2 hx1 hx2 hb9 hb9'
  obtain ⟨p0,p1,p2⟩:=gz_cells hg9w
  have hx1:=hg9w.lt
  have hvge:Hid (∀q,(Value.slice ao l6.length cap).ownBlock=some q→W4.heap.size≤q∧q<w9.heap.size):=fun q hq=>by
    have h1:=HO9.out.lt q hq
    exact ⟨h1.1,h1.2⟩
  have HCall:=hide (heldBytes_any h (.slice ao l6.length cap) s w9.drew HK9.out.inv (ByRow.of_owns HO9.out) (fun q hq=>HK9.out.free HUB.out (by have:=hvge.out q hq;omega) (fun _ hx=>by cases hx)) (by omega))
  clear hg9w
  go_wp2_with fail
  go_region_with (go_at_call 47;refine HCall.out.mono ?_;rintro e w10 ⟨rfl,hT10,s1,hI10,hK10⟩)
  have HK10:=hide (HK9.out.step hsz0 hh (fun q hq=>by have:=hvge.out q hq;omega) hT10 hI10 hK10)
  have hs10:=hT10.size
  have HL10:=hide (HL9.out.held HK9.out.inv (ByRow.of_owns HO9.out) hT10 (fun e=>by have:=hvge.out _ e;have:=HB1b.out.1;omega) (fun e=>by have:=hvge.out _ e;have:=HB1b.out.2;omega))
  have HG10:=hide (hT10.row HG9.out (gray_not HK9.out.inv (ByRow.of_owns HO9.out) HG9.out))
  have HR10:=hide (hT10.row HR9.out (gray_not HK9.out.inv (ByRow.of_owns HO9.out) HR9.out))
  have HB010:=hide (HB09.out.trans (hT10.below (B:=w0.heap.size) (by have:=HB09.out.size;omega) (fun q hq=>byteS_ge HK9.out.inv hh (fun q hq=>by have:=hvge.out q hq;omega) hq)))
  clear hT10 hI10 hK10 HCall p0 p1 p2 hx1
  obtain ⟨p0,p1,p2⟩:=gz_cells HL10.out.ra
  have hx1:=HL10.out.ra.lt
  go_wp2_with fail
  clear p0 p1 p2 hx1
  refine (glyphLay_any (some ⟨B1,0,none⟩) (some ⟨B1,0,none⟩) n n (n+2) (n+2) UW UH UW UH x y way U U w10 (lentB_by HL10.out.l1) (lentB_by HL10.out.l1) HbU.out HbU.out).mono ?_
  obtain ⟨SE,hSE⟩:∃SE,SE=Num.layE UW UH n UW UH n way 8 9:=⟨_,rfl⟩
  rw [←hSE]
  have HSE:=hide hSE
  clear hSE
  rintro e w11 ⟨g3,g4,v3,l3,rfl,hb11,hown11,hq11⟩
  have HLen3:Hid (l3.length≤4096):=by have:=layR_len UW UH n UW UH n U U x y way;rw [←hq11] at this;exact this
  obtain ⟨ao3,cap3,rfl,hby11⟩:=owns_byC hown11
  have hs11:=hb11.size
  have hG11:=row_below HG10.out hb11 HG10.out.lt
  have hL11:=HL10.out.below hb11
  obtain ⟨W11,hW11⟩:∃W11,W11=((w11.setCell ⟨gb,0,none⟩ (.int .i64 g3)).setCell ⟨gb,1,none⟩ (.int .i64 g4)).setCell ⟨gb,2,none⟩ (.slice ao3 l3.length cap3):=⟨_,rfl⟩
  have hoth:∀q,q≠gb→W11.heap[q]? = w11.heap[q]?:=fun q hq=>by rw [hW11,set_other hq,set_other hq,set_other hq]
  have hgbw:w.heap.size≤gb:=by omega
  have hb11':Below w0.heap.size w11 W11:=by
    rw [hW11]
    exact (((Below.refl _ _).setCell (p:=⟨gb,0,none⟩) (by show w0.heap.size≤gb;omega) _).setCell (p:=⟨gb,1,none⟩) (by show w0.heap.size≤gb;omega) _).setCell (p:=⟨gb,2,none⟩) (by show w0.heap.size≤gb;omega) _
  have hsW11:W11.heap.size=w11.heap.size:=by rw [hW11];simp
  have hgL:∀q,(q=ub∨q=ub+1∨q=ab∨q=bb∨q=B1∨q=B2)→q≠gb:=fun q hq e=>by have h1:=HB1b.out;omega
  have HL11:=hide (hL11.of_blocks (w':=W11) (fun q hq=>hoth q (hgL q hq)))
  have HK11:Hid (HK w0.heap.size w h s W11 s1 [.slice ao l6.length cap] (0+1)):=by
    have K:=HK10.out.below hsz0 hb11
    refine ⟨K.inv.of_blocks (fun q u=>hoth q (fun e=>?_)),K.n,K.cs,K.rs,K.vB,K.B,?_,K.bel.trans hb11',K.nu⟩
    · subst e
      exact gray_not_used K.inv hG11 u
    · rw [hW11]
      exact ((K.touch.setCell (p:=⟨gb,0,none⟩) (.inr hgbw) _).setCell (p:=⟨gb,1,none⟩) (.inr hgbw) _).setCell (p:=⟨gb,2,none⟩) (.inr hgbw) _
  have hv3ne:∀q,(Value.slice ao3 l3.length cap3).ownBlock=some q→w10.heap.size≤q:=fun q hq=>(hown11.lt q hq).1
  have hgb10:gb<w10.heap.size:=HG10.out.lt
  have HO11:=hide (owns_of_block hown11 (fun q hq=>hoth q (by have:=hv3ne q hq;omega)))
  have HY11:Hid (ByAt W11 ao3 l3.length (fun k=>l3.getD k 0)):=by
    obtain ⟨ao',cap',e1,e2⟩:=owns_byC HO11.out
    simp only [Value.slice.injEq] at e1
    unfold Hid
    rw [e1.1];exact e2
  have HG11:Hid (W11.rowIs gb 47 3 (gz g3 g4 (.slice ao3 l3.length cap3))):=by unfold Hid;rw [hW11];exact gz_set hG11 _ _ _
  have HR11:=hide ((row_below HR10.out hb11 HR10.out.lt).of_block (hoth rb (by omega)))
  have HQ11:=hide hq11
  have HB011:=hide ((HB010.out.trans (hb11.mono (by have:=HB010.out.size;omega))).trans hb11')
  obtain ⟨z0,z1,z2⟩:=gz_cells hG11
  have f0:=hG11.frozen 0
  have f1:=hG11.frozen 1
  have f2:=hG11.frozen 2
  have hgl11:=hG11.lt
  obtain ⟨p0,p1,p2⟩:=gz_cells HL11.out.ru
  have hx1:=HL11.out.ru.lt
  have HW11:=hide hW11
  have hube:ub≠gb:=by have h1:=HB1b.out;omega
  obtain ⟨t0,t1,t2⟩:=gz_cells hL11.ru
  clear hb11 hown11 hby11 hq11 hL11 hG11 hoth hb11' hgL hW11 hv3ne
  go_wp2_with fail
  rw [←HW11.out]
  refine (refLay_any a a n n c c UW UH UW UH x y way U U W11 (HU.out.below HB011.out) (HU.out.below HB011.out) HbU.out HbU.out).mono ?_
  rw [←HSE.out]
  rintro e w12 ⟨k3,k4,v4,l4,rfl,hb12,hown12,hq12⟩
  have hsame:k3=g3∧k4=g4∧l4=l3:=by
    have:=hq12.trans HQ11.out.symm
    simp only [Prod.mk.injEq] at this
    exact this
  obtain ⟨rfl,rfl,rfl⟩:=hsame
  obtain ⟨ao4,cap4,rfl,hby12⟩:=owns_byC hown12
  have hs12:=hb12.size
  have hR12:=row_below HR11.out hb12 HR11.out.lt
  have hL12:=HL11.out.below hb12
  obtain ⟨W12,hW12⟩:∃W12,W12=((w12.setCell ⟨rb,0,none⟩ (.int .i64 k3)).setCell ⟨rb,1,none⟩ (.int .i64 k4)).setCell ⟨rb,2,none⟩ (.slice ao4 l4.length cap4):=⟨_,rfl⟩
  have hoth:∀q,q≠rb→W12.heap[q]? = w12.heap[q]?:=fun q hq=>by rw [hW12,set_other hq,set_other hq,set_other hq]
  have hrbw:w.heap.size≤rb:=by omega
  have hb12':Below w0.heap.size w12 W12:=by
    rw [hW12]
    exact (((Below.refl _ _).setCell (p:=⟨rb,0,none⟩) (by show w0.heap.size≤rb;omega) _).setCell (p:=⟨rb,1,none⟩) (by show w0.heap.size≤rb;omega) _).setCell (p:=⟨rb,2,none⟩) (by show w0.heap.size≤rb;omega) _
  have hsW12:W12.heap.size=w12.heap.size:=by rw [hW12];simp
  have hgL:∀q,(q=ub∨q=ub+1∨q=ab∨q=bb∨q=B1∨q=B2)→q≠rb:=fun q hq e=>by have h1:=HB1b.out;omega
  have HL12:=hide (hL12.of_blocks (w':=W12) (fun q hq=>hoth q (hgL q hq)))
  have HK12:Hid (HK w0.heap.size w h s W12 s1 [.slice ao l6.length cap] (0+1)):=by
    have K:=HK11.out.below hsz0 hb12
    refine ⟨K.inv.of_blocks (fun q u=>hoth q (fun e=>?_)),K.n,K.cs,K.rs,K.vB,K.B,?_,K.bel.trans hb12',K.nu⟩
    · subst e
      exact gray_not_used K.inv hR12 u
    · rw [hW12]
      exact ((K.touch.setCell (p:=⟨rb,0,none⟩) (.inr hrbw) _).setCell (p:=⟨rb,1,none⟩) (.inr hrbw) _).setCell (p:=⟨rb,2,none⟩) (.inr hrbw) _
  have hrb10:rb<w10.heap.size:=HR10.out.lt
  have HO12:=hide (owns_of_block HO11.out (fun q hq=>(hoth q (by have:=(HO11.out.lt q hq).1;omega)).trans (hb12.block q (HO11.out.lt q hq).2)))
  have HY12:Hid (ByAt W12 ao3 l4.length (fun k=>l4.getD k 0)):=by
    obtain ⟨ao',cap',e1,e2⟩:=owns_byC HO12.out
    simp only [Value.slice.injEq] at e1
    unfold Hid
    rw [e1.1];exact e2
  have HZ12:Hid (ByAt W12 ao4 l4.length (fun k=>l4.getD k 0)):=by
    have h:=owns_of_block hown12 (fun q hq=>hoth q (by have:=(hown12.lt q hq).1;omega))
    obtain ⟨ao',cap',e1,e2⟩:=owns_byC h
    simp only [Value.slice.injEq] at e1
    unfold Hid
    rw [e1.1];exact e2
  have hgr:gb≠rb:=by omega
  have HG12:=hide ((row_below HG11.out hb12 HG11.out.lt).of_block (hoth gb hgr))
  have HR12:Hid (W12.rowIs rb 47 3 (gz k3 k4 (.slice ao4 l4.length cap4))):=by unfold Hid;rw [hW12];exact gz_set hR12 _ _ _
  have HB012:=hide ((HB011.out.trans (hb12.mono (by have:=HB011.out.size;omega))).trans hb12')
  clear z0 z1 z2 f0 f1 f2 p0 p1 p2 hx1 t0 t1 t2 hgl11
  obtain ⟨z0,z1,z2⟩:=gz_cells hR12
  have f0:=hR12.frozen 0
  have f1:=hR12.frozen 1
  have f2:=hR12.frozen 2
  have hgl12:=hR12.lt
  obtain ⟨t0,t1,t2⟩:=gz_cells (row_below HG11.out hb12 HG11.out.lt)
  have HW12:=hide hW12
  clear hb12 hown12 hby12 hq12 hL12 hR12 hoth hb12' hgL hW12 HW11
  go_wp2_with fail
  rw [←HW12.out]
  refine (sameGray_any ao3 ao4 l4.length cap3 cap4 k3 k4 _ W12 (by have:=HLen3.out;omega) HY12.out HZ12.out).mono ?_
  rintro e w13 ⟨rfl,hb13⟩
  have hs13:=hb13.size
  have HL13':=hide (HL12.out.below hb13)
  have HK13:=hide (HK12.out.below hsz0 hb13)
  have HO13:=hide (owns_of_block HO12.out (fun q hq=>hb13.block q (HO12.out.lt q hq).2))
  have HG13:=hide (row_below HG12.out hb13 HG12.out.lt)
  have HB013:=hide (HB012.out.trans (hb13.mono (by have:=HB012.out.size;omega)))
  clear z0 z1 z2 f0 f1 f2 t0 t1 t2 hgl12 hb13 HW12
  obtain ⟨p0,p1,p2⟩:=gz_cells HL13'.out.ra
  obtain ⟨r0,r1,r2⟩:=gz_cells HL13'.out.ru
  have hx1:=HL13'.out.ra.lt
  have hx2:=HL13'.out.ru.lt
  go_wp2_with fail
  refine (lentGray_any a B1 n c UW UH U w13 hn HL13'.out.l1 (HU.out.below HB013.out)).mono ?_
  rintro e w14 ⟨rfl,hb14⟩
  have hs14:=hb14.size
  have hb14':Below w13.heap.size w13 w14.drew:=hb14.drew
  have HL14:=hide (HL13'.out.below hb14')
  have HK14:=hide (HK13.out.below hsz0 hb14')
  have HO14:=hide (owns_of_block HO13.out (fun q hq=>hb14'.block q (HO13.out.lt q hq).2))
  have hg14w:=row_below HG13.out hb14 HG13.out.lt
  clear p0 p1 p2 r0 r1 r2 hx1 hx2 hb14 hb14'
  obtain ⟨p0,p1,p2⟩:=gz_cells hg14w
  have hx1:=hg14w.lt
  have hv3:Hid (∀q,(Value.slice ao3 l4.length cap3).ownBlock=some q→w10.heap.size≤q):=fun q hq=>(HO14.out.lt q hq).1
  have hvlt:Hid (∀q,(Value.slice ao l6.length cap).ownBlock=some q→W4.heap.size≤q∧q<w10.heap.size):=fun q hq=>⟨(hvge.out q hq).1,by have:=(hvge.out q hq).2;have:w9.drew.heap.size=w9.heap.size:=rfl;omega⟩
  have HCall:=hide (heldBytes_any h (.slice ao3 l4.length cap3) s1 w14.drew HK14.out.inv (ByRow.of_owns HO14.out) (fun q hq=>HK14.out.free HUB.out (by have:=hv3.out q hq;omega) (fun x hx e=>by
    simp only [List.mem_singleton] at hx
    subst hx
    have h1:=(hvlt.out q e).2
    have h2:=hv3.out q hq
    omega)) (by rw [HK14.out.n];omega))
  clear hg14w
  go_wp2_with fail
  go_region_with (go_at_call 47;refine HCall.out.mono ?_;rintro e w15 ⟨rfl,hT15,s2,hI15,hK15⟩)
  have HK15:=hide ((HK14.out.step hsz0 hh (fun q hq=>by have:=hv3.out q hq;omega) hT15 hI15 hK15).below hsz0 ((Below.refl w15.heap.size w15).drew))
  have hL15:=HL14.out.held HK14.out.inv (ByRow.of_owns HO14.out) hT15 (fun e=>by have:=hv3.out _ e;have:=HB1b.out.1;omega) (fun e=>by have:=hv3.out _ e;have:=HB1b.out.2;omega)
  have HL15:=hide (hL15.below ((Below.refl w15.heap.size w15).drew))
  have hs15:=hT15.size
  clear hT15 hI15 hK15 HCall p0 p1 p2 hx1
  obtain ⟨p0,p1,p2⟩:=gz_cells hL15.ra
  have hx1:=hL15.ra.lt
  have hR15:ByRow w15.drew (.slice (some ⟨B1,0,none⟩) n (n+2)):=ByRow.of_row HL15.out.l1 (by omega) (by omega)
  have HR15:=hide hR15
  have HCall:=hide (heldBytes_any h (.slice (some ⟨B1,0,none⟩) n (n+2)) s2 w15.drew HK15.out.inv hR15 (fun q hq=>by
    simp [Value.ownBlock] at hq
    subst hq
    refine HK15.out.free HUB.out HB1u.out (fun x hx e=>?_)
    simp only [List.mem_cons,List.not_mem_nil,or_false] at hx
    rcases hx with rfl | rfl
    · have:=hv3.out _ e;have:=HB1b.out.1;omega
    · have:=hvlt.out _ e;have:=HB1b.out.1;omega) (by rw [HK15.out.n];omega))
  clear hL15 hR15
  go_wp2_with fail
  go_region_with (go_at_call 47;refine HCall.out.mono ?_;rintro e w16 ⟨rfl,hT16,s3,hI16,hK16⟩)
  have HK16:=hide ((HK15.out.step hsz0 hh (fun q hq=>by simp [Value.ownBlock] at hq;subst hq;exact HB1u.out) hT16 hI16 hK16).below hsz0 ((Below.refl w16.heap.size w16).drew))
  have hrb16:=hT16.row HL15.out.rb (gray_not HK15.out.inv HR15.out HL15.out.rb)
  have hl2:=hT16.row HL15.out.l2 (byte_not HK15.out.inv HL15.out.l2 (by simp [Value.ownBlock];omega))
  have hs16:=hT16.size
  clear hT16 hI16 hK16 HCall p0 p1 p2 hx1
  obtain ⟨p0,p1,p2⟩:=gz_cells hrb16
  have hx1:=hrb16.lt
  have HCall:=hide (heldBytes_any h (.slice (some ⟨B2,0,none⟩) m (m+2)) s3 w16.drew HK16.out.inv (ByRow.of_row (row_below hl2 ((Below.refl w16.heap.size w16).drew) hl2.lt) (by omega) (by omega)) (fun q hq=>by
    simp [Value.ownBlock] at hq
    subst hq
    refine HK16.out.free HUB.out HB2u.out (fun x hx e=>?_)
    simp only [List.mem_cons,List.not_mem_nil,or_false] at hx
    rcases hx with rfl | rfl | rfl
    · simp [Value.ownBlock] at e;omega
    · have:=hv3.out _ e;have:=HB1b.out.2;omega
    · have:=hvlt.out _ e;have:=HB1b.out.2;omega) (by rw [HK16.out.n];omega))
  clear hrb16 hl2
  go_wp2_with fail
  go_region_with (go_at_call 47;refine HCall.out.mono ?_;rintro e w17 ⟨rfl,hT17,s4,hI17,hK17⟩)
  have HK17:=hide (HK16.out.step hsz0 hh (fun q hq=>by simp [Value.ownBlock] at hq;subst hq;exact HB2u.out) hT17 hI17 hK17)
  clear hT17 hI17 hK17 HCall p0 p1 p2 hx1
  go_wp2_with (go_at_call 27;refine (num_any _ _).mono ?_;rintro e w' ⟨rfl,rfl⟩)
  go_ret
  exact ⟨rfl,HK17.out.bel,HK17.out.touch,s4,HK17.out.inv,by rw [HK17.out.n];omega,HK17.out.cs,HK17.out.rs,HK17.out.nu⟩
end Go.Proofs.YtkhcjkmifddlbabGreatDoor
namespace Go.Proofs.YtkhcjkmifddlbabGreatDoor
namespace Num
def byt (s:ByteArray) (k:Nat):Nat:=if h:k<s.size then s[k].toNat else 0
theorem byt_lt {s:ByteArray} {k:Nat} (h:k<s.size):byt s k=s[k].toNat:=by unfold byt;rw [dif_pos h]
theorem byt_ge {s:ByteArray} {k:Nat} (h:s.size≤k):byt s k=0:=by unfold byt;rw [dif_neg (by omega)]
def isSp (c:Nat):Bool:=decide (c=32∨c=9∨c=10∨c=13)
def isDg (c:Nat):Bool:=decide (48≤c∧c≤57)
def remV (s:ByteArray) (p:Nat):Option Nat:=if p<s.size then (if byt s p=10 then some (p+1) else remV s (p+1)) else none
termination_by s.size-p
theorem remV_gt (s:ByteArray):∀(n p q:Nat),s.size-p≤n→remV s p=some q→p<q∧q≤s.size:=by
  intro n
  induction n with
  | zero=>intro p q hn h;rw [remV] at h;rw [if_neg (by omega)] at h;cases h
  | succ n ih=>
    intro p q hn h
    rw [remV] at h
    split at h
    · split at h
      · simp at h;omega
      · have:=ih (p+1) q (by omega) h;omega
    · cases h
def skipV (s:ByteArray) (p:Nat):Option Nat:=
  if p<s.size then
    (if byt s p=35 then (match _h:remV s p with
        | some q=>skipV s q
        | none=>none)
    else if isSp (byt s p)=true then skipV s (p+1) else some p)
  else some p
termination_by s.size-p
decreasing_by
  · have:=remV_gt s _ p q (Nat.le_refl _) _h;omega
  · omega
theorem skipV_end {s:ByteArray} {p:Nat} (h:s.size≤p):skipV s p=some p:=by rw [skipV,if_neg (by omega)]
theorem skipV_rem {s:ByteArray} {p q:Nat} (h:p<s.size) (h1:byt s p=35) (h2:remV s p=some q):skipV s p=skipV s q:=by
  rw [skipV,if_pos h,if_pos h1]
  split
  · rename_i q' e;rw [h2] at e;simp at e;rw [e]
  · rename_i e;rw [h2] at e;cases e
theorem skipV_bad {s:ByteArray} {p:Nat} (h:p<s.size) (h1:byt s p=35) (h2:remV s p=none):skipV s p=none:=by
  rw [skipV,if_pos h,if_pos h1]
  split
  · rename_i q' e;rw [h2] at e;cases e
  · rfl
theorem skipV_sp {s:ByteArray} {p:Nat} (h:p<s.size) (h1:byt s p≠35) (h2:isSp (byt s p)=true):skipV s p=skipV s (p+1):=by
  rw [skipV,if_pos h,if_neg h1,if_pos h2]
theorem skipV_stop {s:ByteArray} {p:Nat} (h:p<s.size) (h1:byt s p≠35) (h2:isSp (byt s p)=false):skipV s p=some p:=by
  rw [skipV,if_pos h,if_neg h1,if_neg (by simp [h2])]
def spV (s:ByteArray) (p:Nat):Option Nat:=if p<s.size∧isSp (byt s p)=true then some (p+1) else none
def gapV (s:ByteArray) (p:Nat):Option Nat:=(spV s p).bind (skipV s)
def wordV (s:ByteArray) (l:List UInt8) (p:Nat):Option Nat:=if p+l.length≤s.size∧(s.extract p (p+l.length)).toList=l then some (p+l.length) else none
def sideV (s:ByteArray) (p:Nat):Option (Nat×Nat):=
  if isDg (byt s p)=true∧byt s p≠48 then
    (if isDg (byt s (p+1))=true then
      (if 10*(byt s p-48)+(byt s (p+1)-48)≤64∧isDg (byt s (p+2))=false then some (10*(byt s p-48)+(byt s (p+1)-48),p+2) else none)
    else some (byt s p-48,p+1))
  else none
theorem dg_lt {s:ByteArray} {p:Nat} (h:isDg (byt s p)=true):p<s.size:=by
  rcases Nat.lt_or_ge p s.size with h1 | h1
  · exact h1
  · rw [byt_ge h1] at h;simp [isDg] at h
theorem sideV_le {s:ByteArray} {p v q:Nat} (h:sideV s p=some (v,q)):p<q∧q≤s.size∧1≤v∧v≤64:=by
  unfold sideV at h
  split at h
  · rename_i h1
    have l1:=dg_lt h1.1
    have a1:=h1.1
    simp [isDg] at a1
    split at h
    · rename_i h2
      have l2:=dg_lt h2
      split at h
      · rename_i h3;simp at h;omega
      · cases h
    · simp at h;omega
  · cases h
def decV (s:ByteArray):Option (Nat×Nat×Nat):=
  if 8192<s.size then none else
  (((wordV s [80,53] 0).bind (gapV s)).bind (sideV s)).bind fun a=>
  ((gapV s a.2).bind (sideV s)).bind fun b=>
  (((gapV s b.2).bind (wordV s [50,53,53])).bind (spV s)).bind fun q=>
  if s.size-q=a.1*b.1 then some (a.1,b.1,q) else none
end Num
end Go.Proofs.YtkhcjkmifddlbabGreatDoor
namespace Go.Proofs.YtkhcjkmifddlbabGreatDoor
open Go.RowKit Go.Deep
def rd3 (s:ByteArray) (p:Nat) (b:Bool) (q:Nat):Value:=if q=0 then .string s else if q=1 then .int .i64 p else .bool b
def RdTo (w w':World) (rb:Nat) (s:ByteArray) (b:Bool) (o:Option Nat):Prop:=Touch (fun q=>q=rb) w w'∧∃p',w'.rowIs rb 202 3 (rd3 s p' (b || o.isNone))∧p'≤s.size∧∀q,o=some q→p'=q
theorem rd_cells {w:World} {rb:Nat} {t:TypeId} {s:ByteArray} {p:Nat} {b:Bool} (h:w.rowIs rb t 3 (rd3 s p b)):w.cell? ⟨rb,0,none⟩=some (.string s)∧w.cell? ⟨rb,1,none⟩=some (.int .i64 p)∧w.cell? ⟨rb,2,none⟩=some (.bool b)∧w.frozen? ⟨rb,0,none⟩=false∧w.frozen? ⟨rb,1,none⟩=false∧w.frozen? ⟨rb,2,none⟩=false:=
  ⟨h.cell (i:=0) (by omega),h.cell (i:=1) (by omega),h.cell (i:=2) (by omega),h.frozen 0,h.frozen 1,h.frozen 2⟩
theorem rd_at {w:World} {rb:Nat} {t:TypeId} {s:ByteArray} {p:Nat} {b:Bool} (h:w.rowIs rb t 3 (rd3 s p b)) (q:Nat):(w.setCell ⟨rb,1,none⟩ (.int .i64 q)).rowIs rb t 3 (rd3 s q b):=by
  refine (h.set 1 _).congr fun i hi=>?_
  rcases (show i=0∨i=1∨i=2 by omega) with rfl | rfl | rfl <;> rfl
theorem rd_bad {w:World} {rb:Nat} {t:TypeId} {s:ByteArray} {p:Nat} {b:Bool} (h:w.rowIs rb t 3 (rd3 s p b)):(w.setCell ⟨rb,2,none⟩ (.bool true)).rowIs rb t 3 (rd3 s p true):=by
  refine (h.set 2 _).congr fun i hi=>?_
  rcases (show i=0∨i=1∨i=2 by omega) with rfl | rfl | rfl <;> rfl
theorem isSpace_any (c:Nat) (w:World) :
    Calls Tryz.prog 174 #[.int .u8 c] w fun e w'=>e=.returned (.bool (Num.isSp c))∧w'=w:=by
  go_enter Tryz.func174,Tryz.ntmps174
  by_cases h1:(c:Int)=32
  · go_wp2
    go_ret
    exact ⟨ret_bool (by simp [Num.isSp];omega),rfl⟩
  by_cases h2:(c:Int)=9
  · go_wp2
    go_ret
    exact ⟨ret_bool (by simp [Num.isSp];omega),rfl⟩
  by_cases h3:(c:Int)=10
  · go_wp2
    go_ret
    exact ⟨ret_bool (by simp [Num.isSp];omega),rfl⟩
  by_cases h4:(c:Int)=13
  · go_wp2
    go_ret
    exact ⟨ret_bool (by simp [Num.isSp];omega),rfl⟩
  · have e:Num.isSp c=false:=by simp [Num.isSp];omega
    have a1:((c:Int) == 32)=false:=by simp;omega
    have a2:((c:Int) == 9)=false:=by simp;omega
    have a3:((c:Int) == 10)=false:=by simp;omega
    have a4:((c:Int) == 13)=false:=by simp;omega
    go_wp2
    go_ret
    exact ⟨ret_bool (by rw [e]),rfl⟩
theorem isDigit_any (c:Nat) (w:World) :
    Calls Tryz.prog 175 #[.int .u8 c] w fun e w'=>e=.returned (.bool (Num.isDg c))∧w'=w:=by
  go_enter Tryz.func175,Tryz.ntmps175
  by_cases h1:(48:Int)≤(c:Int)
  · by_cases h2:(c:Int)≤57
    · go_wp2
      go_ret
      exact ⟨ret_bool (by simp [Num.isDg];omega),rfl⟩
    · go_wp2
      go_ret
      exact ⟨ret_bool (by simp [Num.isDg];omega),rfl⟩
  · go_wp2
    go_ret
    exact ⟨ret_bool (by simp [Num.isDg];omega),rfl⟩
theorem byt_ix {s:ByteArray} {p:Nat} (h:p<s.size):(s[p].toNat:Int)=((Num.byt s p:Nat):Int):=by rw [Num.byt_lt h]
theorem row_drewN {w:World} {b k:Nat} {t:TypeId} {f:Nat→Value} (h:w.rowIs b t k f) (n:Nat):(w.drewN n).rowIs b t k f:=h.of_block rfl
theorem RdTo.go {w:World} {rb:Nat} {s:ByteArray} {p n:Nat} {z:Int} {b:Bool} {o:Option Nat} (q:Nat) (h:w.rowIs rb 202 3 (rd3 s p b)) (hq:q≤s.size) (ho:o=some q) (hz:z=(q:Int)):RdTo w ((w.drewN n).setCell ⟨rb,1,none⟩ (.int .i64 z)) rb s b o:=by
  subst hz
  refine ⟨((Touch.refl (fun q=>q=rb) w).drewN n).setCell (p:=⟨rb,1,none⟩) (.inl rfl) _,q,?_,hq,fun r hr=>by rw [ho] at hr;simp at hr;exact hr⟩
  rw [ho]
  simp only [Option.isNone_some,Bool.or_false]
  exact rd_at (row_drewN h n) q
theorem RdTo.bad {w:World} {rb:Nat} {s:ByteArray} {p n:Nat} {b:Bool} {o:Option Nat} (h:w.rowIs rb 202 3 (rd3 s p b)) (hp:p≤s.size) (ho:o=none):RdTo w ((w.drewN n).setCell ⟨rb,2,none⟩ (.bool true)) rb s b o:=by
  refine ⟨((Touch.refl (fun q=>q=rb) w).drewN n).setCell (p:=⟨rb,2,none⟩) (.inl rfl) _,p,?_,hp,fun r hr=>by rw [ho] at hr;cases hr⟩
  rw [ho]
  simp only [Option.isNone_none,Bool.or_true]
  exact rd_bad (row_drewN h n)
set_option maxRecDepth 100000 in
theorem rdSpace_any (rb:Nat) (s:ByteArray) (p:Nat) (b:Bool) (w:World) (hs:s.size≤8192) (hp:p≤s.size) (h:w.rowIs rb 202 3 (rd3 s p b)) :
    Calls Tryz.prog 143 #[.pointer (some ⟨rb,0,none⟩)] w fun e w'=>e=.returned (.tuple #[])∧RdTo w w' rb s b (Num.spV s p):=by
  obtain ⟨c0,c1,c2,z0,z1,z2⟩:=rd_cells h
  have hrl:=h.lt
  have HH:=hide h
  clear h
  by_cases h1:p<s.size
  · have g0:(0:Int)≤(p:Int):=by omega
    have g1:(p:Int)<(s.size:Int):=by omega
    have hd:decide ((s.size:Int)≤(p:Int))=false:=by simp;omega
    have HSp:=hide (fun w'=>isSpace_any (Num.byt s p) w')
    have hbx:=byt_ix h1
    cases hsp:Num.isSp (Num.byt s p)
    · have HV:Hid (Num.spV s p=none):=by unfold Hid Num.spV;rw [if_neg (by simp [hsp])]
      rw [hsp] at HSp
      go_enter Tryz.func143,Tryz.ntmps143
      go_wp2_with fail
      go_quiet ((go_at_call 174;refine Calls.quiet_of_same (HSp.out _)))
      go_wp2
      exact bodyPost_ret (results_none rfl _ _ _) rfl ⟨rfl,RdTo.bad HH.out hp HV.out⟩
    · have HV:Hid (Num.spV s p=some (p+1)):=by unfold Hid Num.spV;rw [if_pos ⟨h1,hsp⟩]
      rw [hsp] at HSp
      go_enter Tryz.func143,Tryz.ntmps143
      go_wp2_with fail
      go_quiet ((go_at_call 174;refine Calls.quiet_of_same (HSp.out _)))
      go_wp2
      go_end0
      exact ⟨rfl,RdTo.go _ HH.out (by omega) HV.out (by push_cast;rfl)⟩
  · have hd:decide ((s.size:Int)≤(p:Int))=true:=by simp;omega
    have HV:Hid (Num.spV s p=none):=by unfold Hid Num.spV;rw [if_neg (by omega)]
    go_enter Tryz.func143,Tryz.ntmps143
    go_wp2_with fail
    go_quiet (fail)
    go_wp2
    exact bodyPost_ret (results_none rfl _ _ _) rfl ⟨rfl,RdTo.bad HH.out hp HV.out⟩
set_option maxRecDepth 100000 in
theorem rdWord_any (rb:Nat) (s t:ByteArray) (p:Nat) (b:Bool) (w:World) (hs:s.size≤8192) (ht:t.size≤10) (hp:p≤s.size) (h:w.rowIs rb 202 3 (rd3 s p b)) :
    Calls Tryz.prog 140 #[.pointer (some ⟨rb,0,none⟩),.string t] w fun e w'=>e=.returned (.tuple #[])∧RdTo w w' rb s b (Num.wordV s t.toList p):=by
  obtain ⟨c0,c1,c2,z0,z1,z2⟩:=rd_cells h
  have hrl:=h.lt
  have htl:t.toList.length=t.size:=by rw [ByteArray.toList_eq];rfl
  have HTl:=hide htl
  have HH:=hide h
  have w1:IntKind.i64.wrap ((s.size:Int)-(p:Int))=(s.size:Int)-(p:Int):=wrap_ok _ (by omega) (by omega)
  have w2:IntKind.i64.wrap ((p:Int)+(t.size:Int))=(p:Int)+(t.size:Int):=wrap_ok _ (by omega) (by omega)
  clear h htl
  by_cases h1:p+t.size≤s.size
  · have hd:decide ((s.size:Int)-(p:Int)<(t.size:Int))=false:=by simp;omega
    have g0:(0:Int)≤(p:Int):=by omega
    have g1:(0:Int)≤(p:Int)+(t.size:Int):=by omega
    have g2:(p:Int)+(t.size:Int)≤(s.size:Int):=by omega
    have g3:(p:Int)≤(p:Int)+(t.size:Int):=by omega
    have hn:((p:Int)+(t.size:Int)).toNat=p+t.size:=by omega
    cases hq:((s.extract p (p+t.size)).toList == t.toList)
    · have HV:Hid (Num.wordV s t.toList p=none):=by unfold Hid Num.wordV;rw [HTl.out,if_neg (by simp at hq;intro e;exact hq e.2)]
      go_enter Tryz.func140,Tryz.ntmps140
      go_wp2_with fail
      go_quiet (fail)
      go_wp2
      exact bodyPost_ret (results_none rfl _ _ _) rfl ⟨rfl,RdTo.bad HH.out hp HV.out⟩
    · have HV:Hid (Num.wordV s t.toList p=some (p+t.size)):=by unfold Hid Num.wordV;rw [HTl.out,if_pos ⟨h1,by simpa using hq⟩]
      go_enter Tryz.func140,Tryz.ntmps140
      go_wp2_with fail
      go_quiet (fail)
      go_wp2
      go_end0
      exact ⟨rfl,RdTo.go _ HH.out (by omega) HV.out (by push_cast;rfl)⟩
  · have hd:decide ((s.size:Int)-(p:Int)<(t.size:Int))=true:=by simp;omega
    have HV:Hid (Num.wordV s t.toList p=none):=by unfold Hid Num.wordV;rw [HTl.out,if_neg (by omega)]
    go_enter Tryz.func140,Tryz.ntmps140
    go_wp2_with fail
    go_quiet (fail)
    go_wp2
    exact bodyPost_ret (results_none rfl _ _ _) rfl ⟨rfl,RdTo.bad HH.out hp HV.out⟩
def rdAt (w:World) (rb:Nat):Nat:=match w.cell? ⟨rb,1,none⟩ with
  | some v=>(intOf v).toNat
  | none=>0
theorem rdAt_row {w:World} {rb:Nat} {t:TypeId} {s:ByteArray} {p:Nat} {b:Bool} (h:w.rowIs rb t 3 (rd3 s p b)):rdAt w rb=p:=by
  unfold rdAt
  rw [(rd_cells h).2.1]
  simp [intOf]
theorem RdTo.touch {w wr w':World} {rb:Nat} {s:ByteArray} {b:Bool} {o:Option Nat} (h:RdTo wr w' rb s b o) (hT:Touch (fun q=>q=rb) w wr):RdTo w w' rb s b o:=⟨hT.trans h.1,h.2⟩
theorem rd_goN {w:World} {rb:Nat} {t:TypeId} {s:ByteArray} {p q n:Nat} {z:Int} {b:Bool} (h:w.rowIs rb t 3 (rd3 s p b)) (hz:z=(q:Int)):((w.drewN n).setCell ⟨rb,1,none⟩ (.int .i64 z)).rowIs rb t 3 (rd3 s q b):=by
  subst hz;exact rd_at (row_drewN h n) q
theorem touch_goN {w wr:World} {rb n:Nat} {v:Value} (h:Touch (fun q=>q=rb) w wr):Touch (fun q=>q=rb) w ((wr.drewN n).setCell ⟨rb,1,none⟩ v):=(h.drewN n).setCell (p:=⟨rb,1,none⟩) (.inl rfl) _
set_option maxRecDepth 100000 in
theorem rdRemark_any (rb:Nat) (s:ByteArray) (p:Nat) (b:Bool) (w:World) (hs:s.size≤8192) (hp:p≤s.size) (h:w.rowIs rb 202 3 (rd3 s p b)) :
    Calls Tryz.prog 173 #[.pointer (some ⟨rb,0,none⟩)] w fun e w'=>e=.returned (.tuple #[])∧RdTo w w' rb s b (Num.remV s p)∧(Num.remV s p=none→rdAt w' rb=s.size):=by
  have HH:=hide h
  clear h
  go_enter Tryz.func173,Tryz.ntmps173
  go_wp2_with fail
  go_loopw [] (fun wr=>∃q:Nat,q≤s.size∧wr.rowIs rb 202 3 (rd3 s q b)∧Touch (fun q=>q=rb) w wr∧Num.remV s p=Num.remV s q) (fun wr=>s.size-rdAt wr rb)
  case atStart=>exact ⟨p,hp,HH.out,Touch.refl _ _,rfl⟩
  case round=>
    obtain ⟨q,hq,hrow,hT,hV⟩:=hrel
    obtain ⟨c0,c1,c2,z0,z1,z2⟩:=rd_cells hrow
    have hrl:=hrow.lt
    have HRow:=hide hrow
    have HT:=hide hT
    have HAt:=hide (rdAt_row hrow)
    have HV:=hide hV
    clear hrow hT hV
    by_cases h1:q<s.size
    · have g0:(0:Int)≤(q:Int):=by omega
      have g1:(q:Int)<(s.size:Int):=by omega
      have hd:decide ((q:Int)<(s.size:Int))=true:=by simp;omega
      have hbx:=byt_ix h1
      have w1:IntKind.i64.wrap ((q:Int)+1)=(q:Int)+1:=wrap_ok _ (by omega) (by omega)
      by_cases h10:Num.byt s q=10
      · have HR:Hid (Num.remV s p=some (q+1)):=by unfold Hid;rw [HV.out,Num.remV,if_pos h1,if_pos h10]
        have e1:((Num.byt s q:Nat):Int)=10:=by omega
        rw [e1] at hbx
        go_wp2_with fail
        go_quiet (fail)
        go_wp2_with fail
        go_quiet (fail)
        go_wp2
        exact bodyPost_ret (results_none rfl _ _ _) rfl ⟨rfl,(RdTo.go (q+1) HRow.out (by omega) HR.out (by push_cast;rfl)).touch HT.out,fun e=>by rw [HR.out] at e;cases e⟩
      · have HR:Hid (Num.remV s p=Num.remV s (q+1)):=by unfold Hid;rw [HV.out];conv=>lhs;rw [Num.remV,if_pos h1,if_neg h10]
        have e1:(((Num.byt s q:Nat):Int) == 10)=false:=by simp;omega
        have e2:¬((Num.byt s q:Nat):Int)=10:=by omega
        go_wp2_with fail
        go_quiet (fail)
        go_wp2_with fail
        go_quiet (fail)
        go_wp2
        go_roundw
        case rel=>exact ⟨q+1,by omega,rd_goN HRow.out (by push_cast;rfl),touch_goN HT.out,HR.out⟩
        case measure=>rw [HAt.out,rdAt_row (rd_goN (q:=q+1) HRow.out (by push_cast;rfl))];omega
    · have hd:decide ((q:Int)<(s.size:Int))=false:=by simp;omega
      have HR:Hid (Num.remV s p=none):=by unfold Hid;rw [HV.out,Num.remV,if_neg h1]
      go_wp2_with fail
      go_quiet (fail)
      go_wp2
      go_end0
      exact ⟨rfl,(RdTo.bad HRow.out hq HR.out).touch HT.out,fun _=>by rw [rdAt_row (rd_bad (row_drewN HRow.out _))];omega⟩
set_option maxRecDepth 100000 in
theorem rdGap_any (rb:Nat) (s:ByteArray) (p:Nat) (b:Bool) (w:World) (hs:s.size≤8192) (hp:p≤s.size) (h:w.rowIs rb 202 3 (rd3 s p b)) :
    Calls Tryz.prog 141 #[.pointer (some ⟨rb,0,none⟩)] w fun e w'=>e=.returned (.tuple #[])∧RdTo w w' rb s b (Num.gapV s p):=by
  have HSp:=hide (rdSpace_any rb s p b w hs hp h)
  have HRem:=hide (fun q b w' (hq:q≤s.size) (h:w'.rowIs rb 202 3 (rd3 s q b))=>rdRemark_any rb s q b w' hs hq h)
  clear h
  go_enter Tryz.func141,Tryz.ntmps141
  go_wp2_with fail
  refine HSp.out.mono ?_
  rintro e w1 ⟨rfl,hT1,p1,hrow1,hp1,hq1⟩
  have HT1:=hide hT1
  have HRow1:=hide hrow1
  -- where the gap goes on from
  have HG:Hid (∃b1,b1=(b || (Num.spV s p).isNone)∧((b1=b∧Num.gapV s p=Num.skipV s p1)∨(b1=true∧Num.gapV s p=none))):=by
    refine ⟨_,rfl,?_⟩
    unfold Num.gapV
    cases hsp:Num.spV s p with
    | none=>right;simp
    | some r=>left;rw [hq1 r hsp];simp
  obtain ⟨b1,hb1,hG⟩:=HG.out
  rw [←hb1] at HRow1
  have HG1:=hide hG
  clear hT1 hrow1 hq1 hb1 hG HG HSp
  go_wp2_with fail
  go_loopw [] (fun wr=>∃(q:Nat) (b2:Bool),q≤s.size∧wr.rowIs rb 202 3 (rd3 s q b2)∧Touch (fun q=>q=rb) w wr∧((b2=b∧Num.gapV s p=Num.skipV s q)∨(b2=true∧Num.gapV s p=none))) (fun wr=>s.size-rdAt wr rb)
  case atStart=>exact ⟨p1,b1,hp1,HRow1.out,HT1.out,HG1.out⟩
  case round=>
    clear HG1 HRow1 HT1
    obtain ⟨q,b2,hq,hrow,hT,hV⟩:=hrel
    obtain ⟨c0,c1,c2,z0,z1,z2⟩:=rd_cells hrow
    have hrl:=hrow.lt
    have HRow:=hide hrow
    have HT:=hide hT
    have HAt:=hide (rdAt_row hrow)
    have HV:=hide hV
    clear hrow hT hV
    have fin:Hid (∀n,Num.skipV s q=some q→RdTo w (wr.drewN n) rb s b (Num.gapV s p)):=fun n hsk=>by
      refine ⟨HT.out.drewN n,q,?_,hq,?_⟩
      · rcases HV.out with ⟨e1,e2⟩ | ⟨e1,e2⟩
        · rw [e2,hsk];simp only [Option.isNone_some,Bool.or_false];rw [←e1];exact row_drewN HRow.out n
        · rw [e2];simp only [Option.isNone_none,Bool.or_true];rw [←e1];exact row_drewN HRow.out n
      · intro r hr
        rcases HV.out with ⟨e1,e2⟩ | ⟨e1,e2⟩
        · rw [e2,hsk] at hr;simp at hr;exact hr
        · rw [e2] at hr;cases hr
    by_cases h1:q<s.size
    · have g0:(0:Int)≤(q:Int):=by omega
      have g1:(q:Int)<(s.size:Int):=by omega
      have hd:decide ((q:Int)<(s.size:Int))=true:=by simp;omega
      have hbx:=byt_ix h1
      have w1:IntKind.i64.wrap ((q:Int)+1)=(q:Int)+1:=wrap_ok _ (by omega) (by omega)
      by_cases h35:Num.byt s q=35
      · have e1:((Num.byt s q:Nat):Int)=35:=by omega
        rw [e1] at hbx
        go_wp2_with fail
        go_quiet (fail)
        go_wp2_with fail
        go_quiet (fail)
        go_wp2_with fail
        refine (HRem.out q b2 _ hq (row_drewN HRow.out _)).mono ?_
        rintro e w2 ⟨rfl,⟨hT2,q2,hrow2,hq2,hq3⟩,hend0⟩
        have HT2:Hid (Touch (fun q=>q=rb) w w2):=(HT.out.drewN _).trans hT2
        have HRow2:=hide hrow2
        have HV2:Hid (((b2 || (Num.remV s q).isNone)=b∧Num.gapV s p=Num.skipV s q2)∨((b2 || (Num.remV s q).isNone)=true∧Num.gapV s p=none)):=by
          unfold Hid
          cases hr:Num.remV s q with
          | none=>
            right
            refine ⟨by simp,?_⟩
            rcases HV.out with ⟨e1,e2⟩ | ⟨e1,e2⟩
            · rw [e2,Num.skipV_bad h1 h35 hr]
            · exact e2
          | some r=>
            rcases HV.out with ⟨e1,e2⟩ | ⟨e1,e2⟩
            · left;exact ⟨by simp [e1],by rw [e2,Num.skipV_rem h1 h35 hr,hq3 r hr]⟩
            · right;exact ⟨by simp [e1],e2⟩
        have hend:Num.remV s q=none→q2=s.size:=fun e=>by have:=hend0 e;rw [rdAt_row hrow2] at this;exact this
        have HM:Hid (s.size-q2<s.size-q):=by
          unfold Hid
          cases hr:Num.remV s q with
          | none=>rw [hend hr];omega
          | some r=>have:=Num.remV_gt s _ q r (Nat.le_refl _) hr;rw [hq3 r hr];omega
        clear hT2 hrow2 hq3 hend hend0
        go_wp2
        go_roundw
        case rel=>exact ⟨q2,_,hq2,HRow2.out,HT2.out,HV2.out⟩
        case measure=>rw [HAt.out,rdAt_row HRow2.out];exact HM.out
      · have e1:(((Num.byt s q:Nat):Int) == 35)=false:=by simp;omega
        have e2:¬((Num.byt s q:Nat):Int)=35:=by omega
        have HSp:=hide (fun w'=>isSpace_any (Num.byt s q) w')
        cases hsp:Num.isSp (Num.byt s q)
        · rw [hsp] at HSp
          have HSk:=hide (Num.skipV_stop h1 h35 hsp)
          go_wp2_with fail
          go_quiet (fail)
          go_wp2_with fail
          obtain ⟨n1,rfl⟩:∃n1,n1=nq:=⟨_,rfl⟩
          go_quiet (fail)
          go_wp2_with fail
          obtain ⟨W2,hW2⟩:∃W2,W2=(wr.drewN n1).drewN nq:=⟨_,rfl⟩
          have hrow2:W2.rowIs rb 202 3 (rd3 s q b2):=by rw [hW2];exact row_drewN (row_drewN HRow.out _) _
          have HT2:Hid (Touch (fun q=>q=rb) w W2):=by unfold Hid;rw [hW2];exact (HT.out.drewN _).drewN _
          have HRow2:=hide hrow2
          have fin2:Hid (∀n,Num.skipV s q=some q→RdTo w (W2.drewN n) rb s b (Num.gapV s p)):=fun n hsk=>by rw [hW2];have:=fin.out (n1+nq+n) hsk;simpa [World.drewN_drewN,Nat.add_assoc] using this
          try rw [←hW2]
          clear c0 c1 c2 z0 z1 z2 hrl hW2
          obtain ⟨c0,c1,c2,z0,z1,z2⟩:=rd_cells hrow2
          have hrl:=hrow2.lt
          clear hrow2
          go_quiet ((go_at_call 174;refine Calls.quiet_of_same (HSp.out _)))
          go_wp2
          exact bodyPost_ret (results_none rfl _ _ _) rfl ⟨rfl,fin2.out _ HSk.out⟩
        · rw [hsp] at HSp
          have HSk:=hide (Num.skipV_sp h1 h35 hsp)
          have HV2:Hid ((b2=b∧Num.gapV s p=Num.skipV s (q+1))∨(b2=true∧Num.gapV s p=none)):=by
            rcases HV.out with ⟨e1,e2⟩ | ⟨e1,e2⟩
            · exact .inl ⟨e1,by rw [e2,HSk.out]⟩
            · exact .inr ⟨e1,e2⟩
          go_wp2_with fail
          go_quiet (fail)
          go_wp2_with fail
          obtain ⟨n1,rfl⟩:∃n1,n1=nq:=⟨_,rfl⟩
          go_quiet (fail)
          go_wp2_with fail
          obtain ⟨W2,hW2⟩:∃W2,W2=(wr.drewN n1).drewN nq:=⟨_,rfl⟩
          have hrow2:W2.rowIs rb 202 3 (rd3 s q b2):=by rw [hW2];exact row_drewN (row_drewN HRow.out _) _
          have HT2:Hid (Touch (fun q=>q=rb) w W2):=by unfold Hid;rw [hW2];exact (HT.out.drewN _).drewN _
          have HRow2:=hide hrow2
          have fin2:Hid (∀n,Num.skipV s q=some q→RdTo w (W2.drewN n) rb s b (Num.gapV s p)):=fun n hsk=>by rw [hW2];have:=fin.out (n1+nq+n) hsk;simpa [World.drewN_drewN,Nat.add_assoc] using this
          try rw [←hW2]
          clear c0 c1 c2 z0 z1 z2 hrl hW2
          obtain ⟨c0,c1,c2,z0,z1,z2⟩:=rd_cells hrow2
          have hrl:=hrow2.lt
          clear hrow2
          go_quiet ((go_at_call 174;refine Calls.quiet_of_same (HSp.out _)))
          go_wp2
          go_roundw
          case rel=>exact ⟨q+1,b2,by omega,rd_goN HRow2.out (by push_cast;rfl),touch_goN HT2.out,HV2.out⟩
          case measure=>rw [HAt.out,rdAt_row (rd_goN (q:=q+1) HRow2.out (by push_cast;rfl))];omega
    · have hd:decide ((q:Int)<(s.size:Int))=false:=by simp;omega
      have HSk:=hide (Num.skipV_end (s:=s) (p:=q) (by omega))
      go_wp2_with fail
      go_quiet (fail)
      go_wp2
      go_end0
      exact ⟨rfl,fin.out _ HSk.out⟩
def sdB (n:Int):Bool:=decide (1≤n) && decide (n≤64)
theorem isSideD_any (n:Int) (w:World):Calls Tryz.prog 167 #[.int .i64 n] w fun e w'=>e=.returned (.bool (sdB n))∧w'=w:=by
  by_cases h1:1≤n
  · by_cases h2:n≤64
    · go_enter Tryz.func167,Tryz.ntmps167
      go_wp2
      go_ret
      exact ⟨ret_bool (by simp [sdB];omega),rfl⟩
    · go_enter Tryz.func167,Tryz.ntmps167
      go_wp2
      go_ret
      exact ⟨ret_bool (by simp [sdB];omega),rfl⟩
  · go_enter Tryz.func167,Tryz.ntmps167
    go_wp2
    go_ret
    exact ⟨ret_bool (by simp [sdB];omega),rfl⟩
theorem sdB_yes {n:Nat} (h1:1≤n) (h2:n≤64):sdB (n:Int)=true:=by simp [sdB];omega
theorem sdB_no {n:Nat} (h:n=0∨64<n):sdB (n:Int)=false:=by simp [sdB];omega
theorem RdTo.stay {w wx:World} {rb:Nat} {s:ByteArray} {q:Nat} {b:Bool} {o:Option Nat} (hT:Touch (fun q=>q=rb) w wx) (h:wx.rowIs rb 202 3 (rd3 s q b)) (hq:q≤s.size) (ho:o=some q):RdTo w wx rb s b o:=by
  refine ⟨hT,q,?_,hq,fun r hr=>by rw [ho] at hr;simp at hr;exact hr⟩
  rw [ho];simp only [Option.isNone_some,Bool.or_false];exact h
theorem RdTo.bad0 {w wx:World} {rb:Nat} {s:ByteArray} {q:Nat} {b:Bool} {o:Option Nat} (hT:Touch (fun q=>q=rb) w wx) (h:wx.rowIs rb 202 3 (rd3 s q b)) (hq:q≤s.size) (ho:o=none):RdTo w (wx.setCell ⟨rb,2,none⟩ (.bool true)) rb s b o:=by
  refine ⟨hT.setCell (p:=⟨rb,2,none⟩) (.inl rfl) _,q,?_,hq,fun r hr=>by rw [ho] at hr;cases hr⟩
  rw [ho];simp only [Option.isNone_none,Bool.or_true];exact rd_bad h
def SideAt (s:ByteArray) (p q n:Nat):Prop:=(q=p∧n=0)∨(q=p+1∧Num.isDg (Num.byt s p)=true∧Num.byt s p≠48∧n=Num.byt s p-48) ∨
  (q=p+2∧Num.isDg (Num.byt s p)=true∧Num.byt s p≠48∧Num.isDg (Num.byt s (p+1))=true∧n=10*(Num.byt s p-48)+(Num.byt s (p+1)-48)∧n≤64)
theorem SideAt.le {s:ByteArray} {p q n:Nat} (h:SideAt s p q n):n≤64:=by
  rcases h with ⟨_,rfl⟩ | ⟨_,h1,_,rfl⟩ | ⟨_,_,_,_,_,h⟩
  · omega
  · simp [Num.isDg] at h1;omega
  · exact h
theorem SideAt.stop {s:ByteArray} {p q n:Nat} (h:SideAt s p q n) (hd:Num.isDg (Num.byt s q)=false):(n=0∧Num.sideV s p=none)∨(1≤n∧Num.sideV s p=some (n,q)):=by
  rcases h with ⟨rfl,rfl⟩ | ⟨rfl,h1,h2,rfl⟩ | ⟨rfl,h1,h2,h3,rfl,h4⟩
  · left;exact ⟨rfl,by unfold Num.sideV;rw [if_neg (by simp [hd])]⟩
  · right
    have:=h1
    simp [Num.isDg] at this
    exact ⟨by omega,by unfold Num.sideV;rw [if_pos ⟨h1,h2⟩,if_neg (by simp [hd])]⟩
  · right
    have:=h1
    simp [Num.isDg] at this
    exact ⟨by omega,by unfold Num.sideV;rw [if_pos ⟨h1,h2⟩,if_pos h3,if_pos ⟨h4,hd⟩]⟩
theorem SideAt.next {s:ByteArray} {p q n:Nat} (h:SideAt s p q n) (hd:Num.isDg (Num.byt s q)=true):(1≤10*n+(Num.byt s q-48)∧10*n+(Num.byt s q-48)≤64∧SideAt s p (q+1) (10*n+(Num.byt s q-48)))∨((10*n+(Num.byt s q-48)=0∨64<10*n+(Num.byt s q-48))∧Num.sideV s p=none):=by
  have hdd:=hd
  simp [Num.isDg] at hdd
  rcases h with ⟨rfl,rfl⟩ | ⟨rfl,h1,h2,rfl⟩ | ⟨rfl,h1,h2,h3,rfl,h4⟩
  · by_cases e:Num.byt s q=48
    · right;exact ⟨by omega,by unfold Num.sideV;rw [if_neg (by simp [e])]⟩
    · left;exact ⟨by omega,by omega,.inr (.inl ⟨rfl,hd,e,by omega⟩)⟩
  · have h1':=h1
    simp [Num.isDg] at h1'
    by_cases e:10*(Num.byt s p-48)+(Num.byt s (p+1)-48)≤64
    · left;exact ⟨by omega,e,.inr (.inr ⟨by omega,h1,h2,hd,rfl,e⟩)⟩
    · right;exact ⟨by omega,by unfold Num.sideV;rw [if_pos ⟨h1,h2⟩,if_pos hd,if_neg (by intro h;exact e h.1)]⟩
  · have h1':=h1
    simp [Num.isDg] at h1'
    right;exact ⟨by omega,by unfold Num.sideV;rw [if_pos ⟨h1,h2⟩,if_pos h3,if_neg (by simp [hd])]⟩
set_option maxRecDepth 100000 in
theorem rdSide_any (rb:Nat) (s:ByteArray) (p:Nat) (b:Bool) (w:World) (hs:s.size≤8192) (hp:p≤s.size) (h:w.rowIs rb 202 3 (rd3 s p b)) :
    Calls Tryz.prog 142 #[.pointer (some ⟨rb,0,none⟩)] w fun e w'=>∃v:Nat,e=.returned (.int .i64 v)∧v≤64∧RdTo w w' rb s b ((Num.sideV s p).map Prod.snd)∧∀x,Num.sideV s p=some x→v=x.1:=by
  have HH:=hide h
  clear h
  go_enter Tryz.func142,Tryz.ntmps142
  go_wp2_with fail
  go_loopw [3] (fun t3 wr=>∃q n:Nat,q≤s.size∧t3=.int .i64 n∧wr.rowIs rb 202 3 (rd3 s q b)∧Touch (fun q=>q=rb) w wr∧SideAt s p q n) (fun _ wr=>s.size-rdAt wr rb)
  case atStart=>exact ⟨p,0,hp,rfl,HH.out,Touch.refl _ _,.inl ⟨rfl,rfl⟩⟩
  case round=>
    obtain ⟨q,n,hq,rfl,hrow,hT,hA⟩:=hrel
    obtain ⟨c0,c1,c2,z0,z1,z2⟩:=rd_cells hrow
    have hrl:=hrow.lt
    have hn64:=hA.le
    have HRow:=hide hrow
    have HT:=hide hT
    have HAt:=hide (rdAt_row hrow)
    have HA:=hide hA
    have HSd0:=hide (fun w'=>isSideD_any (n:Int) w')
    clear hrow hT hA
    by_cases h1:q<s.size
    · have g0:(0:Int)≤(q:Int):=by omega
      have g1:(q:Int)<(s.size:Int):=by omega
      have hd:decide ((q:Int)<(s.size:Int))=true:=by simp;omega
      have hbx:=byt_ix h1
      have HDg:=hide (fun w'=>isDigit_any (Num.byt s q) w')
      cases hdg:Num.isDg (Num.byt s q)
      · rw [hdg] at HDg
        rcases HA.out.stop hdg with ⟨e1,e2⟩ | ⟨e1,e2⟩
        · have HE:=hide e2
          rw [sdB_no (.inl e1)] at HSd0
          clear e1 e2
          go_wp2_with fail
          go_quiet ((go_at_call 175;refine Calls.quiet_of_same (HDg.out _)))
          go_wp2_with (go_at_call 167;refine (HSd0.out _).mono ?_;rintro e w' ⟨rfl,hw'⟩;rw [hw'];clear hw')
          go_ret
          exact ⟨0,rfl,by omega,RdTo.bad0 (HT.out.drewN _) (row_drewN HRow.out _) hq (by rw [HE.out];rfl),fun x hx=>by rw [HE.out] at hx;cases hx⟩
        · have HE:=hide e2
          rw [sdB_yes e1 hn64] at HSd0
          clear e2
          go_wp2_with fail
          go_quiet ((go_at_call 175;refine Calls.quiet_of_same (HDg.out _)))
          go_wp2_with (go_at_call 167;refine (HSd0.out _).mono ?_;rintro e w' ⟨rfl,hw'⟩;rw [hw'];clear hw')
          go_ret
          exact ⟨n,rfl,hn64,RdTo.stay (HT.out.drewN _) (row_drewN HRow.out _) hq (by rw [HE.out];rfl),fun x hx=>by rw [HE.out] at hx;simp at hx;rw [←hx]⟩
      · rw [hdg] at HDg
        have hdd:=hdg
        simp [Num.isDg] at hdd
        have w1:IntKind.i64.wrap ((q:Int)+1)=(q:Int)+1:=wrap_ok _ (by omega) (by omega)
        have w2:IntKind.i64.wrap (10*(n:Int))=10*(n:Int):=wrap_ok _ (by omega) (by omega)
        have w3:IntKind.u8.wrap (((Num.byt s q:Nat):Int)-48)=((Num.byt s q:Nat):Int)-48:=by simp [IntKind.wrap,IntKind.bits,IntKind.signed];omega
        have w4:IntKind.i64.wrap (((Num.byt s q:Nat):Int)-48)=((Num.byt s q:Nat):Int)-48:=wrap_ok _ (by omega) (by omega)
        obtain ⟨n',hn'⟩:∃m,m=10*n+(Num.byt s q-48):=⟨_,rfl⟩
        have w5:IntKind.i64.wrap (10*(n:Int)+(((Num.byt s q:Nat):Int)-48))=(n':Int):=by rw [wrap_ok _ (by omega) (by omega)];omega
        have HSd:=hide (fun w'=>isSideD_any (n':Int) w')
        have hnx:=HA.out.next hdg
        rw [←hn'] at hnx
        clear hn'
        rcases hnx with ⟨f1,f2,f3⟩ | ⟨f1,f2⟩
        · rw [sdB_yes f1 f2] at HSd
          have HN:=hide f3
          clear f3
          go_wp2_with fail
          go_quiet ((go_at_call 175;refine Calls.quiet_of_same (HDg.out _)))
          go_wp2_with fail
          obtain ⟨n1,rfl⟩:∃n1,n1=nq:=⟨_,rfl⟩
          go_quiet (fail)
          go_wp2_with (go_at_call 167;refine (HSd.out _).mono ?_;rintro e w' ⟨rfl,hw'⟩;rw [hw'];clear hw')
          go_roundw
          case rel=>exact ⟨q+1,n',by omega,rfl,rd_goN HRow.out (by push_cast;rfl),touch_goN HT.out,HN.out⟩
          case measure=>rw [HAt.out,rdAt_row (rd_goN (q:=q+1) HRow.out (by push_cast;rfl))];omega
        · rw [sdB_no f1] at HSd
          have HE:=hide f2
          clear f2
          go_wp2_with fail
          go_quiet ((go_at_call 175;refine Calls.quiet_of_same (HDg.out _)))
          go_wp2_with fail
          obtain ⟨n1,rfl⟩:∃n1,n1=nq:=⟨_,rfl⟩
          go_quiet (fail)
          go_wp2_with (go_at_call 167;refine (HSd.out _).mono ?_;rintro e w' ⟨rfl,hw'⟩;rw [hw'];clear hw')
          go_ret
          exact ⟨0,rfl,by omega,RdTo.bad0 (touch_goN HT.out) (rd_goN (q:=q+1) HRow.out (by push_cast;rfl)) (by omega) (by rw [HE.out];rfl),fun x hx=>by rw [HE.out] at hx;cases hx⟩
    · have hd:decide ((q:Int)<(s.size:Int))=false:=by simp;omega
      have hb0:Num.isDg (Num.byt s q)=false:=by rw [Num.byt_ge (by omega)];decide
      rcases HA.out.stop hb0 with ⟨e1,e2⟩ | ⟨e1,e2⟩
      · have HE:=hide e2
        rw [sdB_no (.inl e1)] at HSd0
        clear e1 e2 hb0
        go_wp2_with fail
        go_quiet (fail)
        go_wp2_with (go_at_call 167;refine (HSd0.out _).mono ?_;rintro e w' ⟨rfl,hw'⟩;rw [hw'];clear hw')
        go_ret
        exact ⟨0,rfl,by omega,RdTo.bad0 (HT.out.drewN _) (row_drewN HRow.out _) hq (by rw [HE.out];rfl),fun x hx=>by rw [HE.out] at hx;cases hx⟩
      · have HE:=hide e2
        rw [sdB_yes e1 hn64] at HSd0
        clear e2 hb0
        go_wp2_with fail
        go_quiet (fail)
        go_wp2_with (go_at_call 167;refine (HSd0.out _).mono ?_;rintro e w' ⟨rfl,hw'⟩;rw [hw'];clear hw')
        go_ret
        exact ⟨n,rfl,hn64,RdTo.stay (HT.out.drewN _) (row_drewN HRow.out _) hq (by rw [HE.out];rfl),fun x hx=>by rw [HE.out] at hx;simp at hx;rw [←hx]⟩
def decT (s:ByteArray):Nat×Nat×Nat:=(Num.decV s).getD (0,0,s.size)
def decE (s:ByteArray):Int:=if (Num.decV s).isNone=true then 10 else 0
theorem decT_none {s:ByteArray} (h:Num.decV s=none):decT s=(0,0,s.size)∧decE s=10:=by unfold decT decE;rw [h];exact ⟨rfl,rfl⟩
theorem decT_some {s:ByteArray} {t:Nat×Nat×Nat} (h:Num.decV s=some t):decT s=t∧decE s=0:=by unfold decT decE;rw [h];exact ⟨rfl,rfl⟩
def stepV {α:Type} (S:Option (α×Nat)) (f:Nat→Option Nat):Option (α×Nat):=S.bind fun a=>(f a.2).map fun q=>(a.1,q)
def sideS {α:Type} (s:ByteArray) (S:Option (α×Nat)):Option ((α×Nat)×Nat):=S.bind fun a=>(Num.sideV s a.2).map fun y=>((a.1,y.1),y.2)
def decS (s:ByteArray):Option (((Unit×Nat)×Nat)×Nat):=
  stepV (stepV (stepV (sideS s (stepV (sideS s (stepV (stepV (some ((),0)) (Num.wordV s [80,53])) (Num.gapV s))) (Num.gapV s))) (Num.gapV s)) (Num.wordV s [50,53,53])) (Num.spV s)
theorem decV_eq {s:ByteArray} (hs:s.size≤8192):Num.decV s=(decS s).bind fun t=>if s.size-t.2=t.1.1.2*t.1.2 then some (t.1.1.2,t.1.2,t.2) else none:=by
  unfold Num.decV decS stepV sideS
  rw [if_neg (by omega)]
  cases h1:Num.wordV s [80,53] 0 with
  | none=>simp [h1]
  | some p1=>
    cases h2:Num.gapV s p1 with
    | none=>simp [h1,h2]
    | some p2=>
      cases h3:Num.sideV s p2 with
      | none=>simp [h1,h2,h3]
      | some y3=>
        cases h4:Num.gapV s y3.2 with
        | none=>simp [h1,h2,h3,h4]
        | some p4=>
          cases h5:Num.sideV s p4 with
          | none=>simp [h1,h2,h3,h4,h5]
          | some y5=>
            cases h6:Num.gapV s y5.2 with
            | none=>simp [h1,h2,h3,h4,h5,h6]
            | some p6=>
              cases h7:Num.wordV s [50,53,53] p6 with
              | none=>simp [h1,h2,h3,h4,h5,h6,h7]
              | some p7=>
                cases h8:Num.spV s p7 with
                | none=>simp [h1,h2,h3,h4,h5,h6,h7,h8]
                | some p8=>simp [h1,h2,h3,h4,h5,h6,h7,h8]
structure RdS {α:Type} (W wk:World) (rb:Nat) (s:ByteArray) (b:Bool) (p:Nat) (x:α) (S:Option (α×Nat)):Prop where
  row:wk.rowIs rb 202 3 (rd3 s p b)
  le:p≤s.size
  touch:Touch (fun q=>q=rb) W wk
  st:(b=false∧S=some (x,p))∨(b=true∧S=none)
theorem RdS.step {α:Type} {W wk w':World} {rb:Nat} {s:ByteArray} {b:Bool} {p:Nat} {x:α} {S:Option (α×Nat)} {f:Nat→Option Nat} (h:RdS W wk rb s b p x S) (t:RdTo wk w' rb s b (f p)):∃b' p',RdS W w' rb s b' p' x (stepV S f):=by
  obtain ⟨hT,p',hrow,hp',hq⟩:=t
  refine ⟨_,p',hrow,hp',h.touch.trans hT,?_⟩
  rcases h.st with ⟨e1,e2⟩ | ⟨e1,e2⟩
  · rw [e1,e2]
    cases hf:f p with
    | none=>right;simp [stepV,hf]
    | some q=>left;rw [hq q hf];simp [stepV,hf]
  · right;rw [e1,e2];simp [stepV]
theorem RdS.side {α:Type} {W wk w':World} {rb v:Nat} {s:ByteArray} {b:Bool} {p:Nat} {x:α} {S:Option (α×Nat)} (h:RdS W wk rb s b p x S) (t:RdTo wk w' rb s b ((Num.sideV s p).map Prod.snd)) (hv:∀y,Num.sideV s p=some y→v=y.1):∃b' p',RdS W w' rb s b' p' (x,v) (sideS s S):=by
  obtain ⟨hT,p',hrow,hp',hq⟩:=t
  refine ⟨_,p',hrow,hp',h.touch.trans hT,?_⟩
  rcases h.st with ⟨e1,e2⟩ | ⟨e1,e2⟩
  · rw [e1,e2]
    cases hf:Num.sideV s p with
    | none=>right;simp [sideS,hf]
    | some y=>left;rw [hq y.2 (by rw [hf];rfl),hv y hf];simp [sideS,hf]
  · right;rw [e1,e2];simp [sideS]
def DecO (w w':World) (s:ByteArray) (e:Ending):Prop:=∃ao cap,e=.returned (.tuple #[.agg #[.int .i64 (decT s).1,.int .i64 (decT s).2.1,.slice ao (s.size-(decT s).2.2) cap],.int .i64 (decE s)])∧Below w.heap.size w w'∧ByRow w' (.slice ao (s.size-(decT s).2.2) cap)∧ByAt w' ao (s.size-(decT s).2.2) (fun k=>Num.byt s ((decT s).2.2+k))∧∀q,(Value.slice ao (s.size-(decT s).2.2) cap).ownBlock=some q→w.heap.size≤q
def grD (a b:Int) (v:Value) (q:Nat):Value:=[Value.int .i64 a,.int .i64 b,v][q]?.getD undef
theorem grD_row (a b:Int) (v:Value) (w:World) (t:TypeId):(w.alloc (.cells #[.int .i64 a,.int .i64 b,v] t)).rowIs w.heap.size t 3 (grD a b v):=by
  refine World.rowIs_alloc w #[.int .i64 a,.int .i64 b,v] t (grD a b v) (fun i hi=>?_)
  have hi:i<3:=hi
  rcases (show i=0∨i=1∨i=2 by omega) with rfl | rfl | rfl <;> rfl
theorem grD_cells {w:World} {p:Nat} {t:TypeId} {a b:Int} {v:Value} (h:w.rowIs p t 3 (grD a b v)):w.cell? ⟨p,0,none⟩=some (.int .i64 a)∧w.cell? ⟨p,1,none⟩=some (.int .i64 b)∧w.cell? ⟨p,2,none⟩=some v:=
  ⟨h.cell (i:=0) (by omega),h.cell (i:=1) (by omega),h.cell (i:=2) (by omega)⟩
theorem grD_set {w:World} {p:Nat} {t:TypeId} {f:Nat→Value} (h:w.rowIs p t 3 f) (a b:Int) (v:Value):(((w.setCell ⟨p,0,none⟩ (.int .i64 a)).setCell ⟨p,1,none⟩ (.int .i64 b)).setCell ⟨p,2,none⟩ v).rowIs p t 3 (grD a b v):=by
  refine (((h.set 0 _).set 1 _).set 2 _).congr fun q hq=>?_
  rcases (show q=0∨q=1∨q=2 by omega) with rfl | rfl | rfl <;> rfl
theorem byt_extract {s:ByteArray} {p k:Nat} (hp:p≤s.size) (hk:k<s.size-p):((s.extract p s.size).data[k]?).map (fun b=>(b.toNat:Int))=some (Num.byt s (p+k):Int):=by
  have h2:s.data.size=s.size:=rfl
  have h3:(s.data.extract p s.size)[k]? = s.data[p+k]?:=by rw [Array.getElem?_extract,if_pos (by omega)]
  rw [Num.byt_lt (by omega),ByteArray.data_extract,h3,Array.getElem?_eq_getElem (by omega)]
  rfl
theorem rd0_row (s:ByteArray) (w:World) (t:TypeId):(w.alloc (.cells #[.string s,.int .i64 0,.bool false] t)).rowIs w.heap.size t 3 (rd3 s 0 false):=by
  refine World.rowIs_alloc w #[.string s,.int .i64 0,.bool false] t (rd3 s 0 false) (fun i hi=>?_)
  have hi:i<3:=hi
  rcases (show i=0∨i=1∨i=2 by omega) with rfl | rfl | rfl <;> rfl
theorem cellD_of_heap {w w':World} {p:Addr} (e:w'.heap[p.block]? = w.heap[p.block]?):w'.cell? p=w.cell? p:=by unfold World.cell?;rw [e]
theorem byAt_touch {w w':World} {b n:Nat} {S:Nat→Prop} {X:Nat→Int} (h:ByAt w (some ⟨b,0,none⟩) n X) (hT:Touch S w w') (hb:¬S b):ByAt w' (some ⟨b,0,none⟩) n X:=by
  rcases h with h | ⟨b',off,e,h⟩
  · exact .inl h
  · refine .inr ⟨b',off,e,fun k hk=>?_⟩
    have e2:b'=b:=by simp at e;exact e.1.symm
    subst e2
    rw [←h k hk]
    exact cellD_of_heap (p:=⟨b',off+k,none⟩) (hT.block _ (World.block_lt_of_cell? w _ (h k hk)) hb)
theorem bytes_laid {w:World} {s:ByteArray} {p:Nat} (hp:p≤s.size) (cap:Nat) (hc:s.size-p≤cap) (hc2:(cap:Int)≤9223372036854775807) :
    let W:=w.drew.alloc (.cells (bytesRow (s.extract p s.size) cap) 5 ((bytesRow (s.extract p s.size) cap).size,(bytesRow (s.extract p s.size) cap).size+1))
    ByRow W (.slice (some ⟨w.heap.size,0,none⟩) (s.size-p) cap)∧ByAt W (some ⟨w.heap.size,0,none⟩) (s.size-p) (fun k=>Num.byt s (p+k)):=by
  intro W
  have hsz:(s.extract p s.size).size=s.size-p:=by simp [ByteArray.size_extract]
  have hrs:(bytesRow (s.extract p s.size) cap).size=cap:=by
    have:(s.extract p s.size).data.size=s.size-p:=hsz
    unfold bytesRow
    simp only [Array.size_append,Array.size_map,Array.size_replicate,this,hsz]
    omega
  have hb:W.heap[w.heap.size]? = some (.cells (bytesRow (s.extract p s.size) cap) 5 ((bytesRow (s.extract p s.size) cap).size,(bytesRow (s.extract p s.size) cap).size+1)):=by
    show (w.heap.push _)[w.heap.size]? = _
    simp
  have hrow:rowIz W w.heap.size 5 cap (fun i=>(bytesRow (s.extract p s.size) cap)[i]?.getD undef):=⟨_,_,hb,hrs,.inr (by simp only;omega),fun i hi=>by simp [show i<(bytesRow (s.extract p s.size) cap).size by omega]⟩
  refine ⟨⟨some w.heap.size,s.size-p,cap,rfl,hc,hc2,(fun e=>by cases e),fun b hbb=>⟨_,by simp at hbb;subst hbb;exact hrow⟩⟩,?_⟩
  rcases Nat.eq_zero_or_pos (s.size-p) with h0 | h0
  · exact .inl h0
  · refine .inr ⟨w.heap.size,0,rfl,fun k hk=>?_⟩
    have hk2:k<(s.extract p s.size).data.size:=by have:(s.extract p s.size).data.size=s.size-p:=hsz;omega
    rw [Nat.zero_add,hrow.cell (by omega),bytesRow_at _ _ _ hk2]
    have:=byt_extract hp hk
    rw [Array.getElem?_eq_getElem hk2] at this
    simp only [Option.map_some,Option.some.injEq] at this
    simp only [Option.getD_some]
    rw [this]
set_option maxRecDepth 100000 in
theorem decode_any (s:ByteArray) (w:World) (hs2:(s.size:Int)≤9000000000000000000):Calls Tryz.prog 96 #[.string s] w fun e w'=>DecO w w' s e:=by
  obtain ⟨gb,hgb⟩:∃gb,gb=w.heap.size:=⟨_,rfl⟩
  obtain ⟨W0,hW0⟩:∃W0,W0=w.alloc (.cells #[.int .i64 0,.int .i64 0,.slice none 0 0] 47):=⟨_,rfl⟩
  have hg0:W0.rowIs gb 47 3 (grD 0 0 (.slice none 0 0)):=by rw [hW0,hgb];exact grD_row _ _ _ _ _
  have hB0:Below w.heap.size w W0:=by rw [hW0];exact (Below.refl _ _).alloc (Nat.le_refl _) _
  have hs0:W0.heap.size=gb+1:=by rw [hW0,hgb];simp
  have none_fin:∀wx:World,Num.decV s=none→Below w.heap.size w wx→DecO w wx s (.returned (.tuple #[.agg #[.int .i64 0,.int .i64 0,.slice none 0 0],.int .i64 10])):=fun wx hn hb=>by
    obtain ⟨e1,e2⟩:=decT_none hn
    refine ⟨none,0,?_,hb,?_,?_,?_⟩
    · rw [e1,e2];simp
    · rw [e1];simp;exact ByRow.nil
    · rw [e1];simp;exact .inl rfl
    · intro q hq;simp [Value.ownBlock] at hq
  by_cases hs:s.size≤8192
  · have hd:decide ((8192:Int)<(s.size:Int))=false:=by simp;omega
    obtain ⟨W1,hW1⟩:∃W1,W1=W0.alloc (.cells #[.string s,.int .i64 0,.bool false] 202):=⟨_,rfl⟩
    obtain ⟨rb,hrb⟩:∃rb,rb=gb+1:=⟨_,rfl⟩
    have hr1:W1.rowIs rb 202 3 (rd3 s 0 false):=by rw [hW1,hrb,←hs0];exact rd0_row _ _ _
    have hg1:W1.rowIs gb 47 3 (grD 0 0 (.slice none 0 0)):=by rw [hW1];exact hg0.alloc _
    have hB1:Below w.heap.size w W1:=by rw [hW1];exact hB0.alloc (by omega) _
    have R0:RdS W1 W1 rb s false 0 () (some ((),0)):=⟨hr1,by omega,Touch.refl _ _,.inl ⟨rfl,rfl⟩⟩
    have HNone:=hide none_fin
    have HG1:=hide hg1
    have HB1:=hide hB1
    have HD:=hide (decV_eq hs)
    have hgr:gb≠rb:=by omega
    have hwg:w.heap.size≤gb:=by omega
    have hs1:W1.heap.size=rb+1:=by rw [hW1];simp;omega
    have HR0:=hide R0
    clear none_fin hg1 hB1 hg0 hB0 R0 hr1
    go_enter Tryz.func96,Tryz.ntmps96
    go_wp2_with fail
    rw [←hW0,←hW1]
    rw [←hgb]
    rw [←hrb]
    have HGb:=hide hgb
    have HRb:=hide hrb
    clear hgb hrb hW0 hW1 hs0
    refine (rdWord_any rb s ⟨#[80,53]⟩ 0 false W1 hs (by decide) (by omega) HR0.out.row).mono ?_
    rintro e w1 ⟨rfl,t1⟩
    rw [show (ByteArray.mk #[80,53]).toList=[80,53] from ByteArray.toList_mk _] at t1
    obtain ⟨b1,p1,R1⟩:=HR0.out.step t1
    have HR1:=hide R1
    clear t1 R1 HR0
    go_wp2_with fail
    refine (rdGap_any rb s p1 b1 w1 hs HR1.out.le HR1.out.row).mono ?_
    rintro e w2 ⟨rfl,t2⟩
    obtain ⟨b2,p2,R2⟩:=HR1.out.step t2
    have HR2:=hide R2
    clear t2 R2 HR1
    go_wp2_with fail
    refine (rdSide_any rb s p2 b2 w2 hs HR2.out.le HR2.out.row).mono ?_
    rintro e w3 ⟨v1,rfl,hv1,t3,hx3⟩
    obtain ⟨b3,p3,R3⟩:=HR2.out.side t3 hx3
    have HR3:=hide R3
    clear t3 R3 HR2 hx3
    go_wp2_with fail
    refine (rdGap_any rb s p3 b3 w3 hs HR3.out.le HR3.out.row).mono ?_
    rintro e w4 ⟨rfl,t4⟩
    obtain ⟨b4,p4,R4⟩:=HR3.out.step t4
    have HR4:=hide R4
    clear t4 R4 HR3
    go_wp2_with fail
    refine (rdSide_any rb s p4 b4 w4 hs HR4.out.le HR4.out.row).mono ?_
    rintro e w5 ⟨v2,rfl,hv2,t5,hx5⟩
    obtain ⟨b5,p5,R5⟩:=HR4.out.side t5 hx5
    have HR5:=hide R5
    clear t5 R5 HR4 hx5
    go_wp2_with fail
    refine (rdGap_any rb s p5 b5 w5 hs HR5.out.le HR5.out.row).mono ?_
    rintro e w6 ⟨rfl,t6⟩
    obtain ⟨b6,p6,R6⟩:=HR5.out.step t6
    have HR6:=hide R6
    clear t6 R6 HR5
    go_wp2_with fail
    refine (rdWord_any rb s ⟨#[50,53,53]⟩ p6 b6 w6 hs (by decide) HR6.out.le HR6.out.row).mono ?_
    rintro e w7 ⟨rfl,t7⟩
    rw [show (ByteArray.mk #[50,53,53]).toList=[50,53,53] from ByteArray.toList_mk _] at t7
    obtain ⟨b7,p7,R7⟩:=HR6.out.step t7
    have HR7:=hide R7
    clear t7 R7 HR6
    go_wp2_with fail
    refine (rdSpace_any rb s p7 b7 w7 hs HR7.out.le HR7.out.row).mono ?_
    rintro e w8 ⟨rfl,t8⟩
    obtain ⟨b8,p8,R8⟩:=HR7.out.step t8
    have HR8:=hide R8
    clear t8 R8 HR7
    obtain ⟨c0,c1,c2,z0,z1,z2⟩:=rd_cells HR8.out.row
    have hp8:=HR8.out.le
    have hrl:=HR8.out.row.lt
    have g8:w8.rowIs gb 47 3 (grD 0 0 (.slice none 0 0)):=HG1.out.of_block (HR8.out.touch.block gb (by have:=HRb.out;omega) hgr)
    have hB8:Below w.heap.size w w8:=⟨HR8.out.touch.os.trans HB1.out.os,HR8.out.touch.tape.trans HB1.out.tape,HR8.out.touch.output.trans HB1.out.output,by have:=HB1.out.size;have:=HR8.out.touch.size;omega,fun q hq=>by rw [HR8.out.touch.block q (by have:=HRb.out;omega) (by have:=HRb.out;omega)];exact HB1.out.block q hq⟩
    have HG8:=hide g8
    have HB8:=hide hB8
    have hgl:=g8.lt
    obtain ⟨y0,y1,y2⟩:=grD_cells g8
    have x0:=g8.frozen 0
    have x1:=g8.frozen 1
    have x2:=g8.frozen 2
    have w1_:IntKind.i64.wrap ((s.size:Int)-(p8:Int))=(s.size:Int)-(p8:Int):=wrap_ok _ (by omega) (by omega)
    have hmul:v1*v2≤4096:=Nat.le_trans (Nat.mul_le_mul hv1 hv2) (by omega)
    have w2_:IntKind.i64.wrap ((v1:Int)*(v2:Int))=(v1:Int)*(v2:Int):=wrap_ok _ (by rw [←Int.natCast_mul];omega) (by rw [←Int.natCast_mul];omega)
    clear g8 hB8 hmul
    cases b8
    · by_cases hq:s.size-p8=v1*v2
      · have hne:((s.size:Int)-(p8:Int) != (v1:Int)*(v2:Int))=false:=by simp;rw [←Int.natCast_mul];omega
        have HQ:=hide hq
        clear hq
        have HV:Hid (Num.decV s=some (v1,v2,p8)):=by
          unfold Hid;rw [HD.out]
          rcases HR8.out.st with ⟨_,e2⟩ | ⟨e1,_⟩
          · rw [show decS s=some ((((),v1),v2),p8) from e2];simp [HQ.out]
          · cases e1
        obtain ⟨e1,e2⟩:=decT_some HV.out
        have hsz:(s.extract p8 s.size).size=s.size-p8:=by simp [ByteArray.size_extract]
        have hrun:=run_bytes_of_string (P:=Tryz.prog) w8 9 45 5 (s.extract p8 s.size) rfl rfl rfl
        rw [hsz] at hrun
        have hc1:=grownCap_ge w8 (s.size-p8) 0 5
        have hc2:=grownCap_le_maxLen w8 (s.size-p8) 0 5
        obtain ⟨cap,hcap⟩:∃c,c=grownCap w8 (s.size-p8) 0 5:=⟨_,rfl⟩
        rw [←hcap] at hrun hc1 hc2
        have hc3:(cap:Int)≤9223372036854775807:=by have:=hc2 (by simp [maxLen];omega);simp [maxLen] at this;omega
        have hl:=bytes_laid (w:=w8) hp8 cap hc1 hc3
        obtain ⟨W9,hW9⟩:∃W9,W9=w8.drew.alloc (.cells (bytesRow (s.extract p8 s.size) cap) 5 ((bytesRow (s.extract p8 s.size) cap).size,(bytesRow (s.extract p8 s.size) cap).size+1)):=⟨_,rfl⟩
        obtain ⟨nb,hnb⟩:∃nb,nb=w8.heap.size:=⟨_,rfl⟩
        simp only at hl
        rw [←hW9,←hnb] at hl
        rw [←hW9,←hnb] at hrun
        have HB9:Hid (Below w8.heap.size w8 W9):=by unfold Hid;rw [hW9];exact ((Below.refl _ _).drew).alloc (Nat.le_refl _) _
        have g9:W9.rowIs gb 47 3 (grD 0 0 (.slice none 0 0)):=HG8.out.of_block (HB9.out.block gb hgl)
        obtain ⟨q0,q1,q2⟩:=grD_cells g9
        have u0:=g9.frozen 0
        have u1:=g9.frozen 1
        have u2:=g9.frozen 2
        have hgl9:=g9.lt
        have hgn:gb≠nb:=by omega
        have HL:=hide hl
        have HE1:=hide e1
        have HE2:=hide e2
        have HNb:=hide hnb
        have HG9:=hide g9
        have HC:=hide (And.intro hc1 hc3)
        clear hl e1 e2 hnb g9 hcap hW9 hc1 hc2 hc3 hsz
        go_wp2_with fail
        obtain ⟨WE,hWE⟩:∃WE,WE=((W9.setCell ⟨gb,0,none⟩ (.int .i64 v1)).setCell ⟨gb,1,none⟩ (.int .i64 v2)).setCell ⟨gb,2,none⟩ (.slice (some ⟨nb,0,none⟩) (s.size-p8) cap):=⟨_,rfl⟩
        rw [←hWE]
        have gE:WE.rowIs gb 47 3 (grD v1 v2 (.slice (some ⟨nb,0,none⟩) (s.size-p8) cap)):=by rw [hWE];exact grD_set HG9.out _ _ _
        obtain ⟨k0,k1,k2⟩:=grD_cells gE
        have hBE:Below gb W9 WE:=by rw [hWE];exact (((Below.refl gb W9).setCell (p:=⟨gb,0,none⟩) (Nat.le_refl _) _).setCell (p:=⟨gb,1,none⟩) (Nat.le_refl _) _).setCell (p:=⟨gb,2,none⟩) (Nat.le_refl _) _
        have hTE:Touch (fun q=>q=gb) W9 WE:=by rw [hWE];exact (((Touch.refl (fun q=>q=gb) W9).setCell (p:=⟨gb,0,none⟩) (.inl rfl) _).setCell (p:=⟨gb,1,none⟩) (.inl rfl) _).setCell (p:=⟨gb,2,none⟩) (.inl rfl) _
        refine bodyPost_ret (v:=.tuple #[.agg #[.int .i64 v1,.int .i64 v2,.slice (some ⟨nb,0,none⟩) (s.size-p8) cap],.int .i64 0]) (by simp [results,Tryz.results96,go_sem,k0,k1,k2]) rfl ?_
        refine ⟨some ⟨nb,0,none⟩,cap,?_,?_,?_,?_,?_⟩
        · rw [HE1.out,HE2.out]
        · exact (HB8.out.trans (HB9.out.mono (by have:=HB8.out.size;omega))).trans (hBE.mono hwg)
        · rw [HE1.out];exact HL.out.1.of_blocks fun b hb=>hTE.block b (HL.out.1.lt hb).1 (by simp [Value.ownBlock] at hb;omega)
        · rw [HE1.out];exact byAt_touch HL.out.2 hTE (fun e=>hgn e.symm)
        · rw [HE1.out];intro q hq;simp [Value.ownBlock] at hq;have:=HNb.out;have:=HB8.out.size;omega
      · have hne:((s.size:Int)-(p8:Int) != (v1:Int)*(v2:Int))=true:=by simp;intro e;rw [←Int.natCast_mul] at e;omega
        have HV:Hid (Num.decV s=none):=by
          unfold Hid;rw [HD.out]
          rcases HR8.out.st with ⟨_,e2⟩ | ⟨e1,_⟩
          · rw [show decS s=some ((((),v1),v2),p8) from e2];simp [hq]
          · cases e1
        go_wp2_with fail
        obtain ⟨WE,hWE⟩:∃WE,WE=((w8.setCell ⟨gb,0,none⟩ (.int .i64 0)).setCell ⟨gb,1,none⟩ (.int .i64 0)).setCell ⟨gb,2,none⟩ (.slice none 0 0):=⟨_,rfl⟩
        rw [←hWE]
        have gE:WE.rowIs gb 47 3 (grD 0 0 (.slice none 0 0)):=by rw [hWE];exact grD_set HG8.out _ _ _
        obtain ⟨k0,k1,k2⟩:=grD_cells gE
        exact bodyPost_ret (v:=.tuple #[.agg #[.int .i64 0,.int .i64 0,.slice none 0 0],.int .i64 10]) (by simp [results,Tryz.results96,go_sem,k0,k1,k2]) rfl (HNone.out WE HV.out (by rw [hWE];exact ((HB8.out.setCell hwg _).setCell hwg _).setCell hwg _))
    · have HV:Hid (Num.decV s=none):=by
        unfold Hid;rw [HD.out]
        rcases HR8.out.st with ⟨e1,_⟩ | ⟨_,e2⟩
        · cases e1
        · rw [show decS s=none from e2];rfl
      go_wp2_with fail
      obtain ⟨WE,hWE⟩:∃WE,WE=((w8.setCell ⟨gb,0,none⟩ (.int .i64 0)).setCell ⟨gb,1,none⟩ (.int .i64 0)).setCell ⟨gb,2,none⟩ (.slice none 0 0):=⟨_,rfl⟩
      rw [←hWE]
      have gE:WE.rowIs gb 47 3 (grD 0 0 (.slice none 0 0)):=by rw [hWE];exact grD_set HG8.out _ _ _
      obtain ⟨k0,k1,k2⟩:=grD_cells gE
      exact bodyPost_ret (v:=.tuple #[.agg #[.int .i64 0,.int .i64 0,.slice none 0 0],.int .i64 10]) (by simp [results,Tryz.results96,go_sem,k0,k1,k2]) rfl (HNone.out WE HV.out (by rw [hWE];exact ((HB8.out.setCell hwg _).setCell hwg _).setCell hwg _))
  · have hd:decide ((8192:Int)<(s.size:Int))=true:=by simp;omega
    have HV:Hid (Num.decV s=none):=by unfold Hid Num.decV;rw [if_pos (by omega)]
    have HNone:=hide none_fin
    have HG0:=hide hg0
    have HB0:=hide hB0
    have hwg:w.heap.size≤gb:=by omega
    clear none_fin hg0 hB0
    go_enter Tryz.func96,Tryz.ntmps96
    go_wp2_with fail
    rw [←hW0]
    rw [←hgb]
    obtain ⟨y0,y1,y2⟩:=grD_cells HG0.out
    exact bodyPost_ret (v:=.tuple #[.agg #[.int .i64 0,.int .i64 0,.slice none 0 0],.int .i64 10]) (by simp [results,Tryz.results96,go_sem,y0,y1,y2]) rfl (HNone.out W0 HV.out HB0.out)
def tl (s:ByteArray) (p:Nat):ByteArray:=s.extract p s.size
theorem tl_size (s:ByteArray) (p:Nat):(tl s p).size=s.size-p:=by unfold tl;simp [ByteArray.size_extract]
theorem tl_zero (s:ByteArray):tl s 0=s:=by unfold tl;simp
theorem tl_ix {s:ByteArray} {p k:Nat} (h:k<(tl s p).size):((tl s p)[k].toNat:Int)=(Num.byt s (p+k):Int):=by
  have h2:p+k<s.size:=by rw [tl_size] at h;omega
  rw [Num.byt_lt h2]
  simp [tl,ByteArray.getElem_extract]
theorem tl_take {s:ByteArray} {p k:Nat} (h:p+k≤s.size):(tl s p).extract 0 k=s.extract p (p+k):=by
  unfold tl;rw [ByteArray.extract_extract];congr 1 <;> omega
theorem tl_drop {s:ByteArray} {p k:Nat} (_h:p+k≤s.size):(tl s p).extract k (tl s p).size=tl s (p+k):=by
  rw [tl_size];unfold tl;rw [ByteArray.extract_extract];congr 1;omega
theorem tl_drop' {s:ByteArray} {p k:Nat} (h:p+k≤s.size):(tl s p).extract k (s.size-p)=tl s (p+k):=by rw [←tl_drop h,tl_size]
theorem tl_nil {s:ByteArray} {p:Nat} (h:p≤s.size):(tl s p).toList.isEmpty=decide (p=s.size):=by
  have hz:(tl s p).toList.length=s.size-p:=by rw [ByteArray.toList_eq];exact tl_size s p
  by_cases hp:p=s.size
  · rw [List.eq_nil_of_length_eq_zero (by omega:(tl s p).toList.length=0)];simp [hp]
  · have:(tl s p).toList≠[]:=fun e=>by rw [e] at hz;simp at hz;omega
    simp [this,hp]
def cu2 (s:ByteArray) (p:Nat) (b:Bool) (q:Nat):Value:=if q=0 then .string (tl s p) else .bool b
def CuTo (w w':World) (cb:Nat) (s:ByteArray) (b:Bool) (o:Option Nat):Prop:=Touch (fun q=>q=cb) w w'∧∃p',w'.rowIs cb 164 2 (cu2 s p' (b || o.isNone))∧p'≤s.size∧∀q,b=false→o=some q→p'=q
theorem cu_cells {w:World} {cb:Nat} {t:TypeId} {s:ByteArray} {p:Nat} {b:Bool} (h:w.rowIs cb t 2 (cu2 s p b)):w.cell? ⟨cb,0,none⟩=some (.string (tl s p))∧w.cell? ⟨cb,1,none⟩=some (.bool b)∧w.frozen? ⟨cb,0,none⟩=false∧w.frozen? ⟨cb,1,none⟩=false:=
  ⟨h.cell (i:=0) (by omega),h.cell (i:=1) (by omega),h.frozen 0,h.frozen 1⟩
theorem cu_at {w:World} {cb:Nat} {t:TypeId} {s:ByteArray} {p:Nat} {b:Bool} (h:w.rowIs cb t 2 (cu2 s p b)) (q:Nat):(w.setCell ⟨cb,0,none⟩ (.string (tl s q))).rowIs cb t 2 (cu2 s q b):=by
  refine (h.set 0 _).congr fun i hi=>?_
  rcases (show i=0∨i=1 by omega) with rfl | rfl <;> rfl
theorem cu_bad {w:World} {cb:Nat} {t:TypeId} {s:ByteArray} {p:Nat} {b:Bool} (h:w.rowIs cb t 2 (cu2 s p b)):(w.setCell ⟨cb,1,none⟩ (.bool true)).rowIs cb t 2 (cu2 s p true):=by
  refine (h.set 1 _).congr fun i hi=>?_
  rcases (show i=0∨i=1 by omega) with rfl | rfl <;> rfl
theorem CuTo.go {w wx:World} {cb:Nat} {s:ByteArray} {p:Nat} {b:Bool} {o:Option Nat} (q:Nat) (hT:Touch (fun q=>q=cb) w wx) (h:wx.rowIs cb 164 2 (cu2 s p b)) (hq:q≤s.size) (ho:o=some q):CuTo w (wx.setCell ⟨cb,0,none⟩ (.string (tl s q))) cb s b o:=by
  refine ⟨hT.setCell (p:=⟨cb,0,none⟩) (.inl rfl) _,q,?_,hq,fun r _ hr=>by rw [ho] at hr;simp at hr;exact hr⟩
  rw [ho]
  simp only [Option.isNone_some,Bool.or_false]
  exact cu_at h q
theorem CuTo.bad {w wx:World} {cb:Nat} {s:ByteArray} {p:Nat} {b b':Bool} {o:Option Nat} (hT:Touch (fun q=>q=cb) w wx) (h:wx.rowIs cb 164 2 (cu2 s p b')) (hp:p≤s.size) (ho:o=none∨b=true):CuTo w (wx.setCell ⟨cb,1,none⟩ (.bool true)) cb s b o:=by
  refine ⟨hT.setCell (p:=⟨cb,1,none⟩) (.inl rfl) _,p,?_,hp,fun r hb hr=>by rcases ho with e | e <;> simp_all⟩
  have e:(b || o.isNone)=true:=by rcases ho with e | e <;> simp [e]
  rw [e]
  exact cu_bad h
theorem white_any (c:Nat) (w:World) :
    Calls Tryz.prog 145 #[.int .u8 c] w fun e w'=>e=.returned (.bool (Num.isSp c))∧w'=w:=by
  go_enter Tryz.func145,Tryz.ntmps145
  by_cases h1:(c:Int)=32
  · go_wp2
    go_ret
    exact ⟨ret_bool (by simp [Num.isSp];omega),rfl⟩
  by_cases h2:(c:Int)=9
  · go_wp2
    go_ret
    exact ⟨ret_bool (by simp [Num.isSp];omega),rfl⟩
  by_cases h3:(c:Int)=10
  · go_wp2
    go_ret
    exact ⟨ret_bool (by simp [Num.isSp];omega),rfl⟩
  by_cases h4:(c:Int)=13
  · go_wp2
    go_ret
    exact ⟨ret_bool (by simp [Num.isSp];omega),rfl⟩
  · have e:Num.isSp c=false:=by simp [Num.isSp];omega
    have a1:((c:Int) == 32)=false:=by simp;omega
    have a2:((c:Int) == 9)=false:=by simp;omega
    have a3:((c:Int) == 10)=false:=by simp;omega
    have a4:((c:Int) == 13)=false:=by simp;omega
    go_wp2
    go_ret
    exact ⟨ret_bool (by rw [e]),rfl⟩
set_option maxRecDepth 100000 in
theorem cuWord_any (cb:Nat) (s t:ByteArray) (p:Nat) (b:Bool) (w:World) (_hs:s.size≤8192) (ht:t.size≤10) (hp:p≤s.size) (h:w.rowIs cb 164 2 (cu2 s p b)) :
    Calls Tryz.prog 97 #[.pointer (some ⟨cb,0,none⟩),.string t] w fun e w'=>e=.returned (.tuple #[])∧CuTo w w' cb s b (Num.wordV s t.toList p):=by
  obtain ⟨c0,c1,z0,z1⟩:=cu_cells h
  have hrl:=h.lt
  have HTl:=hide (show t.toList.length=t.size by rw [ByteArray.toList_eq];rfl)
  have HH:=hide h
  clear h
  cases b
  · have hts:=tl_size s p
    by_cases h1:p+t.size≤s.size
    · have hd:decide (((tl s p).size:Int)<(t.size:Int))=false:=by simp;omega
      have hd2:decide ((t.size:Int)≤((tl s p).size:Int))=true:=by simp;omega
      have g1:(0:Int)≤(t.size:Int):=by omega
      have g2:(t.size:Int)≤((tl s p).size:Int):=by omega
      have htk:=tl_take h1
      have htd:=tl_drop' h1
      cases hq:((s.extract p (p+t.size)).toList == t.toList)
      · have HV:Hid (Num.wordV s t.toList p=none):=by unfold Hid Num.wordV;rw [HTl.out,if_neg (by simp at hq;intro e;exact hq e.2)]
        go_enter Tryz.func97,Tryz.ntmps97
        go_wp2
        exact bodyPost_ret (results_none rfl _ _ _) rfl ⟨rfl,CuTo.bad (Touch.refl _ _) HH.out hp (.inl HV.out)⟩
      · have HV:Hid (Num.wordV s t.toList p=some (p+t.size)):=by unfold Hid Num.wordV;rw [HTl.out,if_pos ⟨h1,by simpa using hq⟩]
        go_enter Tryz.func97,Tryz.ntmps97
        go_wp2
        go_end0
        exact ⟨rfl,CuTo.go _ (Touch.refl _ _) HH.out h1 HV.out⟩
    · have hd:decide (((tl s p).size:Int)<(t.size:Int))=true:=by simp;omega
      have HV:Hid (Num.wordV s t.toList p=none):=by unfold Hid Num.wordV;rw [HTl.out,if_neg (by omega)]
      go_enter Tryz.func97,Tryz.ntmps97
      go_wp2
      exact bodyPost_ret (results_none rfl _ _ _) rfl ⟨rfl,CuTo.bad (Touch.refl _ _) HH.out hp (.inl HV.out)⟩
  · go_enter Tryz.func97,Tryz.ntmps97
    go_wp2
    exact bodyPost_ret (results_none rfl _ _ _) rfl ⟨rfl,CuTo.bad (Touch.refl _ _) HH.out hp (.inr rfl)⟩
set_option maxRecDepth 100000 in
theorem cuBlank_any (cb:Nat) (s:ByteArray) (p:Nat) (b:Bool) (w:World) (_hs:s.size≤8192) (hp:p≤s.size) (h:w.rowIs cb 164 2 (cu2 s p b)) :
    Calls Tryz.prog 100 #[.pointer (some ⟨cb,0,none⟩)] w fun e w'=>e=.returned (.tuple #[])∧CuTo w w' cb s b (Num.spV s p):=by
  obtain ⟨c0,c1,z0,z1⟩:=cu_cells h
  have hrl:=h.lt
  have HH:=hide h
  have hnl:=tl_nil hp
  clear h
  cases b
  · have hts:=tl_size s p
    by_cases h1:p<s.size
    · rw [show decide (p=s.size)=false by simp;omega] at hnl
      have g2:(1:Int)≤((tl s p).size:Int):=by omega
      have g3:0<(tl s p).size:=by omega
      have htd:=tl_drop' (s:=s) (p:=p) (k:=1) (by omega)
      have hix:=tl_ix (s:=s) (p:=p) (k:=0) g3
      rw [Nat.add_zero] at hix
      have HSp:=hide (fun w'=>white_any (Num.byt s p) w')
      cases hsp:Num.isSp (Num.byt s p)
      · have HV:Hid (Num.spV s p=none):=by unfold Hid Num.spV;rw [if_neg (by simp [hsp])]
        rw [hsp] at HSp
        go_enter Tryz.func100,Tryz.ntmps100
        go_wp2_with (go_at_call 145;refine (HSp.out _).mono ?_;rintro e w' ⟨rfl,hw'⟩;rw [hw'];clear hw')
        exact bodyPost_ret (results_none rfl _ _ _) rfl ⟨rfl,CuTo.bad (Touch.refl _ _) HH.out hp (.inl HV.out)⟩
      · have HV:Hid (Num.spV s p=some (p+1)):=by unfold Hid Num.spV;rw [if_pos ⟨h1,hsp⟩]
        rw [hsp] at HSp
        go_enter Tryz.func100,Tryz.ntmps100
        go_wp2_with (go_at_call 145;refine (HSp.out _).mono ?_;rintro e w' ⟨rfl,hw'⟩;rw [hw'];clear hw')
        go_end0
        exact ⟨rfl,CuTo.go _ (Touch.refl _ _) HH.out (by omega) HV.out⟩
    · rw [show decide (p=s.size)=true by simp;omega] at hnl
      have HV:Hid (Num.spV s p=none):=by unfold Hid Num.spV;rw [if_neg (by omega)]
      go_enter Tryz.func100,Tryz.ntmps100
      go_wp2
      exact bodyPost_ret (results_none rfl _ _ _) rfl ⟨rfl,CuTo.bad (Touch.refl _ _) HH.out hp (.inl HV.out)⟩
  · go_enter Tryz.func100,Tryz.ntmps100
    go_wp2
    exact bodyPost_ret (results_none rfl _ _ _) rfl ⟨rfl,CuTo.bad (Touch.refl _ _) HH.out hp (.inr rfl)⟩
end Go.Proofs.YtkhcjkmifddlbabGreatDoor
